import Derived.WalkKit
import Derived.Laws.CopyRow
import Derived.Laws.IdiomCopy
import Derived.Laws.MakeOwn
import Derived.OwnWalk
import Derived.Laws.AppendOwn
import Derived.Deep.Draws
import Derived.Test.YtjadpbkhfclldaaGreatProg
import Derived.Test.YtjadpbkhfclldaaGreatChecked
import Derived.WalkSpells
import Derived.WalkLawsBesides
import Derived.Deep.QuietTactic
import Derived.BigQuiet
import Derived.Deep.RegionHeld3
import Derived.Deep.RegionHeld2
import Derived.Deep.Cut
import Derived.Deep.CutBlock
import Derived.Deep.CutRange
import Derived.Shelf.RegionOpen
import Derived.StillTailTactics

namespace Go.Proofs.YtjadpbkhfclldaaGreat
open Go.RowKit

/-- The world has grown, and but for the blocks of S every old block is as it was. -/
structure Keeps (S : Nat → Prop) (w w' : World) : Prop where
  os : w'.os = w.os
  tape : w'.tape = w.tape
  output : w'.output = w.output
  size : w.heap.size ≤ w'.heap.size
  block : ∀ k, k < w.heap.size → ¬ S k → w'.heap[k]? = w.heap[k]?

/-- Block g holds these cells. -/
def Blk (w : World) (g : Nat) (l : List Value) (t : TypeId) : Prop := w.heap[g]? = some (.cells l.toArray t (0, 0))

def bvs (xs : List UInt8) : List Value := xs.map fun x => .int .u8 (x.toNat : Int)

theorem bvs_length (xs : List UInt8) : (bvs xs).length = xs.length := by simp [bvs]
theorem bvs_append (xs ys : List UInt8) : bvs (xs ++ ys) = bvs xs ++ bvs ys := by simp [bvs]
theorem bvs_take (xs : List UInt8) (n : Nat) : bvs (xs.take n) = (bvs xs).take n := by simp [bvs, List.map_take]
theorem bvs_drop (xs : List UInt8) (n : Nat) : bvs (xs.drop n) = (bvs xs).drop n := by simp [bvs, List.map_drop]
theorem bvs_get (xs : List UInt8) (i : Nat) (h : i < xs.length) : (bvs xs)[i]? = some (.int .u8 (xs[i].toNat : Int)) := by simp [bvs, h]
theorem bvs_one (xs : List UInt8) : ∀ v ∈ bvs xs, v.oneCell' = true := by
  intro v hv
  obtain ⟨x, _, rfl⟩ := List.mem_map.1 hv
  rfl

theorem addr_add (g o j : Nat) : (⟨g, o, none⟩ : Addr).add j = ⟨g, o + j, none⟩ := by
  unfold Addr.add
  split <;> simp_all

section
variable {S T : Nat → Prop} {w w' w'' : World}

theorem Keeps.refl (S : Nat → Prop) (w : World) : Keeps S w w := ⟨rfl, rfl, rfl, Nat.le_refl _, fun _ _ _ => rfl⟩
theorem Keeps.trans (h : Keeps S w w') (k : Keeps T w' w'') (hs : ∀ b, b < w.heap.size → T b → S b) : Keeps S w w'' :=
  ⟨k.os.trans h.os, k.tape.trans h.tape, k.output.trans h.output, Nat.le_trans h.size k.size,
    fun b hb hn => (k.block b (Nat.lt_of_lt_of_le hb h.size) fun ht => hn (hs b hb ht)).trans (h.block b hb hn)⟩
theorem Keeps.mono (h : Keeps S w w') (hs : ∀ b, b < w.heap.size → S b → T b) : Keeps T w w' :=
  ⟨h.os, h.tape, h.output, h.size, fun b hb hn => h.block b hb fun ht => hn (hs b hb ht)⟩
theorem Keeps.drewN (h : Keeps S w w') (n : Nat) : Keeps S w (w'.drewN n) := ⟨h.os, h.tape, h.output, h.size, h.block⟩
theorem Keeps.drew (h : Keeps S w w') : Keeps S w w'.drew := ⟨h.os, h.tape, h.output, h.size, h.block⟩
theorem Keeps.alloc (h : Keeps S w w') (o : Obj) : Keeps S w (w'.alloc o) :=
  ⟨h.os, h.tape, h.output, by simp; have := h.size; omega, fun b hb hn => by
    rw [Below.heap_alloc w' o b (Nat.lt_of_lt_of_le hb h.size)]; exact h.block b hb hn⟩
theorem Keeps.setCell (h : Keeps S w w') (a : Addr) (v : Value) (ha : a.block < w.heap.size → S a.block) : Keeps S w (w'.setCell a v) :=
  ⟨h.os, h.tape, h.output, by simp; exact h.size, fun b hb hn => by
    rw [Below.heap_setCell w' a v b (fun e => hn (e ▸ ha (e ▸ hb)))]; exact h.block b hb hn⟩
theorem heap_setRow_ne (w : World) (g k : Nat) (cs : Array Value) (h : k ≠ g) : (w.setRow g cs).heap[k]? = w.heap[k]? := by
  have : g ≠ k := fun e => h e.symm
  simp [World.setRow, Array.getElem?_modify, this]
theorem Keeps.setRow (h : Keeps S w w') (g : Nat) (cs : Array Value) (ha : g < w.heap.size → S g) : Keeps S w (w'.setRow g cs) :=
  ⟨h.os, h.tape, h.output, by simp [World.setRow]; exact h.size, fun b hb hn => by
    rw [heap_setRow_ne w' g b cs (fun e => hn (e ▸ ha (e ▸ hb)))]; exact h.block b hb hn⟩
theorem Keeps.below (h : Keeps S w w') {B : Nat} (hB : B ≤ w.heap.size) (hs : ∀ b, S b → B ≤ b) : Below B w w' :=
  ⟨h.os, h.tape, h.output, h.size, fun b hb => h.block b (Nat.lt_of_lt_of_le hb hB) fun hn => by have := hs b hn; omega⟩

variable {g : Nat} {l : List Value} {t : TypeId}
theorem Blk.lt (h : Blk w g l t) : g < w.heap.size := (Array.getElem?_eq_some_iff.1 h).1
theorem Blk.kept (h : Blk w g l t) (k : Keeps S w w') (hn : ¬ S g) : Blk w' g l t := by
  unfold Blk at *
  rw [k.block g (Blk.lt h) hn]; exact h
theorem Blk.drewN (h : Blk w g l t) (n : Nat) : Blk (w.drewN n) g l t := h
theorem Blk.drew (h : Blk w g l t) : Blk w.drew g l t := h
theorem Blk.alloc (h : Blk w g l t) (o : Obj) : Blk (w.alloc o) g l t := by
  unfold Blk at *
  rw [Below.heap_alloc w o g (Blk.lt h)]; exact h
theorem Blk.new (w : World) (cs : Array Value) (t : TypeId) : Blk (w.alloc (.cells cs t)) w.heap.size cs.toList t := by
  unfold Blk
  rw [Array.toArray_toList]
  exact heap_alloc_new w _
theorem Blk.cell (h : Blk w g l t) {i : Nat} {v : Value} (hv : l[i]? = some v) : w.cell? ⟨g, i, none⟩ = some v := by
  unfold Blk at h
  simp [World.cell?, h, hv]
theorem Blk.frozen (h : Blk w g l t) (i : Nat) : w.frozen? ⟨g, i, none⟩ = false := by
  unfold Blk at h
  simp [World.frozen?, h]
theorem Blk.setRow (h : Blk w g l t) (cs : List Value) : Blk (w.setRow g cs.toArray) g cs t := setRow_heap w g _ _ t _ h
theorem Blk.setRow_ne (h : Blk w g l t) {k : Nat} (hk : g ≠ k) (cs : Array Value) : Blk (w.setRow k cs) g l t := by
  unfold Blk at *
  rw [heap_setRow_ne w k g cs hk]; exact h
theorem Blk.setCell (h : Blk w g l t) (i : Nat) (v : Value) : Blk (w.setCell ⟨g, i, none⟩ v) g (l.set i v) t := by
  rw [setCell_eq_setRow w g i _ t _ v h]
  have e : l.toArray.setIfInBounds i v = (l.set i v).toArray := by simp
  rw [e]
  exact h.setRow _
theorem Blk.setCell_ne (h : Blk w g l t) {a : Addr} (hk : g ≠ a.block) (v : Value) : Blk (w.setCell a v) g l t := by
  unfold Blk at *
  rw [Below.heap_setCell w a v g hk]; exact h
end

/-! ### append(s, make([]byte, n)...): the model's own equations, in its three ways -/
section
variable {P : Program} (w : World)

theorem zeroCells_bytes (n : Nat) : Builtin.zeroCells (Value.int .u8 0).cells n = (bvs (List.replicate n 0)).toArray := by
  apply Array.ext'
  apply List.ext_getElem?
  intro i
  have hc : (Value.int IntKind.u8 0).cells.size = 1 := rfl
  have hm : i % 1 = 0 := by omega
  simp [Builtin.zeroCells, bvs, List.getElem?_replicate, hc]
  by_cases hi : i < n
  · simp [hi, Value.cells, hm]
  · simp [hi]

theorem run_append_zeros_nil (t ty k e : TypeId) (i : TypeInfo) (ht : P.underlying t = some (.slice e)) (hk : P.underlying k = some (.int .i64)) (hi : P.info? e = some i) (hz : i.zero = some (.int .u8 0)) (hs : i.size = 1) (hb : i.bytes = 1)
    (n : Nat) (h0 : 0 < n) (h47 : n ≤ 140737488355328) :
    (Builtin.append_ #[t, k] ty #[.slice none 0 0, .int .i64 n]).run P w =
      .ok (.slice (some ⟨w.heap.size, 0, none⟩) n (grownCap w n 0 e)) (w.drew.alloc (.cells (bvs (List.replicate n 0) ++ bvs (List.replicate (grownCap w n 0 e - n) 0)).toArray e)) := by
  have hn : n ≠ 0 := by omega
  have hw : IntKind.i64.wrap (n : Int) = n := by rw [IntKind.wrap_i64]; omega
  have hneg : ¬ ((n : Int) < 0) := by omega
  have h48 : ¬ (281474976710656 < (n : Int)) := by omega
  have h63' : ¬ (9223372036854775807 < (n : Int)) := by omega
  have h48' : ¬ (281474976710656 < Builtin.nextslicecap n 0) := by rw [nextslicecap_zero h0]; omega
  simp [Builtin.append_, run_underlying ht, run_underlying hk, sizeOf, typeInfo, zeroValue, hi, hz, hs, hb, hw, hneg, h48, asInt, asIntOf, hn, h63', h48', Question.forced, run_firstCells_none, newRow, grownCap, zeroCells_bytes]

theorem run_append_zeros_room (t ty k e : TypeId) (i : TypeInfo) (ht : P.underlying t = some (.slice e)) (hk : P.underlying k = some (.int .i64)) (hi : P.info? e = some i) (hz : i.zero = some (.int .u8 0)) (hs : i.size = 1) (hb : i.bytes = 1)
    (g m c n : Nat) (l : List Value) (e' : TypeId) (hg : Blk w g l e') (hr : m + n ≤ c) (hc : c ≤ l.length) (h47 : n ≤ 140737488355328) :
    (Builtin.append_ #[t, k] ty #[.slice (some ⟨g, 0, none⟩) m c, .int .i64 n]).run P w =
      .ok (.slice (some ⟨g, 0, none⟩) (m + n) c) (w.setRow g (l.take m ++ bvs (List.replicate n 0) ++ l.drop (m + n)).toArray) := by
  have hw : IntKind.i64.wrap (n : Int) = n := by rw [IntKind.wrap_i64]; omega
  have hneg : ¬ ((n : Int) < 0) := by omega
  have h48 : ¬ (281474976710656 < (n : Int)) := by omega
  have hlen : (bvs (List.replicate n 0)).length = n := by simp [bvs]
  have hst := run_storeCells_at P g m e' (bvs (List.replicate n 0)) 0 l.toArray w hg (by rw [hlen]; simp; omega) (bvs_one _)
  rw [hlen] at hst
  simp only [Nat.add_zero] at hst
  have hadd : (⟨g, 0, none⟩ : Addr).add m = ⟨g, m, none⟩ := by unfold Addr.add; split <;> simp_all
  by_cases hn : n = 0
  · subst hn
    have hw0 : IntKind.i64.wrap 0 = 0 := by rw [IntKind.wrap_i64]; omega
    have hr0 : m ≤ c := by omega
    have hself := setRow_self w g l.toArray e' (0, 0) hg
    simp [Builtin.append_, run_underlying ht, run_underlying hk, sizeOf, typeInfo, hi, hb, hw0, asInt, asIntOf, hr0, storeCells, bvs, hself]
  · simp [Builtin.append_, run_underlying ht, run_underlying hk, sizeOf, typeInfo, zeroValue, hi, hz, hs, hb, hw, hneg, h48, asInt, asIntOf, hn, hr, hadd, zeroCells_bytes, hst]

theorem run_append_zeros_grow (t ty k e : TypeId) (i : TypeInfo) (ht : P.underlying t = some (.slice e)) (hk : P.underlying k = some (.int .i64)) (hi : P.info? e = some i) (hz : i.zero = some (.int .u8 0)) (hs : i.size = 1) (hb : i.bytes = 1)
    (g m c n : Nat) (l : List Value) (e' : TypeId) (hg : Blk w g l e') (hr : c < m + n) (hc : m ≤ l.length) (hn : 0 < n) (h47 : m + n ≤ 140737488355328) :
    (Builtin.append_ #[t, k] ty #[.slice (some ⟨g, 0, none⟩) m c, .int .i64 n]).run P w =
      .ok (.slice (some ⟨w.heap.size, 0, none⟩) (m + n) (grownCap w (m + n) c e)) (w.drew.alloc (.cells (l.take m ++ bvs (List.replicate n 0) ++ bvs (List.replicate (grownCap w (m + n) c e - (m + n)) 0)).toArray e)) := by
  have hn0 : n ≠ 0 := by omega
  have hw : IntKind.i64.wrap (n : Int) = n := by rw [IntKind.wrap_i64]; omega
  have hneg : ¬ ((n : Int) < 0) := by omega
  have h48 : ¬ (281474976710656 < (n : Int)) := by omega
  have hr' : ¬ (m + n ≤ c) := by omega
  have h63' : ¬ (9223372036854775807 < (m : Int) + (n : Int)) := by omega
  have h48' : ¬ (281474976710656 < Builtin.nextslicecap (m + n) c) := by
    have := growslice_fits (bytes := 1) hr (by omega)
    omega
  have hfo := run_firstCells_some (P := P) w.drew 1 m ⟨g, 0, none⟩ m c (l.take m) (by simp; omega) (by
    intro j v hj
    have : (l.take m)[j]? = some v := hj
    rw [List.getElem?_take] at this
    split at this
    · have := Blk.cell hg this
      rw [addr_add]
      simpa using this
    · simp at this)
  simp [Builtin.append_, run_underlying ht, run_underlying hk, sizeOf, typeInfo, zeroValue, hi, hz, hs, hb, hw, hneg, h48, asInt, asIntOf, hn0, hr', h63', h48', Question.forced, hfo, newRow, grownCap, zeroCells_bytes]

end

/-! ### A builtin whose run is known -/
section
variable {P : Program} {w : World}

theorem wpList_append_run {ops : Array Oper} {rest : List Oper} {o : Oper} {a : Act} {Q : Exit → Act → World → Prop} (hgd : o.guard = none) (s x : Operand) (t k : TypeId)
    (ho : o.op = .call { callee := .builtin .append, args := #[s, x], argTypes := #[t, k] }) (vs vx v' : Value) (w' : World) (hs : a.eval s = vs) (hx : a.eval x = vx)
    (hr : ∀ ty, (Builtin.append_ #[t, k] ty #[vs, vx]).run P w = .ok v' w') (h : wpList P ops Q rest (a.put o.dst v') w') : wpList P ops Q (o :: rest) a w :=
  wpList_plain hgd fun _ hK => by
    unfold Oper.wp execOp
    simp only [ho, resolve, invoke, builtin, Sem.run_bind, Sem.run_pure, Result.andThen_ok, List.map_toArray, List.map_cons, List.map_nil, hs, hx, hr]
    exact hK _ _ h

/-- A guard: the next operation is this copy. -/
theorem isCopy {ops : Array Oper} {rest : List Oper} {o : Oper} {a : Act} {Q : Exit → Act → World → Prop} (s x : Operand) (t k : TypeId)
    (_ho : o.op = .call { callee := .builtin .copy, args := #[s, x], argTypes := #[t, k] }) (h : wpList P ops Q (o :: rest) a w) : wpList P ops Q (o :: rest) a w := h

theorem wpList_copy_run {ops : Array Oper} {rest : List Oper} {o : Oper} {a : Act} {Q : Exit → Act → World → Prop} (hgd : o.guard = none) (s x : Operand) (t k : TypeId)
    (ho : o.op = .call { callee := .builtin .copy, args := #[s, x], argTypes := #[t, k] }) (vs vx v' : Value) (w' : World) (hs : a.eval s = vs) (hx : a.eval x = vx)
    (hr : ∀ ty, (Builtin.copy_ #[t, k] ty #[vs, vx]).run P w = .ok v' w') (h : wpList P ops Q rest (a.put o.dst v') w') : wpList P ops Q (o :: rest) a w :=
  wpList_plain hgd fun _ hK => by
    unfold Oper.wp execOp
    simp only [ho, resolve, invoke, builtin, Sem.run_bind, Sem.run_pure, Result.andThen_ok, List.map_toArray, List.map_cons, List.map_nil, hs, hx, hr]
    exact hK _ _ h
end

/-! ### make([]byte, n), and copies into a block -/
section
variable {P : Program} {w : World}

theorem madeCells_bytes (n : Nat) : madeCells (Value.int .u8 0).cells n = (bvs (List.replicate n 0)).toArray := by
  apply Array.ext'
  apply List.ext_getElem?
  intro i
  have hm : i % 1 = 0 := by omega
  simp [madeCells, bvs, List.getElem?_replicate]
  by_cases hi : i < n
  · simp [hi, Value.cells, hm]
  · simp [hi]

/-- make([]byte, n): a new block of zeros. -/
theorem run_make_bytes (t e : TypeId) (i : TypeInfo) (ht : P.underlying t = some (.slice e)) (hi : P.info? e = some i) (hz : i.zero = some (.int .u8 0)) (hs : i.size = 1) (hb : i.bytes = 1)
    (n : Nat) (hn : n ≤ 281474976710656) :
    (Instr.makeSlice t (.int .i64 n) (.int .i64 n)).run P w = .ok (.slice (some ⟨w.heap.size, 0, none⟩) n n) (w.alloc (.cells (bvs (List.replicate n 0)).toArray e)) := by
  have h := run_make (P := P) w t e i (.int .u8 0) ht hi hz .i64 .i64 n n (by omega) (by omega) (by rw [hb]; omega) (by omega)
  rw [hs, Nat.mul_one, Int.toNat_natCast, madeCells_bytes] at h
  exact h

theorem wpList_make_run {ops : Array Oper} {rest : List Oper} {o : Oper} {a : Act} {Q : Exit → Act → World → Prop} (hgd : o.guard = none) (s x : Operand) (t : TypeId)
    (ho : o.op = .makeSlice t s x) (vs vx v' : Value) (w' : World) (hs : a.eval s = vs) (hx : a.eval x = vx)
    (hr : (Instr.makeSlice t vs vx).run P w = .ok v' w') (h : wpList P ops Q rest (a.put o.dst v') w') : wpList P ops Q (o :: rest) a w :=
  wpList_plain hgd fun _ hK => by
    unfold Oper.wp execOp
    simp only [ho, hs, hx, Sem.run_bind, hr, Result.andThen_ok, Sem.run_pure]
    exact hK _ _ h

/-- copy(dst, src) from bytes that can be read, all of dst. -/
theorem run_copy_blk (dT sT ty elem : TypeId) (hu : P.underlying dT = some (.slice elem)) (hs : (P.info? elem).map (·.size) = some 1)
    (g o dCap : Nat) (l : List Value) (t : TypeId) (hg : Blk w g l t) (a : Option Addr) (sCap : Nat) (xs : List UInt8)
    (hx : xs = [] ∨ ∃ b p, a = some ⟨b, p, none⟩ ∧ ∀ j, (h : j < xs.length) → w.cell? ⟨b, p + j, none⟩ = some (.int .u8 (xs[j].toNat : Int))) (hfit : o + xs.length ≤ l.length) :
    (Builtin.copy_ #[dT, sT] ty #[.slice (some ⟨g, o, none⟩) xs.length dCap, .slice a xs.length sCap]).run P w = .ok (goInt xs.length) (w.setRow g (l.take o ++ bvs xs ++ l.drop (o + xs.length)).toArray) := by
  have self : (l.take o ++ bvs [] ++ l.drop o) = l := by simp [bvs]
  rcases hx with rfl | ⟨b, p, rfl, hc⟩
  · have h := run_copy_none (P := P) w dT sT ty elem (some ⟨g, o, none⟩) a 0 dCap 0 sCap hu hs rfl
    have h2 := setRow_self w g l.toArray t (0, 0) hg
    simp only [List.length_nil, Nat.add_zero, self, h2]
    exact h
  · have h := run_copy_row P w dT sT ty elem g o xs.length dCap ⟨b, p, none⟩ xs.length sCap l.toArray t (bvs xs) hu hs hg (by simp [bvs_length]) (by
      intro j v hj
      have hlt : j < xs.length := by
        have := (List.getElem?_eq_some_iff.1 hj).1
        rw [bvs_length] at this
        exact this
      rw [bvs_get xs j hlt] at hj
      rw [addr_add, hc j hlt]
      exact hj) (by rw [bvs_length]; simpa using hfit) (bvs_one xs)
    rw [bvs_length] at h
    exact h

/-- copy(dst, s) from a string that dst just takes. -/
theorem run_copy_text (dT sT ty elem : TypeId) (hu : P.underlying dT = some (.slice elem)) (hs : (P.info? elem).map (·.size) = some 1)
    (g o dCap : Nat) (l : List Value) (t : TypeId) (hg : Blk w g l t) (s : ByteArray) (hfit : o + s.size ≤ l.length) :
    (Builtin.copy_ #[dT, sT] ty #[.slice (some ⟨g, o, none⟩) s.size dCap, .string s]).run P w = .ok (goInt s.size) (w.setRow g (l.take o ++ bvs s.data.toList ++ l.drop (o + s.size)).toArray) := by
  have hsz : s.data.toList.length = s.size := rfl
  have hlen : (bvs s.data.toList).length = s.size := by rw [bvs_length, hsz]
  have hst := run_storeCells_at P g o t (bvs s.data.toList) 0 l.toArray w hg (by rw [hlen]; simpa using hfit) (bvs_one _)
  have htk : List.take s.size (List.map (fun b : UInt8 => Value.int IntKind.u8 (b.toNat : Int)) s.data.toList) = bvs s.data.toList := by
    rw [List.take_of_length_le (by rw [List.length_map, hsz]; exact Nat.le_refl _)]
    rfl
  rw [hlen] at hst
  simp only [Nat.add_zero] at hst
  cases hq : P.info? elem with
  | none => simp [hq] at hs
  | some i =>
    simp [Builtin.copy_, run_underlying hu, Builtin.lenOf, Builtin.firstCells, sizeOf, typeInfo, hq]
    rw [htk, hst]
    simp [Result.andThen]
end

end Go.Proofs.YtjadpbkhfclldaaGreat
namespace Go.Proofs.YtjadpbkhfclldaaGreat
open Go.RowKit
set_option linter.unusedVariables false

abbrev I64 (k : Int) : Prop := -9223372036854775808 ≤ k ∧ k ≤ 9223372036854775807

structure Win where
  p : Int
  u : Int
  s : Int
deriving DecidableEq
structure Rgn where
  page : Int
  pages : Int
  frame : Int
  rights : Int
deriving DecidableEq
structure Prt where
  ch : Int
  src : Bool
deriving DecidableEq
structure Chn where
  kind : Int
  words : Int
  depth : Int
deriving DecidableEq
/-- A core as it lies in the memory: where its windows are, and they. -/
structure Core where
  a : Option Addr
  c : Nat
  ws : List Win
structure Par where
  name : ByteArray
  entry : Int
  action : Int
  restarts : Int
  inputs : Int
  outputs : Int
  ra : Option Addr
  rc : Nat
  rs : List Rgn
  pa : Option Addr
  pc : Nat
  ps : List Prt
structure Cfg where
  frames : Int
  major : Int
  kernel : Int
  room : Int
  ca : Option Addr
  cc : Nat
  cs : List Core
  pa : Option Addr
  pc : Nat
  ps : List Par
  ha : Option Addr
  hc : Nat
  hs : List Chn

abbrev Win.vs (x : Win) : List Value := [.int .i64 x.p, .int .i64 x.u, .int .i64 x.s]
abbrev Win.v (x : Win) : Value := .agg #[.int .i64 x.p, .int .i64 x.u, .int .i64 x.s]
abbrev Rgn.vs (x : Rgn) : List Value := [.int .i64 x.page, .int .i64 x.pages, .int .i64 x.frame, .int .i64 x.rights]
abbrev Rgn.v (x : Rgn) : Value := .agg #[.int .i64 x.page, .int .i64 x.pages, .int .i64 x.frame, .int .i64 x.rights]
abbrev Prt.vs (x : Prt) : List Value := [.int .i64 x.ch, .bool x.src]
abbrev Prt.v (x : Prt) : Value := .agg #[.int .i64 x.ch, .bool x.src]
abbrev Chn.vs (x : Chn) : List Value := [.int .i64 x.kind, .int .i64 x.words, .int .i64 x.depth]
abbrev Chn.v (x : Chn) : Value := .agg #[.int .i64 x.kind, .int .i64 x.words, .int .i64 x.depth]
abbrev Core.vs (x : Core) : List Value := [.slice x.a x.ws.length x.c]
abbrev Core.v (x : Core) : Value := .slice x.a x.ws.length x.c
abbrev Par.vs (x : Par) : List Value := [.string x.name, .int .i64 x.entry, .int .i64 x.action, .int .i64 x.restarts, .int .i64 x.inputs, .int .i64 x.outputs, .slice x.ra x.rs.length x.rc, .slice x.pa x.ps.length x.pc]
abbrev Par.v (x : Par) : Value := .agg #[.string x.name, .int .i64 x.entry, .int .i64 x.action, .int .i64 x.restarts, .int .i64 x.inputs, .int .i64 x.outputs, .slice x.ra x.rs.length x.rc, .slice x.pa x.ps.length x.pc]
abbrev Cfg.v (x : Cfg) : Value := .agg #[.int .i64 x.frames, .int .i64 x.major, .int .i64 x.kernel, .int .i64 x.room, .slice x.ca x.cs.length x.cc, .slice x.pa x.ps.length x.pc, .slice x.ha x.hs.length x.hc]
abbrev Cfg.vs (x : Cfg) : List Value := [.int .i64 x.frames, .int .i64 x.major, .int .i64 x.kernel, .int .i64 x.room, .slice x.ca x.cs.length x.cc, .slice x.pa x.ps.length x.pc, .slice x.ha x.hs.length x.hc]

def Win.Fine (x : Win) : Prop := I64 x.p ∧ I64 x.u ∧ I64 x.s
def Rgn.Fine (x : Rgn) : Prop := I64 x.page ∧ I64 x.pages ∧ I64 x.frame ∧ I64 x.rights
def Prt.Fine (x : Prt) : Prop := I64 x.ch
def Chn.Fine (x : Chn) : Prop := I64 x.kind ∧ I64 x.words ∧ I64 x.depth

/-- Things of so many cells each can be read at this address, one behind another. -/
def SegA {α : Type} (cells : α → List Value) (k : Nat) (w : World) (a : Option Addr) (xs : List α) : Prop :=
  xs = [] ∨ ∃ g o, a = some ⟨g, o, none⟩ ∧ ∀ j x, xs[j]? = some x → ∀ i v, (cells x)[i]? = some v → w.cell? ⟨g, o + j * k + i, none⟩ = some v

section
variable {α : Type} {cells : α → List Value} {k : Nat} {w w' : World} {a : Option Addr} {xs : List α}
theorem SegA.kept {S : Nat → Prop} (h : SegA cells k w a xs) (hK : Keeps S w w') (hn : xs ≠ [] → ∀ x, a = some x → ¬ S x.block) : SegA cells k w' a xs := by
  rcases h with h | ⟨g, o, ha, hc⟩
  · exact .inl h
  · refine .inr ⟨g, o, ha, fun j x hj i v hv => ?_⟩
    have h1 := hc j x hj i v hv
    rw [World.cell?_of_block (w := w) (hK.block g (World.block_lt_of_cell? w _ h1) (hn (fun e => by rw [e] at hj; simp at hj) _ ha))]
    exact h1
theorem SegA.below {B : Nat} (h : SegA cells k w a xs) (hK : Below B w w') (hn : xs ≠ [] → ∀ x, a = some x → x.block < B) : SegA cells k w' a xs := by
  rcases h with h | ⟨g, o, ha, hc⟩
  · exact .inl h
  · refine .inr ⟨g, o, ha, fun j x hj i v hv => ?_⟩
    rw [World.cell?_of_block (w := w) (hK.block g (hn (fun e => by rw [e] at hj; simp at hj) _ ha))]
    exact hc j x hj i v hv
theorem SegA.at (h : SegA cells k w a xs) {j : Nat} {x : α} (hj : xs[j]? = some x) : ∃ g o, a = some ⟨g, o, none⟩ ∧ ∀ i v, (cells x)[i]? = some v → w.cell? ⟨g, o + j * k + i, none⟩ = some v := by
  rcases h with h | ⟨g, o, ha, hc⟩
  · rw [h] at hj; simp at hj
  · exact ⟨g, o, ha, fun i v => hc j x hj i v⟩
end

def Par.ns (x : Par) : List Int := [x.entry, x.action, x.restarts, x.inputs, x.outputs]
def Cfg.ns (x : Cfg) : List Int := [x.frames, x.major, x.kernel, x.room]
end Go.Proofs.YtjadpbkhfclldaaGreat
