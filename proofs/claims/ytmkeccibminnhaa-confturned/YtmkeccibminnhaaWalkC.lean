import Derived.WalkKit
import Derived.Laws.CopyRow
import Derived.Laws.IdiomCopy
import Derived.Laws.MakeOwn
import Derived.OwnWalk
import Derived.Laws.AppendOwn
import Derived.Deep.Draws
import Derived.Test.YtmkeccibminnhaaProg
import Derived.Test.YtmkeccibminnhaaWalkB
import Derived.WalkSpells
import Derived.WalkLawsBesides
import Derived.Deep.QuietTactic
import Derived.BigQuiet

namespace Go.Proofs.Ytmkeccibminnhaa
open Go.RowKit

/-- The world has grown, and but for the blocks of S every old block is as it was. -/
structure Keeps (S : Nat → Prop) (w w' : World) : Prop where
  os : w'.os = w.os
  tape : w'.tape = w.tape
  output : w'.output = w.output
  size : w.heap.size ≤ w'.heap.size
  block : ∀ k, k < w.heap.size → ¬ S k → w'.heap[k]? = w.heap[k]?

/-- Block g holds these cells. -/
def Blk (w : World) (g : Nat) (l : List Value) (t : TypeId) : Prop := w.heap[g]? = some (.cells l.toArray t (0, 0))

def bvs (xs : List UInt8) : List Value := xs.map fun x => .int .u8 (x.toNat : Int)

theorem bvs_length (xs : List UInt8) : (bvs xs).length = xs.length := by simp [bvs]
theorem bvs_append (xs ys : List UInt8) : bvs (xs ++ ys) = bvs xs ++ bvs ys := by simp [bvs]
theorem bvs_take (xs : List UInt8) (n : Nat) : bvs (xs.take n) = (bvs xs).take n := by simp [bvs, List.map_take]
theorem bvs_drop (xs : List UInt8) (n : Nat) : bvs (xs.drop n) = (bvs xs).drop n := by simp [bvs, List.map_drop]
theorem bvs_get (xs : List UInt8) (i : Nat) (h : i < xs.length) : (bvs xs)[i]? = some (.int .u8 (xs[i].toNat : Int)) := by simp [bvs, h]
theorem bvs_one (xs : List UInt8) : ∀ v ∈ bvs xs, v.oneCell' = true := by
  intro v hv
  obtain ⟨x, _, rfl⟩ := List.mem_map.1 hv
  rfl

theorem addr_add (g o j : Nat) : (⟨g, o, none⟩ : Addr).add j = ⟨g, o + j, none⟩ := by
  unfold Addr.add
  split <;> simp_all

section
variable {S T : Nat → Prop} {w w' w'' : World}

theorem Keeps.refl (S : Nat → Prop) (w : World) : Keeps S w w := ⟨rfl, rfl, rfl, Nat.le_refl _, fun _ _ _ => rfl⟩
theorem Keeps.trans (h : Keeps S w w') (k : Keeps T w' w'') (hs : ∀ b, b < w.heap.size → T b → S b) : Keeps S w w'' :=
  ⟨k.os.trans h.os, k.tape.trans h.tape, k.output.trans h.output, Nat.le_trans h.size k.size,
    fun b hb hn => (k.block b (Nat.lt_of_lt_of_le hb h.size) fun ht => hn (hs b hb ht)).trans (h.block b hb hn)⟩
theorem Keeps.mono (h : Keeps S w w') (hs : ∀ b, b < w.heap.size → S b → T b) : Keeps T w w' :=
  ⟨h.os, h.tape, h.output, h.size, fun b hb hn => h.block b hb fun ht => hn (hs b hb ht)⟩
theorem Keeps.drewN (h : Keeps S w w') (n : Nat) : Keeps S w (w'.drewN n) := ⟨h.os, h.tape, h.output, h.size, h.block⟩
theorem Keeps.drew (h : Keeps S w w') : Keeps S w w'.drew := ⟨h.os, h.tape, h.output, h.size, h.block⟩
theorem Keeps.alloc (h : Keeps S w w') (o : Obj) : Keeps S w (w'.alloc o) :=
  ⟨h.os, h.tape, h.output, by simp; have := h.size; omega, fun b hb hn => by
    rw [Below.heap_alloc w' o b (Nat.lt_of_lt_of_le hb h.size)]; exact h.block b hb hn⟩
theorem Keeps.setCell (h : Keeps S w w') (a : Addr) (v : Value) (ha : a.block < w.heap.size → S a.block) : Keeps S w (w'.setCell a v) :=
  ⟨h.os, h.tape, h.output, by simp; exact h.size, fun b hb hn => by
    rw [Below.heap_setCell w' a v b (fun e => hn (e ▸ ha (e ▸ hb)))]; exact h.block b hb hn⟩
theorem heap_setRow_ne (w : World) (g k : Nat) (cs : Array Value) (h : k ≠ g) : (w.setRow g cs).heap[k]? = w.heap[k]? := by
  have : g ≠ k := fun e => h e.symm
  simp [World.setRow, Array.getElem?_modify, this]
theorem Keeps.setRow (h : Keeps S w w') (g : Nat) (cs : Array Value) (ha : g < w.heap.size → S g) : Keeps S w (w'.setRow g cs) :=
  ⟨h.os, h.tape, h.output, by simp [World.setRow]; exact h.size, fun b hb hn => by
    rw [heap_setRow_ne w' g b cs (fun e => hn (e ▸ ha (e ▸ hb)))]; exact h.block b hb hn⟩
theorem Keeps.below (h : Keeps S w w') {B : Nat} (hB : B ≤ w.heap.size) (hs : ∀ b, S b → B ≤ b) : Below B w w' :=
  ⟨h.os, h.tape, h.output, h.size, fun b hb => h.block b (Nat.lt_of_lt_of_le hb hB) fun hn => by have := hs b hn; omega⟩

variable {g : Nat} {l : List Value} {t : TypeId}
theorem Blk.lt (h : Blk w g l t) : g < w.heap.size := (Array.getElem?_eq_some_iff.1 h).1
theorem Blk.kept (h : Blk w g l t) (k : Keeps S w w') (hn : ¬ S g) : Blk w' g l t := by
  unfold Blk at *
  rw [k.block g (Blk.lt h) hn]; exact h
theorem Blk.drewN (h : Blk w g l t) (n : Nat) : Blk (w.drewN n) g l t := h
theorem Blk.drew (h : Blk w g l t) : Blk w.drew g l t := h
theorem Blk.alloc (h : Blk w g l t) (o : Obj) : Blk (w.alloc o) g l t := by
  unfold Blk at *
  rw [Below.heap_alloc w o g (Blk.lt h)]; exact h
theorem Blk.new (w : World) (cs : Array Value) (t : TypeId) : Blk (w.alloc (.cells cs t)) w.heap.size cs.toList t := by
  unfold Blk
  rw [Array.toArray_toList]
  exact heap_alloc_new w _
theorem Blk.cell (h : Blk w g l t) {i : Nat} {v : Value} (hv : l[i]? = some v) : w.cell? ⟨g, i, none⟩ = some v := by
  unfold Blk at h
  simp [World.cell?, h, hv]
theorem Blk.frozen (h : Blk w g l t) (i : Nat) : w.frozen? ⟨g, i, none⟩ = false := by
  unfold Blk at h
  simp [World.frozen?, h]
theorem Blk.setRow (h : Blk w g l t) (cs : List Value) : Blk (w.setRow g cs.toArray) g cs t := setRow_heap w g _ _ t _ h
theorem Blk.setRow_ne (h : Blk w g l t) {k : Nat} (hk : g ≠ k) (cs : Array Value) : Blk (w.setRow k cs) g l t := by
  unfold Blk at *
  rw [heap_setRow_ne w k g cs hk]; exact h
theorem Blk.setCell (h : Blk w g l t) (i : Nat) (v : Value) : Blk (w.setCell ⟨g, i, none⟩ v) g (l.set i v) t := by
  rw [setCell_eq_setRow w g i _ t _ v h]
  have e : l.toArray.setIfInBounds i v = (l.set i v).toArray := by simp
  rw [e]
  exact h.setRow _
theorem Blk.setCell_ne (h : Blk w g l t) {a : Addr} (hk : g ≠ a.block) (v : Value) : Blk (w.setCell a v) g l t := by
  unfold Blk at *
  rw [Below.heap_setCell w a v g hk]; exact h
end

/-! ### append(s, make([]byte, n)...): the model's own equations, in its three ways -/
section
variable {P : Program} (w : World)

theorem zeroCells_bytes (n : Nat) : Builtin.zeroCells (Value.int .u8 0).cells n = (bvs (List.replicate n 0)).toArray := by
  apply Array.ext'
  apply List.ext_getElem?
  intro i
  have hc : (Value.int IntKind.u8 0).cells.size = 1 := rfl
  have hm : i % 1 = 0 := by omega
  simp [Builtin.zeroCells, bvs, List.getElem?_replicate, hc]
  by_cases hi : i < n
  · simp [hi, Value.cells, hm]
  · simp [hi]

theorem run_append_zeros_nil (t ty k e : TypeId) (i : TypeInfo) (ht : P.underlying t = some (.slice e)) (hk : P.underlying k = some (.int .i64)) (hi : P.info? e = some i) (hz : i.zero = some (.int .u8 0)) (hs : i.size = 1) (hb : i.bytes = 1)
    (n : Nat) (h0 : 0 < n) (h47 : n ≤ 140737488355328) :
    (Builtin.append_ #[t, k] ty #[.slice none 0 0, .int .i64 n]).run P w =
      .ok (.slice (some ⟨w.heap.size, 0, none⟩) n (grownCap w n 0 e)) (w.drew.alloc (.cells (bvs (List.replicate n 0) ++ bvs (List.replicate (grownCap w n 0 e - n) 0)).toArray e)) := by
  have hn : n ≠ 0 := by omega
  have hw : IntKind.i64.wrap (n : Int) = n := by rw [IntKind.wrap_i64]; omega
  have hneg : ¬ ((n : Int) < 0) := by omega
  have h48 : ¬ (281474976710656 < (n : Int)) := by omega
  have h63' : ¬ (9223372036854775807 < (n : Int)) := by omega
  have h48' : ¬ (281474976710656 < Builtin.nextslicecap n 0) := by rw [nextslicecap_zero h0]; omega
  simp [Builtin.append_, run_underlying ht, run_underlying hk, sizeOf, typeInfo, zeroValue, hi, hz, hs, hb, hw, hneg, h48, asInt, asIntOf, hn, h63', h48', Question.forced, run_firstCells_none, newRow, grownCap, zeroCells_bytes]

theorem run_append_zeros_room (t ty k e : TypeId) (i : TypeInfo) (ht : P.underlying t = some (.slice e)) (hk : P.underlying k = some (.int .i64)) (hi : P.info? e = some i) (hz : i.zero = some (.int .u8 0)) (hs : i.size = 1) (hb : i.bytes = 1)
    (g m c n : Nat) (l : List Value) (e' : TypeId) (hg : Blk w g l e') (hr : m + n ≤ c) (hc : c ≤ l.length) (h47 : n ≤ 140737488355328) :
    (Builtin.append_ #[t, k] ty #[.slice (some ⟨g, 0, none⟩) m c, .int .i64 n]).run P w =
      .ok (.slice (some ⟨g, 0, none⟩) (m + n) c) (w.setRow g (l.take m ++ bvs (List.replicate n 0) ++ l.drop (m + n)).toArray) := by
  have hw : IntKind.i64.wrap (n : Int) = n := by rw [IntKind.wrap_i64]; omega
  have hneg : ¬ ((n : Int) < 0) := by omega
  have h48 : ¬ (281474976710656 < (n : Int)) := by omega
  have hlen : (bvs (List.replicate n 0)).length = n := by simp [bvs]
  have hst := run_storeCells_at P g m e' (bvs (List.replicate n 0)) 0 l.toArray w hg (by rw [hlen]; simp; omega) (bvs_one _)
  rw [hlen] at hst
  simp only [Nat.add_zero] at hst
  have hadd : (⟨g, 0, none⟩ : Addr).add m = ⟨g, m, none⟩ := by unfold Addr.add; split <;> simp_all
  by_cases hn : n = 0
  · subst hn
    have hw0 : IntKind.i64.wrap 0 = 0 := by rw [IntKind.wrap_i64]; omega
    have hr0 : m ≤ c := by omega
    have hself := setRow_self w g l.toArray e' (0, 0) hg
    simp [Builtin.append_, run_underlying ht, run_underlying hk, sizeOf, typeInfo, hi, hb, hw0, asInt, asIntOf, hr0, storeCells, bvs, hself]
  · simp [Builtin.append_, run_underlying ht, run_underlying hk, sizeOf, typeInfo, zeroValue, hi, hz, hs, hb, hw, hneg, h48, asInt, asIntOf, hn, hr, hadd, zeroCells_bytes, hst]

theorem run_append_zeros_grow (t ty k e : TypeId) (i : TypeInfo) (ht : P.underlying t = some (.slice e)) (hk : P.underlying k = some (.int .i64)) (hi : P.info? e = some i) (hz : i.zero = some (.int .u8 0)) (hs : i.size = 1) (hb : i.bytes = 1)
    (g m c n : Nat) (l : List Value) (e' : TypeId) (hg : Blk w g l e') (hr : c < m + n) (hc : m ≤ l.length) (hn : 0 < n) (h47 : m + n ≤ 140737488355328) :
    (Builtin.append_ #[t, k] ty #[.slice (some ⟨g, 0, none⟩) m c, .int .i64 n]).run P w =
      .ok (.slice (some ⟨w.heap.size, 0, none⟩) (m + n) (grownCap w (m + n) c e)) (w.drew.alloc (.cells (l.take m ++ bvs (List.replicate n 0) ++ bvs (List.replicate (grownCap w (m + n) c e - (m + n)) 0)).toArray e)) := by
  have hn0 : n ≠ 0 := by omega
  have hw : IntKind.i64.wrap (n : Int) = n := by rw [IntKind.wrap_i64]; omega
  have hneg : ¬ ((n : Int) < 0) := by omega
  have h48 : ¬ (281474976710656 < (n : Int)) := by omega
  have hr' : ¬ (m + n ≤ c) := by omega
  have h63' : ¬ (9223372036854775807 < (m : Int) + (n : Int)) := by omega
  have h48' : ¬ (281474976710656 < Builtin.nextslicecap (m + n) c) := by
    have := growslice_fits (bytes := 1) hr (by omega)
    omega
  have hfo := run_firstCells_some (P := P) w.drew 1 m ⟨g, 0, none⟩ m c (l.take m) (by simp; omega) (by
    intro j v hj
    have : (l.take m)[j]? = some v := hj
    rw [List.getElem?_take] at this
    split at this
    · have := Blk.cell hg this
      rw [addr_add]
      simpa using this
    · simp at this)
  simp [Builtin.append_, run_underlying ht, run_underlying hk, sizeOf, typeInfo, zeroValue, hi, hz, hs, hb, hw, hneg, h48, asInt, asIntOf, hn0, hr', h63', h48', Question.forced, hfo, newRow, grownCap, zeroCells_bytes]

end

/-! ### A builtin whose run is known -/
section
variable {P : Program} {w : World}

theorem wpList_append_run {ops : Array Oper} {rest : List Oper} {o : Oper} {a : Act} {Q : Exit → Act → World → Prop} (hgd : o.guard = none) (s x : Operand) (t k : TypeId)
    (ho : o.op = .call { callee := .builtin .append, args := #[s, x], argTypes := #[t, k] }) (vs vx v' : Value) (w' : World) (hs : a.eval s = vs) (hx : a.eval x = vx)
    (hr : ∀ ty, (Builtin.append_ #[t, k] ty #[vs, vx]).run P w = .ok v' w') (h : wpList P ops Q rest (a.put o.dst v') w') : wpList P ops Q (o :: rest) a w :=
  wpList_plain hgd fun _ hK => by
    unfold Oper.wp execOp
    simp only [ho, resolve, invoke, builtin, Sem.run_bind, Sem.run_pure, Result.andThen_ok, List.map_toArray, List.map_cons, List.map_nil, hs, hx, hr]
    exact hK _ _ h

/-- A guard: the next operation is this copy. -/
theorem isCopy {ops : Array Oper} {rest : List Oper} {o : Oper} {a : Act} {Q : Exit → Act → World → Prop} (s x : Operand) (t k : TypeId)
    (_ho : o.op = .call { callee := .builtin .copy, args := #[s, x], argTypes := #[t, k] }) (h : wpList P ops Q (o :: rest) a w) : wpList P ops Q (o :: rest) a w := h

theorem wpList_copy_run {ops : Array Oper} {rest : List Oper} {o : Oper} {a : Act} {Q : Exit → Act → World → Prop} (hgd : o.guard = none) (s x : Operand) (t k : TypeId)
    (ho : o.op = .call { callee := .builtin .copy, args := #[s, x], argTypes := #[t, k] }) (vs vx v' : Value) (w' : World) (hs : a.eval s = vs) (hx : a.eval x = vx)
    (hr : ∀ ty, (Builtin.copy_ #[t, k] ty #[vs, vx]).run P w = .ok v' w') (h : wpList P ops Q rest (a.put o.dst v') w') : wpList P ops Q (o :: rest) a w :=
  wpList_plain hgd fun _ hK => by
    unfold Oper.wp execOp
    simp only [ho, resolve, invoke, builtin, Sem.run_bind, Sem.run_pure, Result.andThen_ok, List.map_toArray, List.map_cons, List.map_nil, hs, hx, hr]
    exact hK _ _ h
end

/-! ### make([]byte, n), and copies into a block -/
section
variable {P : Program} {w : World}

theorem madeCells_bytes (n : Nat) : madeCells (Value.int .u8 0).cells n = (bvs (List.replicate n 0)).toArray := by
  apply Array.ext'
  apply List.ext_getElem?
  intro i
  have hm : i % 1 = 0 := by omega
  simp [madeCells, bvs, List.getElem?_replicate]
  by_cases hi : i < n
  · simp [hi, Value.cells, hm]
  · simp [hi]

/-- make([]byte, n): a new block of zeros. -/
theorem run_make_bytes (t e : TypeId) (i : TypeInfo) (ht : P.underlying t = some (.slice e)) (hi : P.info? e = some i) (hz : i.zero = some (.int .u8 0)) (hs : i.size = 1) (hb : i.bytes = 1)
    (n : Nat) (hn : n ≤ 281474976710656) :
    (Instr.makeSlice t (.int .i64 n) (.int .i64 n)).run P w = .ok (.slice (some ⟨w.heap.size, 0, none⟩) n n) (w.alloc (.cells (bvs (List.replicate n 0)).toArray e)) := by
  have h := run_make (P := P) w t e i (.int .u8 0) ht hi hz .i64 .i64 n n (by omega) (by omega) (by rw [hb]; omega) (by omega)
  rw [hs, Nat.mul_one, Int.toNat_natCast, madeCells_bytes] at h
  exact h

theorem wpList_make_run {ops : Array Oper} {rest : List Oper} {o : Oper} {a : Act} {Q : Exit → Act → World → Prop} (hgd : o.guard = none) (s x : Operand) (t : TypeId)
    (ho : o.op = .makeSlice t s x) (vs vx v' : Value) (w' : World) (hs : a.eval s = vs) (hx : a.eval x = vx)
    (hr : (Instr.makeSlice t vs vx).run P w = .ok v' w') (h : wpList P ops Q rest (a.put o.dst v') w') : wpList P ops Q (o :: rest) a w :=
  wpList_plain hgd fun _ hK => by
    unfold Oper.wp execOp
    simp only [ho, hs, hx, Sem.run_bind, hr, Result.andThen_ok, Sem.run_pure]
    exact hK _ _ h

/-- copy(dst, src) from bytes that can be read, all of dst. -/
theorem run_copy_blk (dT sT ty elem : TypeId) (hu : P.underlying dT = some (.slice elem)) (hs : (P.info? elem).map (·.size) = some 1)
    (g o dCap : Nat) (l : List Value) (t : TypeId) (hg : Blk w g l t) (a : Option Addr) (sCap : Nat) (xs : List UInt8)
    (hx : xs = [] ∨ ∃ b p, a = some ⟨b, p, none⟩ ∧ ∀ j, (h : j < xs.length) → w.cell? ⟨b, p + j, none⟩ = some (.int .u8 (xs[j].toNat : Int))) (hfit : o + xs.length ≤ l.length) :
    (Builtin.copy_ #[dT, sT] ty #[.slice (some ⟨g, o, none⟩) xs.length dCap, .slice a xs.length sCap]).run P w = .ok (goInt xs.length) (w.setRow g (l.take o ++ bvs xs ++ l.drop (o + xs.length)).toArray) := by
  have self : (l.take o ++ bvs [] ++ l.drop o) = l := by simp [bvs]
  rcases hx with rfl | ⟨b, p, rfl, hc⟩
  · have h := run_copy_none (P := P) w dT sT ty elem (some ⟨g, o, none⟩) a 0 dCap 0 sCap hu hs rfl
    have h2 := setRow_self w g l.toArray t (0, 0) hg
    simp only [List.length_nil, Nat.add_zero, self, h2]
    exact h
  · have h := run_copy_row P w dT sT ty elem g o xs.length dCap ⟨b, p, none⟩ xs.length sCap l.toArray t (bvs xs) hu hs hg (by simp [bvs_length]) (by
      intro j v hj
      have hlt : j < xs.length := by
        have := (List.getElem?_eq_some_iff.1 hj).1
        rw [bvs_length] at this
        exact this
      rw [bvs_get xs j hlt] at hj
      rw [addr_add, hc j hlt]
      exact hj) (by rw [bvs_length]; simpa using hfit) (bvs_one xs)
    rw [bvs_length] at h
    exact h

/-- copy(dst, s) from a string that dst just takes. -/
theorem run_copy_text (dT sT ty elem : TypeId) (hu : P.underlying dT = some (.slice elem)) (hs : (P.info? elem).map (·.size) = some 1)
    (g o dCap : Nat) (l : List Value) (t : TypeId) (hg : Blk w g l t) (s : ByteArray) (hfit : o + s.size ≤ l.length) :
    (Builtin.copy_ #[dT, sT] ty #[.slice (some ⟨g, o, none⟩) s.size dCap, .string s]).run P w = .ok (goInt s.size) (w.setRow g (l.take o ++ bvs s.data.toList ++ l.drop (o + s.size)).toArray) := by
  have hsz : s.data.toList.length = s.size := rfl
  have hlen : (bvs s.data.toList).length = s.size := by rw [bvs_length, hsz]
  have hst := run_storeCells_at P g o t (bvs s.data.toList) 0 l.toArray w hg (by rw [hlen]; simpa using hfit) (bvs_one _)
  have htk : List.take s.size (List.map (fun b : UInt8 => Value.int IntKind.u8 (b.toNat : Int)) s.data.toList) = bvs s.data.toList := by
    rw [List.take_of_length_le (by rw [List.length_map, hsz]; exact Nat.le_refl _)]
    rfl
  rw [hlen] at hst
  simp only [Nat.add_zero] at hst
  cases hq : P.info? elem with
  | none => simp [hq] at hs
  | some i =>
    simp [Builtin.copy_, run_underlying hu, Builtin.lenOf, Builtin.firstCells, sizeOf, typeInfo, hq]
    rw [htk, hst]
    simp [Result.andThen]
end

end Go.Proofs.Ytmkeccibminnhaa
namespace Go.Proofs.Ytmkeccibminnhaa
open Go.RowKit

def lowB (k N : Nat) : List UInt8 := (List.range k).map fun i => UInt8.ofNat (N / 256 ^ i)
theorem lowB_length (k N : Nat) : (lowB k N).length = k := by simp [lowB]
theorem lowB_succ (k N : Nat) : lowB (k + 1) N = lowB k N ++ [UInt8.ofNat (N / 256 ^ k)] := by simp [lowB, List.range_succ]

theorem spread_step (l : List Value) (o j N : Nat) (h : o + j < l.length) :
    (l.take o ++ bvs (lowB j N) ++ l.drop (o + j)).set (o + j) (.int .u8 ((UInt8.ofNat (N / 256 ^ j)).toNat : Int)) = l.take o ++ bvs (lowB (j + 1) N) ++ l.drop (o + (j + 1)) := by
  have hl : (l.take o ++ bvs (lowB j N)).length = o + j := by simp [bvs_length, lowB_length]; omega
  rw [List.set_append_right _ _ (by omega), hl, Nat.sub_self, lowB_succ, bvs_append, ← Nat.add_assoc]
  obtain ⟨x, hx⟩ : ∃ x, l.drop (o + j) = x :: l.drop (o + j + 1) := ⟨l[o + j], by rw [List.drop_eq_getElem_cons h]⟩
  rw [hx]
  simp [bvs]

theorem byte_eq (N j : Nat) : (N : Int) / 256 ^ j % 256 = ((UInt8.ofNat (N / 256 ^ j)).toNat : Int) := by
  have e : (UInt8.ofNat (N / 256 ^ j)).toNat = N / 256 ^ j % 256 := UInt8.toNat_ofNat'
  rw [e]
  simp
theorem shift_eq (N j : Nat) : (N : Int) / 256 ^ j / 256 = ((N / 256 ^ (j + 1) : Nat) : Int) := by
  rw [Nat.pow_succ, ← Nat.div_div_eq_div_mul]
  simp

set_option maxHeartbeats 400000 in
theorem spread_any (g o k c N : Nat) (l : List Value) (t : TypeId) (w : World) (hg : Blk w g l t) (hk : o + k ≤ l.length) (hl : k ≤ maxLen) (_hN : N < 18446744073709551616) :
    Calls Try.prog 54 #[.slice (some ⟨g, o, none⟩) k c, .int .u64 N] w fun e w' => e = .returned (.tuple #[]) ∧ Blk w' g (l.take o ++ bvs (lowB k N) ++ l.drop (o + k)) t ∧ Keeps (· = g) w w' := by
  unfold maxLen at hl
  go_enter Try.func54, Try.ntmps54
  go_wp2
  go_loopw [1, 7] (fun n i wr => ∃ j : Nat, j ≤ k ∧ i = .int .i64 j ∧ n = .int .u64 ((N / 256 ^ j : Nat) : Int) ∧ Blk wr g (l.take o ++ bvs (lowB j N) ++ l.drop (o + j)) t ∧ Keeps (· = g) w wr)
    (fun _ i _ => k - (intOf i).toNat)
  case atStart => exact ⟨0, Nat.zero_le _, rfl, by simp, by simpa [lowB, bvs] using hg, Keeps.refl _ _⟩
  case round =>
    obtain ⟨j, hj, rfl, rfl, hB, hK⟩ := hrel
    by_cases hlt : j < k
    · obtain ⟨v, hv⟩ : ∃ v, (l.take o ++ bvs (lowB j N) ++ l.drop (o + j))[o + j]? = some v := by
        have : (l.take o ++ bvs (lowB j N) ++ l.drop (o + j)).length = l.length := by simp [bvs_length, lowB_length]; omega
        exact ⟨_, List.getElem?_eq_getElem (by omega)⟩
      have hc := hB.cell hv
      have hf := hB.frozen (o + j)
      have HB : Hid (Blk wr g (l.take o ++ bvs (lowB j N) ++ l.drop (o + j)) t) := hB
      have HK : Hid (Keeps (· = g) w wr) := hK
      clear hB hK hv
      go_wp2
      go_roundw
      case rel =>
        refine ⟨j + 1, by omega, by go_num, by rw [shift_eq], ?_, HK.out.setCell _ _ fun _ => rfl⟩
        rw [byte_eq, ← spread_step l o j N (by omega)]
        exact HB.out.setCell _ _
      case measure => simp [intOf]; omega
    · obtain rfl : j = k := by omega
      go_wp2
      go_end0
      exact ⟨rfl, hB, hK⟩

def highN : List UInt8 → Nat
  | [] => 0
  | x :: r => x.toNat + 256 * highN r
theorem highN_lt : ∀ xs : List UInt8, highN xs < 256 ^ xs.length
  | [] => by simp [highN]
  | x :: r => by
    have h := highN_lt r
    have hx := x.toNat_lt
    simp only [highN, List.length_cons, Nat.pow_succ]
    omega
theorem highN_snoc : ∀ (xs : List UInt8) (x : UInt8), highN (xs ++ [x]) = highN xs + x.toNat * 256 ^ xs.length
  | [], x => by simp [highN]
  | y :: r, x => by
    have h := highN_snoc r x
    simp only [List.cons_append, highN, h, List.length_cons, Nat.pow_succ]
    rw [Nat.mul_add, ← Nat.mul_assoc, Nat.mul_comm 256 x.toNat, Nat.mul_assoc, Nat.mul_comm (256 ^ r.length) 256]
    omega

theorem gather_eq (A y j : Nat) (hA : A < 256 ^ j) (hy : y < 256) (hj : j < 8) :
    bits .or .u64 (A : Int) (IntKind.u64.wrap (IntKind.u64.wrap (y : Int) * 2 ^ (8 * j))) = ((A + y * 256 ^ j : Nat) : Int) := by
  have e : (256 : Nat) ^ j = 2 ^ (8 * j) := by rw [Nat.pow_mul]
  rw [e] at hA ⊢
  have h1 : (2 : Nat) ^ (8 * j) ≤ 2 ^ 56 := two_le _ _ (by omega)
  have h2 : y * 2 ^ (8 * j) < 18446744073709551616 := by
    have : y * 2 ^ (8 * j) ≤ 255 * 2 ^ 56 := Nat.mul_le_mul (by omega) h1
    omega
  have e1 : IntKind.u64.wrap (y : Int) = y := by rw [IntKind.wrap_u64]; omega
  have e2 : (y : Int) * 2 ^ (8 * j) = ((y * 2 ^ (8 * j) : Nat) : Int) := by simp
  have e3 : IntKind.u64.wrap ((y * 2 ^ (8 * j) : Nat) : Int) = ((y * 2 ^ (8 * j) : Nat) : Int) := by rw [IntKind.wrap_u64]; omega
  rw [e1, e2, e3, u64_or_nat _ _ (by omega) h2, Nat.or_comm, nat_join (8 * j) _ _ (Nat.mul_mod_left _ _) hA, Nat.add_comm]

theorem highN_take (xs : List UInt8) (j : Nat) (hj : j < xs.length) : highN (xs.take (j + 1)) = highN (xs.take j) + xs[j].toNat * 256 ^ j := by
  rw [List.take_succ_eq_append_getElem hj, highN_snoc, List.length_take, Nat.min_eq_left (by omega)]

set_option maxHeartbeats 400000 in
theorem gather_any (g o k c : Nat) (l : List Value) (xs : List UInt8) (t : TypeId) (w : World) (hg : Blk w g l t) (hx : (l.drop o).take k = bvs xs) (hk : xs.length = k) (h8 : k ≤ 8) :
    Calls Try.prog 97 #[.slice (some ⟨g, o, none⟩) k c] w fun e w' => e = .returned (.int .u64 (highN xs)) ∧ w' = w := by
  have hcell : ∀ j, (hj : j < xs.length) → w.cell? ⟨g, o + j, none⟩ = some (.int .u8 (xs[j].toNat : Int)) := by
    intro j hj
    refine hg.cell ?_
    have h1 : ((l.drop o).take k)[j]? = some (.int .u8 (xs[j].toNat : Int)) := by rw [hx]; exact bvs_get xs j hj
    rw [List.getElem?_take_of_lt (by omega), List.getElem?_drop] at h1
    exact h1
  go_enter Try.func97, Try.ntmps97
  go_wp2
  go_loop [3, 8] (fun n i => ∃ j : Nat, j ≤ k ∧ i = .int .i64 j ∧ n = .int .u64 (highN (xs.take j)))
    (fun _ i => k - (intOf i).toNat)
  case atStart => exact ⟨0, Nat.zero_le _, rfl, by simp [highN]⟩
  case round =>
    obtain ⟨j, hj, rfl, rfl⟩ := hrel
    by_cases hlt : j < k
    · have hc := hcell j (by omega)
      clear hcell hx
      obtain ⟨y, hy⟩ : ∃ y : Nat, y = xs[j].toNat := ⟨_, rfl⟩
      rw [← hy] at hc
      obtain ⟨A, hA⟩ : ∃ A : Nat, A = highN (xs.take j) := ⟨_, rfl⟩
      rw [← hA]
      have HA : Hid (A = highN (xs.take j)) := hA
      have HY : Hid (y = xs[j].toNat) := hy
      clear hA hy
      go_wp2
      go_round
      case rel =>
        refine ⟨j + 1, by omega, by go_num, ?_⟩
        have h1 := highN_lt (xs.take j)
        rw [List.length_take, Nat.min_eq_left (by omega), ← HA.out] at h1
        have h2 := xs[j].toNat_lt
        rw [← HY.out] at h2
        rw [gather_eq A y j h1 (by omega) (by omega), highN_take xs j (by omega), ← HA.out, ← HY.out]
      case measure => simp [intOf]; omega
    · obtain rfl : j = k := by omega
      go_wp2
      go_ret
      exact ⟨by rw [← hk]; simp, rfl⟩

def crcStep (s : Nat) : Nat := if s % 2 = 1 then (s / 2) ^^^ 3988292384 else s / 2
def crcN : Nat → Nat → Nat
  | 0, s => s
  | k + 1, s => crcStep (crcN k s)
def crcL : List UInt8 → Nat → Nat
  | [], s => s
  | x :: r, s => crcL r (crcN 8 (s ^^^ x.toNat))
def sumN (xs : List UInt8) : Nat := 4294967295 ^^^ crcL xs 4294967295

theorem crcStep_lt (s : Nat) (h : s < 4294967296) : crcStep s < 4294967296 := by
  unfold crcStep
  split
  · exact Nat.xor_lt_two_pow (n := 32) (by omega) (by omega)
  · omega
theorem crcN_lt (k s : Nat) (h : s < 4294967296) : crcN k s < 4294967296 := by
  induction k with
  | zero => exact h
  | succ k ih => exact crcStep_lt _ ih
theorem xor_byte_lt (s : Nat) (x : UInt8) (h : s < 4294967296) : s ^^^ x.toNat < 4294967296 :=
  Nat.xor_lt_two_pow (n := 32) (by omega) (by have := x.toNat_lt; omega)
theorem crcL_lt (xs : List UInt8) : ∀ s, s < 4294967296 → crcL xs s < 4294967296 := by
  induction xs with
  | nil => exact fun s h => h
  | cons x r ih => exact fun s h => ih _ (crcN_lt _ _ (xor_byte_lt s x h))
theorem crcL_append (xs ys : List UInt8) : ∀ s, crcL (xs ++ ys) s = crcL ys (crcL xs s) := by
  induction xs with
  | nil => exact fun s => rfl
  | cons x r ih => exact fun s => ih _
theorem sumN_lt (xs : List UInt8) : sumN xs < 4294967296 := Nat.xor_lt_two_pow (n := 32) (by omega) (by have := crcL_lt xs 4294967295 (by omega); omega)

theorem odd_eq (s : Nat) (h : s < 4294967296) : bits .and .u32 (s : Int) 1 = ((s % 2 : Nat) : Int) := by
  have := u32_and_nat s 1 h (by omega)
  rw [nat_mask1] at this
  exact this
theorem turn_eq (s : Nat) (h : s < 4294967296) : bits .xor .u32 ((s : Int) / 2) 3988292384 = (((s / 2) ^^^ 3988292384 : Nat) : Int) := by
  have := u32_xor_nat (s / 2) 3988292384 (by omega) (by omega)
  rw [← this]
  simp

set_option maxHeartbeats 400000 in
theorem sumByte_any (s : Nat) (w : World) (hs : s < 4294967296) :
    Calls Try.prog 64 #[.int .u32 s] w fun e w' => e = .returned (.int .u32 (crcN 8 s)) ∧ w' = w := by
  go_enter Try.func64, Try.ntmps64
  go_wp2
  go_loop [0, 4] (fun n i => ∃ j : Nat, j ≤ 8 ∧ i = .int .i64 j ∧ n = .int .u32 (crcN j s))
    (fun _ i => 8 - (intOf i).toNat)
  case atStart => exact ⟨0, Nat.zero_le _, rfl, rfl⟩
  case round =>
    obtain ⟨j, hj, rfl, rfl⟩ := hrel
    by_cases hlt : j < 8
    · have hb := crcN_lt j s hs
      obtain ⟨A, hA⟩ : ∃ A : Nat, A = crcN j s := ⟨_, rfl⟩
      rw [← hA] at hb ⊢
      have ho := odd_eq A hb
      have ht := turn_eq A hb
      have HA : Hid (A = crcN j s) := hA
      clear hA
      by_cases hodd : A % 2 = 1
      · have hd : (((A % 2 : Nat) : Int) == 1) = true := by simp; omega
        have hs : Hid (((A / 2 ^^^ 3988292384 : Nat) : Int) = (crcN (j + 1) s : Nat)) := by
          show ((A / 2 ^^^ 3988292384 : Nat) : Int) = (crcStep (crcN j s) : Nat)
          rw [← HA.out, crcStep, if_pos hodd]
        go_wp2
        go_round
        case rel => exact ⟨j + 1, by omega, by go_num, by rw [hs.out]⟩
        case measure => simp [intOf]; omega
      · have hd : (((A % 2 : Nat) : Int) == 1) = false := by simp; omega
        have hs : Hid ((A : Int) / 2 = (crcN (j + 1) s : Nat)) := by
          show (A : Int) / 2 = (crcStep (crcN j s) : Nat)
          rw [← HA.out, crcStep, if_neg hodd]
          simp
        go_wp2
        go_round
        case rel => exact ⟨j + 1, by omega, by go_num, by rw [hs.out]⟩
        case measure => simp [intOf]; omega
    · obtain rfl : j = 8 := by omega
      go_wp2
      go_ret
      exact ⟨rfl, rfl⟩

/-- These bytes can be read at this address. -/
def Seg (w : World) (a : Option Addr) (xs : List UInt8) : Prop :=
  xs = [] ∨ ∃ g o, a = some ⟨g, o, none⟩ ∧ ∀ j, (h : j < xs.length) → w.cell? ⟨g, o + j, none⟩ = some (.int .u8 (xs[j].toNat : Int))

theorem crcL_take (xs : List UInt8) (j s : Nat) (hj : j < xs.length) : crcL (xs.take (j + 1)) s = crcN 8 (crcL (xs.take j) s ^^^ xs[j].toNat) := by
  rw [List.take_succ_eq_append_getElem hj, crcL_append]
  rfl

theorem xor_eq (A y : Nat) (hA : A < 4294967296) (hy : y < 256) : bits .xor .u32 (A : Int) (y : Int) = ((A ^^^ y : Nat) : Int) :=
  u32_xor_nat A y hA (by omega)

theorem not_eq (A : Nat) (h : A < 4294967296) : bits .xor .u32 IntKind.u32.max (A : Int) = ((4294967295 ^^^ A : Nat) : Int) :=
  u32_xor_nat 4294967295 A (by omega) h
theorem ret_int' {k : IntKind} {a b : Int} (h : a = b) : Ending.returned (.int k a) = .returned (.int k b) := by rw [h]

set_option maxHeartbeats 400000 in
theorem sum_any (a : Option Addr) (c : Nat) (xs : List UInt8) (w : World) (hx : Seg w a xs) (hl : xs.length ≤ maxLen) :
    Calls Try.prog 40 #[.slice a xs.length c] w fun e w' => e = .returned (.int .u32 (sumN xs)) ∧ w' = w := by
  unfold maxLen at hl
  obtain ⟨k, hk⟩ : ∃ k, k = xs.length := ⟨_, rfl⟩
  have HK : Hid (k = xs.length) := hk
  rw [← hk] at hl ⊢
  clear hk
  go_enter Try.func40, Try.ntmps40
  go_wp2
  go_loop [3, 8] (fun n i => ∃ j : Nat, j ≤ k ∧ i = .int .i64 j ∧ n = .int .u32 (crcL (xs.take j) 4294967295))
    (fun _ i => k - (intOf i).toNat)
  case atStart => exact ⟨0, Nat.zero_le _, rfl, rfl⟩
  case round =>
    obtain ⟨j, hj, rfl, rfl⟩ := hrel
    by_cases hlt : j < k
    · have hjx : j < xs.length := by have := HK.out; omega
      rcases hx with hx | ⟨g, o, rfl, hcell⟩
      · rw [hx] at hjx; simp at hjx
      · have hc := hcell j hjx
        clear hcell
        have hb := crcL_lt (xs.take j) 4294967295 (by omega)
        have HS : Hid (crcL (xs.take (j + 1)) 4294967295 = crcN 8 (crcL (xs.take j) 4294967295 ^^^ xs[j].toNat)) := crcL_take xs j _ hjx
        have hy := xs[j].toNat_lt
        obtain ⟨A, hA⟩ : ∃ A : Nat, A = crcL (xs.take j) 4294967295 := ⟨_, rfl⟩
        obtain ⟨y, hyy⟩ : ∃ y : Nat, y = xs[j].toNat := ⟨_, rfl⟩
        rw [← hA, ← hyy] at HS
        rw [← hA] at hb ⊢
        rw [← hyy] at hc hy
        clear hA hyy
        have hxo := xor_eq A y hb (by omega)
        have hlt' : A ^^^ y < 4294967296 := Nat.xor_lt_two_pow (n := 32) (by omega) (by omega)
        go_wp2_with (go_at_call 64; refine (sumByte_any _ _ hlt').mono ?_; rintro e w' ⟨rfl, rfl⟩)
        go_round
        case rel => exact ⟨j + 1, by omega, by go_num, by rw [HS.out]⟩
        case measure => simp [intOf]; omega
    · obtain rfl : j = k := by omega
      go_wp2
      go_ret
      refine ⟨ret_int' ?_, rfl⟩
      rw [not_eq _ (crcL_lt _ _ (by omega)), List.take_of_length_le (by have := HK.out; omega)]
      rfl
end Go.Proofs.Ytmkeccibminnhaa
