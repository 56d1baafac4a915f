import Derived.WalkKit
import Derived.Laws.CopyRow
import Derived.Laws.IdiomCopy
import Derived.Laws.MakeOwn
import Derived.OwnWalk
import Derived.Laws.AppendOwn
import Derived.Deep.Draws
import Derived.Maps.Keyed

namespace Go.Proofs.YtipejahmjdamjaaGreatDoor
open Go.RowKit

/-- The world has grown, and but for the blocks of S every old block is as it was. -/
structure Keeps (S : Nat → Prop) (w w' : World) : Prop where
  os : w'.os = w.os
  tape : w'.tape = w.tape
  output : w'.output = w.output
  size : w.heap.size ≤ w'.heap.size
  block : ∀ k, k < w.heap.size → ¬ S k → w'.heap[k]? = w.heap[k]?

/-- Block g holds these cells. -/
def Blk (w : World) (g : Nat) (l : List Value) (t : TypeId) : Prop := w.heap[g]? = some (.cells l.toArray t (0, 0))

def bvs (xs : List UInt8) : List Value := xs.map fun x => .int .u8 (x.toNat : Int)

theorem bvs_length (xs : List UInt8) : (bvs xs).length = xs.length := by simp [bvs]
theorem bvs_append (xs ys : List UInt8) : bvs (xs ++ ys) = bvs xs ++ bvs ys := by simp [bvs]
theorem bvs_take (xs : List UInt8) (n : Nat) : bvs (xs.take n) = (bvs xs).take n := by simp [bvs, List.map_take]
theorem bvs_drop (xs : List UInt8) (n : Nat) : bvs (xs.drop n) = (bvs xs).drop n := by simp [bvs, List.map_drop]
theorem bvs_get (xs : List UInt8) (i : Nat) (h : i < xs.length) : (bvs xs)[i]? = some (.int .u8 (xs[i].toNat : Int)) := by simp [bvs, h]
theorem bvs_one (xs : List UInt8) : ∀ v ∈ bvs xs, v.oneCell' = true := by
  intro v hv
  obtain ⟨x, _, rfl⟩ := List.mem_map.1 hv
  rfl

theorem addr_add (g o j : Nat) : (⟨g, o, none⟩ : Addr).add j = ⟨g, o + j, none⟩ := by
  unfold Addr.add
  split <;> simp_all

section
variable {S T : Nat → Prop} {w w' w'' : World}

theorem Keeps.refl (S : Nat → Prop) (w : World) : Keeps S w w := ⟨rfl, rfl, rfl, Nat.le_refl _, fun _ _ _ => rfl⟩
theorem Keeps.trans (h : Keeps S w w') (k : Keeps T w' w'') (hs : ∀ b, b < w.heap.size → T b → S b) : Keeps S w w'' :=
  ⟨k.os.trans h.os, k.tape.trans h.tape, k.output.trans h.output, Nat.le_trans h.size k.size,
    fun b hb hn => (k.block b (Nat.lt_of_lt_of_le hb h.size) fun ht => hn (hs b hb ht)).trans (h.block b hb hn)⟩
theorem Keeps.mono (h : Keeps S w w') (hs : ∀ b, b < w.heap.size → S b → T b) : Keeps T w w' :=
  ⟨h.os, h.tape, h.output, h.size, fun b hb hn => h.block b hb fun ht => hn (hs b hb ht)⟩
theorem Keeps.drewN (h : Keeps S w w') (n : Nat) : Keeps S w (w'.drewN n) := ⟨h.os, h.tape, h.output, h.size, h.block⟩
theorem Keeps.drew (h : Keeps S w w') : Keeps S w w'.drew := ⟨h.os, h.tape, h.output, h.size, h.block⟩
theorem Keeps.alloc (h : Keeps S w w') (o : Obj) : Keeps S w (w'.alloc o) :=
  ⟨h.os, h.tape, h.output, by simp; have := h.size; omega, fun b hb hn => by
    rw [Below.heap_alloc w' o b (Nat.lt_of_lt_of_le hb h.size)]; exact h.block b hb hn⟩
theorem Keeps.setCell (h : Keeps S w w') (a : Addr) (v : Value) (ha : a.block < w.heap.size → S a.block) : Keeps S w (w'.setCell a v) :=
  ⟨h.os, h.tape, h.output, by simp; exact h.size, fun b hb hn => by
    rw [Below.heap_setCell w' a v b (fun e => hn (e ▸ ha (e ▸ hb)))]; exact h.block b hb hn⟩
theorem heap_setRow_ne (w : World) (g k : Nat) (cs : Array Value) (h : k ≠ g) : (w.setRow g cs).heap[k]? = w.heap[k]? := by
  have : g ≠ k := fun e => h e.symm
  simp [World.setRow, Array.getElem?_modify, this]
theorem Keeps.setRow (h : Keeps S w w') (g : Nat) (cs : Array Value) (ha : g < w.heap.size → S g) : Keeps S w (w'.setRow g cs) :=
  ⟨h.os, h.tape, h.output, by simp [World.setRow]; exact h.size, fun b hb hn => by
    rw [heap_setRow_ne w' g b cs (fun e => hn (e ▸ ha (e ▸ hb)))]; exact h.block b hb hn⟩
theorem Keeps.below (h : Keeps S w w') {B : Nat} (hB : B ≤ w.heap.size) (hs : ∀ b, S b → B ≤ b) : Below B w w' :=
  ⟨h.os, h.tape, h.output, h.size, fun b hb => h.block b (Nat.lt_of_lt_of_le hb hB) fun hn => by have := hs b hn; omega⟩

variable {g : Nat} {l : List Value} {t : TypeId}
theorem Blk.lt (h : Blk w g l t) : g < w.heap.size := (Array.getElem?_eq_some_iff.1 h).1
theorem Blk.kept (h : Blk w g l t) (k : Keeps S w w') (hn : ¬ S g) : Blk w' g l t := by
  unfold Blk at *
  rw [k.block g (Blk.lt h) hn]; exact h
theorem Blk.drewN (h : Blk w g l t) (n : Nat) : Blk (w.drewN n) g l t := h
theorem Blk.drew (h : Blk w g l t) : Blk w.drew g l t := h
theorem Blk.alloc (h : Blk w g l t) (o : Obj) : Blk (w.alloc o) g l t := by
  unfold Blk at *
  rw [Below.heap_alloc w o g (Blk.lt h)]; exact h
theorem Blk.new (w : World) (cs : Array Value) (t : TypeId) : Blk (w.alloc (.cells cs t)) w.heap.size cs.toList t := by
  unfold Blk
  rw [Array.toArray_toList]
  exact heap_alloc_new w _
theorem Blk.cell (h : Blk w g l t) {i : Nat} {v : Value} (hv : l[i]? = some v) : w.cell? ⟨g, i, none⟩ = some v := by
  unfold Blk at h
  simp [World.cell?, h, hv]
theorem Blk.frozen (h : Blk w g l t) (i : Nat) : w.frozen? ⟨g, i, none⟩ = false := by
  unfold Blk at h
  simp [World.frozen?, h]
theorem Blk.setRow (h : Blk w g l t) (cs : List Value) : Blk (w.setRow g cs.toArray) g cs t := setRow_heap w g _ _ t _ h
theorem Blk.setRow_ne (h : Blk w g l t) {k : Nat} (hk : g ≠ k) (cs : Array Value) : Blk (w.setRow k cs) g l t := by
  unfold Blk at *
  rw [heap_setRow_ne w k g cs hk]; exact h
theorem Blk.setCell (h : Blk w g l t) (i : Nat) (v : Value) : Blk (w.setCell ⟨g, i, none⟩ v) g (l.set i v) t := by
  rw [setCell_eq_setRow w g i _ t _ v h]
  have e : l.toArray.setIfInBounds i v = (l.set i v).toArray := by simp
  rw [e]
  exact h.setRow _
theorem Blk.setCell_ne (h : Blk w g l t) {a : Addr} (hk : g ≠ a.block) (v : Value) : Blk (w.setCell a v) g l t := by
  unfold Blk at *
  rw [Below.heap_setCell w a v g hk]; exact h
end

/-! ### append(s, make([]byte, n)...): the model's own equations, in its three ways -/
section
variable {P : Program} (w : World)

theorem zeroCells_bytes (n : Nat) : Builtin.zeroCells (Value.int .u8 0).cells n = (bvs (List.replicate n 0)).toArray := by
  apply Array.ext'
  apply List.ext_getElem?
  intro i
  have hc : (Value.int IntKind.u8 0).cells.size = 1 := rfl
  have hm : i % 1 = 0 := by omega
  simp [Builtin.zeroCells, bvs, List.getElem?_replicate, hc]
  by_cases hi : i < n
  · simp [hi, Value.cells, hm]
  · simp [hi]

theorem run_append_zeros_nil (t ty k e : TypeId) (i : TypeInfo) (ht : P.underlying t = some (.slice e)) (hk : P.underlying k = some (.int .i64)) (hi : P.info? e = some i) (hz : i.zero = some (.int .u8 0)) (hs : i.size = 1) (hb : i.bytes = 1)
    (n : Nat) (h0 : 0 < n) (h47 : n ≤ 140737488355328) :
    (Builtin.append_ #[t, k] ty #[.slice none 0 0, .int .i64 n]).run P w =
      .ok (.slice (some ⟨w.heap.size, 0, none⟩) n (grownCap w n 0 e)) (w.drew.alloc (.cells (bvs (List.replicate n 0) ++ bvs (List.replicate (grownCap w n 0 e - n) 0)).toArray e)) := by
  have hn : n ≠ 0 := by omega
  have hw : IntKind.i64.wrap (n : Int) = n := by rw [IntKind.wrap_i64]; omega
  have hneg : ¬ ((n : Int) < 0) := by omega
  have h48 : ¬ (281474976710656 < (n : Int)) := by omega
  have h63' : ¬ (9223372036854775807 < (n : Int)) := by omega
  have h48' : ¬ (281474976710656 < Builtin.nextslicecap n 0) := by rw [nextslicecap_zero h0]; omega
  simp [Builtin.append_, run_underlying ht, run_underlying hk, sizeOf, typeInfo, zeroValue, hi, hz, hs, hb, hw, hneg, h48, asInt, asIntOf, hn, h63', h48', Question.forced, run_firstCells_none, newRow, grownCap, zeroCells_bytes]

theorem run_append_zeros_room (t ty k e : TypeId) (i : TypeInfo) (ht : P.underlying t = some (.slice e)) (hk : P.underlying k = some (.int .i64)) (hi : P.info? e = some i) (hz : i.zero = some (.int .u8 0)) (hs : i.size = 1) (hb : i.bytes = 1)
    (g m c n : Nat) (l : List Value) (e' : TypeId) (hg : Blk w g l e') (hr : m + n ≤ c) (hc : c ≤ l.length) (h47 : n ≤ 140737488355328) :
    (Builtin.append_ #[t, k] ty #[.slice (some ⟨g, 0, none⟩) m c, .int .i64 n]).run P w =
      .ok (.slice (some ⟨g, 0, none⟩) (m + n) c) (w.setRow g (l.take m ++ bvs (List.replicate n 0) ++ l.drop (m + n)).toArray) := by
  have hw : IntKind.i64.wrap (n : Int) = n := by rw [IntKind.wrap_i64]; omega
  have hneg : ¬ ((n : Int) < 0) := by omega
  have h48 : ¬ (281474976710656 < (n : Int)) := by omega
  have hlen : (bvs (List.replicate n 0)).length = n := by simp [bvs]
  have hst := run_storeCells_at P g m e' (bvs (List.replicate n 0)) 0 l.toArray w hg (by rw [hlen]; simp; omega) (bvs_one _)
  rw [hlen] at hst
  simp only [Nat.add_zero] at hst
  have hadd : (⟨g, 0, none⟩ : Addr).add m = ⟨g, m, none⟩ := by unfold Addr.add; split <;> simp_all
  by_cases hn : n = 0
  · subst hn
    have hw0 : IntKind.i64.wrap 0 = 0 := by rw [IntKind.wrap_i64]; omega
    have hr0 : m ≤ c := by omega
    have hself := setRow_self w g l.toArray e' (0, 0) hg
    simp [Builtin.append_, run_underlying ht, run_underlying hk, sizeOf, typeInfo, hi, hb, hw0, asInt, asIntOf, hr0, storeCells, bvs, hself]
  · simp [Builtin.append_, run_underlying ht, run_underlying hk, sizeOf, typeInfo, zeroValue, hi, hz, hs, hb, hw, hneg, h48, asInt, asIntOf, hn, hr, hadd, zeroCells_bytes, hst]

theorem run_append_zeros_grow (t ty k e : TypeId) (i : TypeInfo) (ht : P.underlying t = some (.slice e)) (hk : P.underlying k = some (.int .i64)) (hi : P.info? e = some i) (hz : i.zero = some (.int .u8 0)) (hs : i.size = 1) (hb : i.bytes = 1)
    (g m c n : Nat) (l : List Value) (e' : TypeId) (hg : Blk w g l e') (hr : c < m + n) (hc : m ≤ l.length) (hn : 0 < n) (h47 : m + n ≤ 140737488355328) :
    (Builtin.append_ #[t, k] ty #[.slice (some ⟨g, 0, none⟩) m c, .int .i64 n]).run P w =
      .ok (.slice (some ⟨w.heap.size, 0, none⟩) (m + n) (grownCap w (m + n) c e)) (w.drew.alloc (.cells (l.take m ++ bvs (List.replicate n 0) ++ bvs (List.replicate (grownCap w (m + n) c e - (m + n)) 0)).toArray e)) := by
  have hn0 : n ≠ 0 := by omega
  have hw : IntKind.i64.wrap (n : Int) = n := by rw [IntKind.wrap_i64]; omega
  have hneg : ¬ ((n : Int) < 0) := by omega
  have h48 : ¬ (281474976710656 < (n : Int)) := by omega
  have hr' : ¬ (m + n ≤ c) := by omega
  have h63' : ¬ (9223372036854775807 < (m : Int) + (n : Int)) := by omega
  have h48' : ¬ (281474976710656 < Builtin.nextslicecap (m + n) c) := by
    have := growslice_fits (bytes := 1) hr (by omega)
    omega
  have hfo := run_firstCells_some (P := P) w.drew 1 m ⟨g, 0, none⟩ m c (l.take m) (by simp; omega) (by
    intro j v hj
    have : (l.take m)[j]? = some v := hj
    rw [List.getElem?_take] at this
    split at this
    · have := Blk.cell hg this
      rw [addr_add]
      simpa using this
    · simp at this)
  simp [Builtin.append_, run_underlying ht, run_underlying hk, sizeOf, typeInfo, zeroValue, hi, hz, hs, hb, hw, hneg, h48, asInt, asIntOf, hn0, hr', h63', h48', Question.forced, hfo, newRow, grownCap, zeroCells_bytes]

end

/-! ### A builtin whose run is known -/
section
variable {P : Program} {w : World}

theorem wpList_append_run {ops : Array Oper} {rest : List Oper} {o : Oper} {a : Act} {Q : Exit → Act → World → Prop} (hgd : o.guard = none) (s x : Operand) (t k : TypeId)
    (ho : o.op = .call { callee := .builtin .append, args := #[s, x], argTypes := #[t, k] }) (vs vx v' : Value) (w' : World) (hs : a.eval s = vs) (hx : a.eval x = vx)
    (hr : ∀ ty, (Builtin.append_ #[t, k] ty #[vs, vx]).run P w = .ok v' w') (h : wpList P ops Q rest (a.put o.dst v') w') : wpList P ops Q (o :: rest) a w :=
  wpList_plain hgd fun _ hK => by
    unfold Oper.wp execOp
    simp only [ho, resolve, invoke, builtin, Sem.run_bind, Sem.run_pure, Result.andThen_ok, List.map_toArray, List.map_cons, List.map_nil, hs, hx, hr]
    exact hK _ _ h

/-- A guard: the next operation is this copy. -/
theorem isCopy {ops : Array Oper} {rest : List Oper} {o : Oper} {a : Act} {Q : Exit → Act → World → Prop} (s x : Operand) (t k : TypeId)
    (_ho : o.op = .call { callee := .builtin .copy, args := #[s, x], argTypes := #[t, k] }) (h : wpList P ops Q (o :: rest) a w) : wpList P ops Q (o :: rest) a w := h

theorem wpList_copy_run {ops : Array Oper} {rest : List Oper} {o : Oper} {a : Act} {Q : Exit → Act → World → Prop} (hgd : o.guard = none) (s x : Operand) (t k : TypeId)
    (ho : o.op = .call { callee := .builtin .copy, args := #[s, x], argTypes := #[t, k] }) (vs vx v' : Value) (w' : World) (hs : a.eval s = vs) (hx : a.eval x = vx)
    (hr : ∀ ty, (Builtin.copy_ #[t, k] ty #[vs, vx]).run P w = .ok v' w') (h : wpList P ops Q rest (a.put o.dst v') w') : wpList P ops Q (o :: rest) a w :=
  wpList_plain hgd fun _ hK => by
    unfold Oper.wp execOp
    simp only [ho, resolve, invoke, builtin, Sem.run_bind, Sem.run_pure, Result.andThen_ok, List.map_toArray, List.map_cons, List.map_nil, hs, hx, hr]
    exact hK _ _ h
end

/-! ### make([]byte, n), and copies into a block -/
section
variable {P : Program} {w : World}

theorem madeCells_bytes (n : Nat) : madeCells (Value.int .u8 0).cells n = (bvs (List.replicate n 0)).toArray := by
  apply Array.ext'
  apply List.ext_getElem?
  intro i
  have hm : i % 1 = 0 := by omega
  simp [madeCells, bvs, List.getElem?_replicate]
  by_cases hi : i < n
  · simp [hi, Value.cells, hm]
  · simp [hi]

/-- make([]byte, n): a new block of zeros. -/
theorem run_make_bytes (t e : TypeId) (i : TypeInfo) (ht : P.underlying t = some (.slice e)) (hi : P.info? e = some i) (hz : i.zero = some (.int .u8 0)) (hs : i.size = 1) (hb : i.bytes = 1)
    (n : Nat) (hn : n ≤ 281474976710656) :
    (Instr.makeSlice t (.int .i64 n) (.int .i64 n)).run P w = .ok (.slice (some ⟨w.heap.size, 0, none⟩) n n) (w.alloc (.cells (bvs (List.replicate n 0)).toArray e)) := by
  have h := run_make (P := P) w t e i (.int .u8 0) ht hi hz .i64 .i64 n n (by omega) (by omega) (by rw [hb]; omega) (by omega)
  rw [hs, Nat.mul_one, Int.toNat_natCast, madeCells_bytes] at h
  exact h

theorem wpList_make_run {ops : Array Oper} {rest : List Oper} {o : Oper} {a : Act} {Q : Exit → Act → World → Prop} (hgd : o.guard = none) (s x : Operand) (t : TypeId)
    (ho : o.op = .makeSlice t s x) (vs vx v' : Value) (w' : World) (hs : a.eval s = vs) (hx : a.eval x = vx)
    (hr : (Instr.makeSlice t vs vx).run P w = .ok v' w') (h : wpList P ops Q rest (a.put o.dst v') w') : wpList P ops Q (o :: rest) a w :=
  wpList_plain hgd fun _ hK => by
    unfold Oper.wp execOp
    simp only [ho, hs, hx, Sem.run_bind, hr, Result.andThen_ok, Sem.run_pure]
    exact hK _ _ h

/-- copy(dst, src) from bytes that can be read, all of dst. -/
theorem run_copy_blk (dT sT ty elem : TypeId) (hu : P.underlying dT = some (.slice elem)) (hs : (P.info? elem).map (·.size) = some 1)
    (g o dCap : Nat) (l : List Value) (t : TypeId) (hg : Blk w g l t) (a : Option Addr) (sCap : Nat) (xs : List UInt8)
    (hx : xs = [] ∨ ∃ b p, a = some ⟨b, p, none⟩ ∧ ∀ j, (h : j < xs.length) → w.cell? ⟨b, p + j, none⟩ = some (.int .u8 (xs[j].toNat : Int))) (hfit : o + xs.length ≤ l.length) :
    (Builtin.copy_ #[dT, sT] ty #[.slice (some ⟨g, o, none⟩) xs.length dCap, .slice a xs.length sCap]).run P w = .ok (goInt xs.length) (w.setRow g (l.take o ++ bvs xs ++ l.drop (o + xs.length)).toArray) := by
  have self : (l.take o ++ bvs [] ++ l.drop o) = l := by simp [bvs]
  rcases hx with rfl | ⟨b, p, rfl, hc⟩
  · have h := run_copy_none (P := P) w dT sT ty elem (some ⟨g, o, none⟩) a 0 dCap 0 sCap hu hs rfl
    have h2 := setRow_self w g l.toArray t (0, 0) hg
    simp only [List.length_nil, Nat.add_zero, self, h2]
    exact h
  · have h := run_copy_row P w dT sT ty elem g o xs.length dCap ⟨b, p, none⟩ xs.length sCap l.toArray t (bvs xs) hu hs hg (by simp [bvs_length]) (by
      intro j v hj
      have hlt : j < xs.length := by
        have := (List.getElem?_eq_some_iff.1 hj).1
        rw [bvs_length] at this
        exact this
      rw [bvs_get xs j hlt] at hj
      rw [addr_add, hc j hlt]
      exact hj) (by rw [bvs_length]; simpa using hfit) (bvs_one xs)
    rw [bvs_length] at h
    exact h

/-- copy(dst, s) from a string that dst just takes. -/
theorem run_copy_text (dT sT ty elem : TypeId) (hu : P.underlying dT = some (.slice elem)) (hs : (P.info? elem).map (·.size) = some 1)
    (g o dCap : Nat) (l : List Value) (t : TypeId) (hg : Blk w g l t) (s : ByteArray) (hfit : o + s.size ≤ l.length) :
    (Builtin.copy_ #[dT, sT] ty #[.slice (some ⟨g, o, none⟩) s.size dCap, .string s]).run P w = .ok (goInt s.size) (w.setRow g (l.take o ++ bvs s.data.toList ++ l.drop (o + s.size)).toArray) := by
  have hsz : s.data.toList.length = s.size := rfl
  have hlen : (bvs s.data.toList).length = s.size := by rw [bvs_length, hsz]
  have hst := run_storeCells_at P g o t (bvs s.data.toList) 0 l.toArray w hg (by rw [hlen]; simpa using hfit) (bvs_one _)
  have htk : List.take s.size (List.map (fun b : UInt8 => Value.int IntKind.u8 (b.toNat : Int)) s.data.toList) = bvs s.data.toList := by
    rw [List.take_of_length_le (by rw [List.length_map, hsz]; exact Nat.le_refl _)]
    rfl
  rw [hlen] at hst
  simp only [Nat.add_zero] at hst
  cases hq : P.info? elem with
  | none => simp [hq] at hs
  | some i =>
    simp [Builtin.copy_, run_underlying hu, Builtin.lenOf, Builtin.firstCells, sizeOf, typeInfo, hq]
    rw [htk, hst]
    simp [Result.andThen]
end

end Go.Proofs.YtipejahmjdamjaaGreatDoor
namespace Go.Proofs.YtipejahmjdamjaaGreatDoor
open Go.RowKit

theorem Keeps.fromDrewN {S : Nat → Prop} {w w' : World} {n : Nat} (h : Keeps S (w.drewN n) w') : Keeps S w w' := ⟨h.os, h.tape, h.output, h.size, h.block⟩
theorem Keeps.of_grown {w w' : World} {row : Option Nat} (h : w.grownBy w' row) : Keeps (fun k => some k = row) w w' :=
  ⟨h.os, h.tape, h.output, h.size, fun k hk hn => h.block k hk hn⟩

end Go.Proofs.YtipejahmjdamjaaGreatDoor
namespace Go.Proofs.YtipejahmjdamjaaGreatDoor.Ch
open Go.RowKit
set_option linter.unusedVariables false

/-! ### A ring of numbers: nw goes on, od goes back -/
def Chain (nw od : Nat → Nat) : Nat → List Nat → Nat → Prop
  | p, [], q => nw p = q ∧ od q = p
  | p, b :: bs, q => nw p = b ∧ od b = p ∧ Chain nw od b bs q

theorem Chain.split {nw od : Nat → Nat} {p b q : Nat} {A C : List Nat} : Chain nw od p (A ++ b :: C) q ↔ Chain nw od p A b ∧ Chain nw od b C q := by
  induction A generalizing p with
  | nil => simp [Chain, and_assoc]
  | cons a A ih => simp only [List.cons_append, Chain, ih, and_assoc]

theorem Chain.prev_mem {nw od : Nat → Nat} {p q : Nat} {A : List Nat} (h : Chain nw od p A q) : od q ∈ p :: A := by
  induction A generalizing p with
  | nil => simp [Chain] at h; simp [h.2]
  | cons a A ih => exact List.mem_cons_of_mem _ (ih h.2.2)

theorem Chain.next_mem {nw od : Nat → Nat} {p q : Nat} {A : List Nat} (h : Chain nw od p A q) : nw p ∈ A ++ [q] := by
  cases A with
  | nil => simp [Chain] at h; simp [h.1]
  | cons a A => simp [h.1]

theorem Chain.same {nw od nw' od' : Nat → Nat} {p q : Nat} {A : List Nat} (h : Chain nw od p A q) (hn : ∀ z ∈ p :: A, nw' z = nw z) (ho : ∀ z ∈ A ++ [q], od' z = od z) : Chain nw' od' p A q := by
  induction A generalizing p with
  | nil => exact ⟨(hn p (by simp)).trans h.1, (ho q (by simp)).trans h.2⟩
  | cons a A ih =>
    exact ⟨(hn p (by simp)).trans h.1, (ho a (by simp)).trans h.2.1, ih h.2.2 (fun z hz => hn z (List.mem_cons_of_mem _ hz)) (fun z hz => ho z (by simp at hz ⊢; exact .inr hz))⟩

theorem Chain.turn {nw od nw' od' : Nat → Nat} {p q y : Nat} {A : List Nat} (h : Chain nw od p A q) (nd : (p :: A).Nodup) (hn : ∀ z ∈ p :: A, z ≠ od q → nw' z = nw z) (hx : nw' (od q) = y)
    (ho : ∀ z ∈ A, od' z = od z) (hy : od' y = od q) : Chain nw' od' p A y := by
  induction A generalizing p with
  | nil =>
    have h2 : od q = p := h.2
    exact ⟨h2 ▸ hx, by rw [hy, h2]⟩
  | cons a A ih =>
    have hm := h.2.2.prev_mem
    have hne : p ≠ od q := fun e => (List.nodup_cons.1 nd).1 (e ▸ hm)
    exact ⟨(hn p (by simp) hne).trans h.1, (ho a (by simp)).trans h.2.1, ih h.2.2 (List.nodup_cons.1 nd).2 (fun z hz => hn z (List.mem_cons_of_mem _ hz)) (fun z hz => ho z (List.mem_cons_of_mem _ hz))⟩

def upd (f : Nat → Nat) (x y : Nat) : Nat → Nat := fun z => if z = x then y else f z
theorem upd_same (f : Nat → Nat) (x y : Nat) : upd f x y x = y := if_pos rfl
theorem upd_ne (f : Nat → Nat) {x z : Nat} (y : Nat) (h : z ≠ x) : upd f x y z = f z := if_neg h

/-- One goes out of the ring. -/
theorem Chain.leave {nw od : Nat → Nat} {e b : Nat} {A C : List Nat} (h : Chain nw od e (A ++ b :: C) e) (nd : (e :: (A ++ b :: C)).Nodup) :
    Chain (upd nw (od b) (nw b)) (upd od (nw b) (od b)) e (A ++ C) e := by
  obtain ⟨h1, h2⟩ := Chain.split.1 h
  have hx := h1.prev_mem
  have nd1 : (e :: A).Nodup := nd.sublist (by simp)
  have hbe : b ≠ e := fun he => by rw [he] at nd; simp at nd
  cases C with
  | nil =>
    have e1 : nw b = e := h2.1
    rw [List.append_nil, e1]
    refine h1.turn nd1 (fun z hz hne => upd_ne _ _ hne) (upd_same _ _ _) (fun z hz => upd_ne _ _ fun he => ?_) (upd_same _ _ _)
    rw [he] at hz; simp at nd; exact nd.1.1 hz
  | cons c C =>
    have e1 : nw b = c := h2.1
    have hc := h2.2.2
    rw [e1]
    have dA : ∀ z ∈ e :: A, z ∉ b :: c :: C := by
      intro z hz hz2
      have : (e :: A ++ (b :: c :: C)).Nodup := by simpa using nd
      exact (List.nodup_append.1 this).2.2 z hz z hz2 rfl
    have dC : (c :: C).Nodup := by
      have h5 : (e :: A ++ (b :: c :: C)).Nodup := by simpa using nd
      exact (List.nodup_cons.1 (List.nodup_append.1 h5).2.1).2
    have hec : e ≠ c := fun he => dA e (by simp) (by simp [he])
    refine Chain.split.2 ⟨h1.turn nd1 (fun z hz hne => upd_ne _ _ hne) (upd_same _ _ _) (fun z hz => upd_ne _ _ fun he => ?_) (upd_same _ _ _), hc.same (fun z hz => upd_ne _ _ fun he => ?_) (fun z hz => upd_ne _ _ fun he => ?_)⟩
    · exact dA z (by simp [hz]) (by simp [he])
    · exact dA (od b) hx (by rw [← he]; exact List.mem_cons_of_mem _ hz)
    · rw [he] at hz
      rcases List.mem_append.1 hz with h' | h'
      · exact (List.nodup_cons.1 dC).1 h'
      · simp at h'; exact hec h'.symm

/-- One comes in, at the end. -/
theorem Chain.enter {nw od : Nat → Nat} {e b : Nat} {A : List Nat} (h : Chain nw od e A e) (nd : (e :: A).Nodup) (hb : b ∉ e :: A) :
    Chain (upd (upd nw b e) (od e) b) (upd (upd od b (od e)) e b) e (A ++ [b]) e := by
  have hx := h.prev_mem
  have hbe : b ≠ e := fun he => hb (by simp [he])
  have hbx : b ≠ od e := fun he => hb (he ▸ hx)
  refine Chain.split.2 ⟨h.turn nd (fun z hz hne => ?_) (upd_same _ _ _) (fun z hz => ?_) ?_, ?_, upd_same _ _ _⟩
  · rw [upd_ne _ _ hne, upd_ne _ _ fun he : z = b => hb (he ▸ hz)]
  · rw [upd_ne _ _ fun he : z = e => (List.nodup_cons.1 nd).1 (he ▸ hz), upd_ne _ _ fun he : z = b => hb (by rw [← he]; exact List.mem_cons_of_mem _ hz)]
  · rw [upd_ne _ _ hbe, upd_same]
  · rw [upd_ne _ _ hbx, upd_same]

/-! ### The ring's places in the memory -/
structure N where
  blk : Nat
  key : Int

abbrev ptr (b : Nat) : Value := .pointer (some ⟨b, 0, none⟩)

/-- Each of these places has its block. -/
def Nodes (w : World) (t : TypeId) (L : List N) (nw od : Nat → Nat) : Prop :=
  ∀ x ∈ L, Blk w x.blk [.int .i64 x.key, ptr (od x.blk), ptr (nw x.blk)] t

theorem Nodes.kept {S : Nat → Prop} {w w' : World} {t : TypeId} {L : List N} {nw od : Nat → Nat} (h : Nodes w t L nw od) (k : Keeps S w w') (hn : ∀ x ∈ L, ¬ S x.blk) : Nodes w' t L nw od :=
  fun x hx => (h x hx).kept k (hn x hx)
theorem Nodes.sub {w : World} {t : TypeId} {L L' : List N} {nw od : Nat → Nat} (h : Nodes w t L nw od) (hs : ∀ x ∈ L', x ∈ L) : Nodes w t L' nw od := fun x hx => h x (hs x hx)
theorem Nodes.setNew {w : World} {t : TypeId} {L : List N} {nw od : Nat → Nat} (h : Nodes w t L nw od) (x y : Nat) : Nodes (w.setCell ⟨x, 2, none⟩ (ptr y)) t L (upd nw x y) od := by
  intro z hz
  by_cases e : z.blk = x
  · have h1 := h z hz
    rw [e] at h1 ⊢
    rw [upd_same]
    exact h1.setCell 2 (ptr y)
  · rw [upd_ne _ _ e]
    exact (h z hz).setCell_ne e _
theorem Nodes.setOld {w : World} {t : TypeId} {L : List N} {nw od : Nat → Nat} (h : Nodes w t L nw od) (x y : Nat) : Nodes (w.setCell ⟨x, 1, none⟩ (ptr y)) t L nw (upd od x y) := by
  intro z hz
  by_cases e : z.blk = x
  · have h1 := h z hz
    rw [e] at h1 ⊢
    rw [upd_same]
    exact h1.setCell 1 (ptr y)
  · rw [upd_ne _ _ e]
    exact (h z hz).setCell_ne e _

/-- A ring in the memory: the end and its places. -/
structure Rg (w : World) (t : TypeId) (e : N) (xs : List N) (nw od : Nat → Nat) : Prop where
  chain : Chain nw od e.blk (xs.map N.blk) e.blk
  nodup : (e.blk :: xs.map N.blk).Nodup
  nodes : Nodes w t (e :: xs) nw od

theorem Rg.kept {S : Nat → Prop} {w w' : World} {t : TypeId} {e : N} {xs : List N} {nw od : Nat → Nat} (h : Rg w t e xs nw od) (k : Keeps S w w') (hn : ∀ x ∈ e :: xs, ¬ S x.blk) : Rg w' t e xs nw od :=
  ⟨h.chain, h.nodup, h.nodes.kept k hn⟩

/-! ### A map in the memory -/
theorem val_one : ∀ {l : List (Value × Value)}, (l.map Prod.fst).Nodup → ∀ {a x y : Value}, (a, x) ∈ l → (a, y) ∈ l → x = y
  | [], _, _, _, _, h, _ => by simp at h
  | p :: r, hn, a, x, y, hx, hy => by
    obtain ⟨h1, h2⟩ := List.nodup_cons.1 (by simpa using hn : (p.1 :: r.map Prod.fst).Nodup)
    rcases List.mem_cons.1 hx with hx | hx
    · rcases List.mem_cons.1 hy with hy | hy
      · rw [← hx] at hy; exact (congrArg Prod.snd hy).symm
      · exact absurd (List.mem_map.2 ⟨_, hy, by rw [← hx]⟩) h1
    · rcases List.mem_cons.1 hy with hy | hy
      · exact absurd (List.mem_map.2 ⟨_, hx, by rw [← hy]⟩) h1
      · exact val_one h2 hx hy

/-- Block m is a map with these keys and their values, in some order. -/
def MapIs (P : Program) (k : TypeId) (w : World) (m : Nat) (l : List (Value × Value)) : Prop :=
  ∃ es clock, w.heap[m]? = some (.map es clock) ∧ (es.toList.map fun e => (e.key, e.val)).Perm l ∧ (l.map Prod.fst).Nodup ∧ ∀ p ∈ l, ∃ lit, keyOf P k p.1 = some lit

section
variable {P : Program} {k : TypeId} {w : World} {m : Nat} {l l' : List (Value × Value)}
theorem MapIs.perm (h : MapIs P k w m l) (hp : l.Perm l') : MapIs P k w m l' := by
  obtain ⟨es, c, h1, h2, h3, h4⟩ := h
  exact ⟨es, c, h1, h2.trans hp, (hp.map _).nodup_iff.1 h3, fun p hm => h4 p (hp.mem_iff.2 hm)⟩
theorem MapIs.lt (h : MapIs P k w m l) : m < w.heap.size := by
  obtain ⟨es, c, h1, _⟩ := h
  exact (Array.getElem?_eq_some_iff.1 h1).1
theorem MapIs.kept {S : Nat → Prop} {w' : World} (h : MapIs P k w m l) (hK : Keeps S w w') (hn : ¬ S m) : MapIs P k w' m l := by
  have hlt := h.lt
  obtain ⟨es, c, h1, h2⟩ := h
  exact ⟨es, c, (hK.block m hlt hn).trans h1, h2⟩
theorem MapIs.new (P : Program) (k : TypeId) (w : World) : MapIs P k (w.alloc (.map #[] 0)) w.heap.size [] :=
  ⟨#[], 0, (MapKept.heap_alloc w _).1, by simp, by simp, by simp⟩
theorem MapIs.setCell (h : MapIs P k w m l) {a : Addr} (ha : m ≠ a.block) (u : Value) : MapIs P k (w.setCell a u) m l := by
  obtain ⟨es, c, h1, h2⟩ := h
  exact ⟨es, c, by rw [Below.heap_setCell _ _ _ _ ha]; exact h1, h2⟩

theorem MapIs.entries {es : Array MapEntry} (h2 : (es.toList.map fun e => (e.key, e.val)).Perm l) (h4 : ∀ p ∈ l, ∃ lit, keyOf P k p.1 = some lit) : ∀ e ∈ es.toList, ∃ lit, keyOf P k e.key = some lit :=
  fun e he => h4 (e.key, e.val) (h2.mem_iff.1 (List.mem_map.2 ⟨e, he, rfl⟩))

variable {t e : TypeId}
theorem MapIs.look_none (h : MapIs P k w m l) (K : Maps.Keyed P k) (ht : P.underlying t = some (.map k e)) {z : Value} (hz : (zeroValue e).run P w = .ok z w) {key : Value} {kl : Lit} (hkey : keyOf P k key = some kl)
    (hn : ∀ p ∈ l, p.1 ≠ key) : (Instr.lookup t (.map (some m)) key false).run P w = .ok z w := by
  obtain ⟨es, c, h1, h2, h3, h4⟩ := h
  rcases K.find w hkey es.toList (MapIs.entries h2 h4) with ⟨f1, _⟩ | ⟨j, e0, f1, f2, f3⟩
  · simp [Instr.lookup, run_underlying ht, MapKept.run_getObj_map h1, K.check w _ hkey, f1, hz, Result.andThen]
  · exact absurd f3 (hn (e0.key, e0.val) (h2.mem_iff.1 (List.mem_map.2 ⟨e0, List.mem_of_getElem? f2, rfl⟩)))

theorem MapIs.look_some (h : MapIs P k w m l) (K : Maps.Keyed P k) (ht : P.underlying t = some (.map k e)) {key v : Value} {kl : Lit} (hkey : keyOf P k key = some kl)
    (hm : (key, v) ∈ l) : (Instr.lookup t (.map (some m)) key false).run P w = .ok v w := by
  obtain ⟨es, c, h1, h2, h3, h4⟩ := h
  rcases K.find w hkey es.toList (MapIs.entries h2 h4) with ⟨f1, f2⟩ | ⟨j, e0, f1, f2, f3⟩
  · obtain ⟨e0, he0, h0⟩ := List.mem_map.1 (h2.mem_iff.2 hm)
    exact absurd (congrArg Prod.fst h0) (f2 e0 he0)
  · have hm0 : (e0.key, e0.val) ∈ l := h2.mem_iff.1 (List.mem_map.2 ⟨e0, List.mem_of_getElem? f2, rfl⟩)
    have hv : e0.val = v := by
      rw [f3] at hm0
      exact val_one h3 hm0 hm
    simp [Instr.lookup, run_underlying ht, MapKept.run_getObj_map h1, K.check w _ hkey, f1, hv, Result.andThen]

/-- A key that is not there gets a value. -/
theorem MapIs.store (h : MapIs P k w m l) (K : Maps.Keyed P k) (ht : P.underlying t = some (.map k e)) {key v : Value} {kl : Lit} (hkey : keyOf P k key = some kl) (hroom : l.length < maxLen)
    (hn : ∀ p ∈ l, p.1 ≠ key) : ∃ w', (Instr.mapUpdate t (.map (some m)) key v).run P w = .ok () w' ∧ MapIs P k w' m ((key, v) :: l) ∧ Keeps (fun b => b = m) w w' := by
  obtain ⟨es, c, h1, h2, h3, h4⟩ := h
  rcases K.find w hkey es.toList (MapIs.entries h2 h4) with ⟨f1, _⟩ | ⟨j, e0, f1, f2, f3⟩
  · have hsz : es.size < maxLen := by
      have := h2.length_eq
      simp at this; omega
    refine ⟨ChangeMaps.setBlock w m (.map (es.push ⟨key, v, c⟩) (c + 1)), ?_, ⟨es.push ⟨key, v, c⟩, c + 1, ChangeMaps.heap_setBlock_same h1 _, ?_, ?_, ?_⟩, ⟨rfl, rfl, rfl, by simp [ChangeMaps.setBlock], fun i _ hi => ChangeMaps.heap_setBlock_other h1 _ hi⟩⟩
    · simp [Instr.mapUpdate, run_underlying ht, MapKept.run_getObj_map h1, K.check w false hkey, f1, MapKept.run_setObj_map _ h1, Result.andThen, ChangeMaps.setBlock]
    · rw [Array.toList_push, List.map_append]
      exact (List.perm_append_singleton _ _).trans (h2.cons _)
    · simp only [List.map_cons, List.nodup_cons]
      refine ⟨fun hm => ?_, h3⟩
      obtain ⟨p, hp, he⟩ := List.mem_map.1 hm
      exact hn p hp he
    · intro p hp
      rcases List.mem_cons.1 hp with rfl | hp
      · exact ⟨kl, hkey⟩
      · exact h4 p hp
  · exact absurd f3 (hn (e0.key, e0.val) (h2.mem_iff.1 (List.mem_map.2 ⟨e0, List.mem_of_getElem? f2, rfl⟩)))

/-- A key that is there goes. -/
theorem MapIs.drop {A C : List (Value × Value)} {key v : Value} (h : MapIs P k w m (A ++ (key, v) :: C)) (K : Maps.Keyed P k) (ht : P.underlying t = some (.map k e)) {kl : Lit} (hkey : keyOf P k key = some kl) :
    ∃ w', (∀ ty, (Builtin.delete_ #[t, k] ty #[.map (some m), key]).run P w = .ok (.tuple #[]) w') ∧ MapIs P k w' m (A ++ C) ∧ Keeps (fun b => b = m) w w' := by
  obtain ⟨es, c, h1, h2, h3, h4⟩ := h
  rcases K.find w hkey es.toList (MapIs.entries h2 h4) with ⟨f1, f2⟩ | ⟨j, e0, f1, f2, f3⟩
  · obtain ⟨e0, he0, h0⟩ := List.mem_map.1 (h2.mem_iff.2 (show (key, v) ∈ A ++ (key, v) :: C by simp))
    exact absurd (congrArg Prod.fst h0) (f2 e0 he0)
  · have hjl : j < es.toList.length := (List.getElem?_eq_some_iff.1 f2).1
    have hjs : j < es.size := by simpa using hjl
    have hsub : (es.eraseIdxIfInBounds j).toList = es.toList.eraseIdx j := by
      unfold Array.eraseIdxIfInBounds
      rw [dif_pos hjs]
      simp
    have hlist : es.toList = es.toList.take j ++ e0 :: es.toList.drop (j + 1) := by
      have := List.getElem_of_getElem? f2
      obtain ⟨hh, he⟩ := this
      rw [← he, List.getElem_cons_drop, List.take_append_drop]
    have hperm : ((es.toList.eraseIdx j).map fun e => (e.key, e.val)).Perm (A ++ C) := by
      have hm0 : (e0.key, e0.val) ∈ A ++ (key, v) :: C := h2.mem_iff.1 (List.mem_map.2 ⟨e0, List.mem_of_getElem? f2, rfl⟩)
      have hv : e0.val = v := by
        rw [f3] at hm0
        exact val_one h3 hm0 (show (key, v) ∈ A ++ (key, v) :: C by simp)
      rw [hlist, List.map_append, List.map_cons, f3, hv] at h2
      have h5 := (List.perm_middle.symm.trans (h2.trans List.perm_middle)).cons_inv
      rw [List.eraseIdx_eq_take_drop_succ, List.map_append]
      exact h5
    refine ⟨ChangeMaps.setBlock w m (.map (es.eraseIdxIfInBounds j) c), fun ty => ?_, ⟨_, c, ChangeMaps.heap_setBlock_same h1 _, by rw [hsub]; exact hperm, ?_, fun p hp => h4 p ?_⟩, ⟨rfl, rfl, rfl, by simp [ChangeMaps.setBlock], fun i _ hi => ChangeMaps.heap_setBlock_other h1 _ hi⟩⟩
    · simp [Builtin.delete_, run_underlying ht, MapKept.run_getObj_map h1, K.check w _ hkey, f1, MapKept.run_setObj_map _ h1, Result.andThen, ChangeMaps.setBlock]
    · refine h3.sublist ?_
      simp
    · rcases List.mem_append.1 hp with h | h
      · simp [h]
      · simp [h]

theorem MapIs.len (h : MapIs P k w m l) (ht : P.underlying t = some (.map k e)) (ty : TypeId) : (Builtin.len_ #[t] ty #[.map (some m)]).run P w = .ok (.int .i64 l.length) w := by
  obtain ⟨es, c, h1, h2, h3, h4⟩ := h
  have e1 : es.size = l.length := by have := h2.length_eq; simpa using this
  simp [Builtin.len_, run_underlying ht, MapKept.run_getObj_map h1, goInt, Result.andThen, e1]
end

end Go.Proofs.YtipejahmjdamjaaGreatDoor.Ch
