import Derived.WalkKit
import Derived.Laws.CopyRow
import Derived.Laws.IdiomCopy
import Derived.Laws.MakeOwn
import Derived.OwnWalk
import Derived.Laws.AppendOwn
import Derived.Deep.Draws
namespace Go.Proofs.YtlnmlbkeemahcaaGreat
open Go.RowKit
structure Keeps (S : Nat → Prop) (w w' : World) : Prop where
 os : w'.os = w.os
 tape : w'.tape = w.tape
 output : w'.output = w.output
 size : w.heap.size ≤ w'.heap.size
 block : ∀ k, k < w.heap.size → ¬ S k → w'.heap[k]? = w.heap[k]?
def Blk (w : World) (g : Nat) (l : List Value) (t : TypeId) : Prop := w.heap[g]? = some (.cells l.toArray t (0, 0))
def bvs (xs : List UInt8) : List Value := xs.map fun x => .int .u8 (x.toNat : Int)
theorem addr_add (g o j : Nat) : (⟨g, o, none⟩ : Addr).add j = ⟨g, o + j, none⟩ := by
 unfold Addr.add
 split <;> simp_all
section
variable {S T : Nat → Prop} {w w' w'' : World}
theorem Keeps.refl (S : Nat → Prop) (w : World) : Keeps S w w := ⟨rfl, rfl, rfl, Nat.le_refl _, fun _ _ _ => rfl⟩
theorem Keeps.trans (h : Keeps S w w') (k : Keeps T w' w'') (hs : ∀ b, b < w.heap.size → T b → S b) : Keeps S w w'' :=
 ⟨k.os.trans h.os, k.tape.trans h.tape, k.output.trans h.output, Nat.le_trans h.size k.size,
  fun b hb hn => (k.block b (Nat.lt_of_lt_of_le hb h.size) fun ht => hn (hs b hb ht)).trans (h.block b hb hn)⟩
theorem Keeps.mono (h : Keeps S w w') (hs : ∀ b, b < w.heap.size → S b → T b) : Keeps T w w' :=
 ⟨h.os, h.tape, h.output, h.size, fun b hb hn => h.block b hb fun ht => hn (hs b hb ht)⟩
theorem Keeps.drewN (h : Keeps S w w') (n : Nat) : Keeps S w (w'.drewN n) := ⟨h.os, h.tape, h.output, h.size, h.block⟩
theorem Keeps.drew (h : Keeps S w w') : Keeps S w w'.drew := ⟨h.os, h.tape, h.output, h.size, h.block⟩
theorem Keeps.alloc (h : Keeps S w w') (o : Obj) : Keeps S w (w'.alloc o) :=
 ⟨h.os, h.tape, h.output, by simp; have := h.size; omega, fun b hb hn => by
  rw [Below.heap_alloc w' o b (Nat.lt_of_lt_of_le hb h.size)]; exact h.block b hb hn⟩
theorem Keeps.setCell (h : Keeps S w w') (a : Addr) (v : Value) (ha : a.block < w.heap.size → S a.block) : Keeps S w (w'.setCell a v) :=
 ⟨h.os, h.tape, h.output, by simp; exact h.size, fun b hb hn => by
  rw [Below.heap_setCell w' a v b (fun e => hn (e ▸ ha (e ▸ hb)))]; exact h.block b hb hn⟩
theorem heap_setRow_ne (w : World) (g k : Nat) (cs : Array Value) (h : k ≠ g) : (w.setRow g cs).heap[k]? = w.heap[k]? := by
 have : g ≠ k := fun e => h e.symm
 simp [World.setRow, Array.getElem?_modify, this]
theorem Keeps.setRow (h : Keeps S w w') (g : Nat) (cs : Array Value) (ha : g < w.heap.size → S g) : Keeps S w (w'.setRow g cs) :=
 ⟨h.os, h.tape, h.output, by simp [World.setRow]; exact h.size, fun b hb hn => by
  rw [heap_setRow_ne w' g b cs (fun e => hn (e ▸ ha (e ▸ hb)))]; exact h.block b hb hn⟩
theorem Keeps.below (h : Keeps S w w') {B : Nat} (hB : B ≤ w.heap.size) (hs : ∀ b, S b → B ≤ b) : Below B w w' :=
 ⟨h.os, h.tape, h.output, h.size, fun b hb => h.block b (Nat.lt_of_lt_of_le hb hB) fun hn => by have := hs b hn; omega⟩
variable {g : Nat} {l : List Value} {t : TypeId}
theorem Blk.lt (h : Blk w g l t) : g < w.heap.size := (Array.getElem?_eq_some_iff.1 h).1
theorem Blk.kept (h : Blk w g l t) (k : Keeps S w w') (hn : ¬ S g) : Blk w' g l t := by
 unfold Blk at *
 rw [k.block g (Blk.lt h) hn]; exact h
theorem Blk.drew (h : Blk w g l t) : Blk w.drew g l t := h
theorem Blk.alloc (h : Blk w g l t) (o : Obj) : Blk (w.alloc o) g l t := by
 unfold Blk at *
 rw [Below.heap_alloc w o g (Blk.lt h)]; exact h
theorem Blk.new (w : World) (cs : Array Value) (t : TypeId) : Blk (w.alloc (.cells cs t)) w.heap.size cs.toList t := by
 unfold Blk
 rw [Array.toArray_toList]
 exact heap_alloc_new w _
theorem Blk.cell (h : Blk w g l t) {i : Nat} {v : Value} (hv : l[i]? = some v) : w.cell? ⟨g, i, none⟩ = some v := by
 unfold Blk at h
 simp [World.cell?, h, hv]
theorem Blk.frozen (h : Blk w g l t) (i : Nat) : w.frozen? ⟨g, i, none⟩ = false := by
 unfold Blk at h
 simp [World.frozen?, h]
theorem Blk.setRow (h : Blk w g l t) (cs : List Value) : Blk (w.setRow g cs.toArray) g cs t := setRow_heap w g _ _ t _ h
theorem Blk.setRow_ne (h : Blk w g l t) {k : Nat} (hk : g ≠ k) (cs : Array Value) : Blk (w.setRow k cs) g l t := by
 unfold Blk at *
 rw [heap_setRow_ne w k g cs hk]; exact h
theorem Blk.setCell (h : Blk w g l t) (i : Nat) (v : Value) : Blk (w.setCell ⟨g, i, none⟩ v) g (l.set i v) t := by
 rw [setCell_eq_setRow w g i _ t _ v h]
 have e : l.toArray.setIfInBounds i v = (l.set i v).toArray := by simp
 rw [e]
 exact h.setRow _
theorem Blk.setCell_ne (h : Blk w g l t) {a : Addr} (hk : g ≠ a.block) (v : Value) : Blk (w.setCell a v) g l t := by
 unfold Blk at *
 rw [Below.heap_setCell w a v g hk]; exact h
end
section
variable {P : Program} (w : World)
end
section
variable {P : Program} {w : World}
theorem wpList_append_run {ops : Array Oper} {rest : List Oper} {o : Oper} {a : Act} {Q : Exit → Act → World → Prop} (hgd : o.guard = none) (s x : Operand) (t k : TypeId)
  (ho : o.op = .call { callee := .builtin .append, args := #[s, x], argTypes := #[t, k] }) (vs vx v' : Value) (w' : World) (hs : a.eval s = vs) (hx : a.eval x = vx)
  (hr : ∀ ty, (Builtin.append_ #[t, k] ty #[vs, vx]).run P w = .ok v' w') (h : wpList P ops Q rest (a.put o.dst v') w') : wpList P ops Q (o :: rest) a w :=
 wpList_plain hgd fun _ hK => by
  unfold Oper.wp execOp
  simp only [ho, resolve, invoke, builtin, Sem.run_bind, Sem.run_pure, Result.andThen_ok, List.map_toArray, List.map_cons, List.map_nil, hs, hx, hr]
  exact hK _ _ h
theorem isCopy {ops : Array Oper} {rest : List Oper} {o : Oper} {a : Act} {Q : Exit → Act → World → Prop} (s x : Operand) (t k : TypeId)
  (_ho : o.op = .call { callee := .builtin .copy, args := #[s, x], argTypes := #[t, k] }) (h : wpList P ops Q (o :: rest) a w) : wpList P ops Q (o :: rest) a w := h
theorem wpList_copy_run {ops : Array Oper} {rest : List Oper} {o : Oper} {a : Act} {Q : Exit → Act → World → Prop} (hgd : o.guard = none) (s x : Operand) (t k : TypeId)
  (ho : o.op = .call { callee := .builtin .copy, args := #[s, x], argTypes := #[t, k] }) (vs vx v' : Value) (w' : World) (hs : a.eval s = vs) (hx : a.eval x = vx)
  (hr : ∀ ty, (Builtin.copy_ #[t, k] ty #[vs, vx]).run P w = .ok v' w') (h : wpList P ops Q rest (a.put o.dst v') w') : wpList P ops Q (o :: rest) a w :=
 wpList_plain hgd fun _ hK => by
  unfold Oper.wp execOp
  simp only [ho, resolve, invoke, builtin, Sem.run_bind, Sem.run_pure, Result.andThen_ok, List.map_toArray, List.map_cons, List.map_nil, hs, hx, hr]
  exact hK _ _ h
end
section
variable {P : Program} {w : World}
theorem wpList_make_run {ops : Array Oper} {rest : List Oper} {o : Oper} {a : Act} {Q : Exit → Act → World → Prop} (hgd : o.guard = none) (s x : Operand) (t : TypeId)
  (ho : o.op = .makeSlice t s x) (vs vx v' : Value) (w' : World) (hs : a.eval s = vs) (hx : a.eval x = vx)
  (hr : (Instr.makeSlice t vs vx).run P w = .ok v' w') (h : wpList P ops Q rest (a.put o.dst v') w') : wpList P ops Q (o :: rest) a w :=
 wpList_plain hgd fun _ hK => by
  unfold Oper.wp execOp
  simp only [ho, hs, hx, Sem.run_bind, hr, Result.andThen_ok, Sem.run_pure]
  exact hK _ _ h
end
abbrev KF (w w' : World) : Prop := Keeps (fun _ => False) w w'
end Go.Proofs.YtlnmlbkeemahcaaGreat
