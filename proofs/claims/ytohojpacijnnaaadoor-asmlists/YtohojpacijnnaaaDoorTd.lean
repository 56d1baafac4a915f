import Derived.Test.YtohojpacijnnaaaDoorTc
namespace Go.Proofs.YtohojpacijnnaaaDoor
open Go.RowKit Go.Shelf
set_option linter.unusedVariables false
set_option linter.unusedSimpArgs false
set_option maxRecDepth 6000

theorem val_bd (x : Nat) (hx : x < 4294967296) (c : UInt8) : -131072 ≤ valW x c ∧ valW x c ≤ 131071 := by
  unfold valW Is.rdA Is.rdB Is.rdC Is.rdI Is.sgn18
  repeat' split
  all_goals omega
theorem opW_length (x : Nat) (hx : x < 4294967296) (c : UInt8) : (opW x c).length ≤ 22 := by
  have h := val_bd x hx c
  have := tx_length (n := valW x c) (by omega)
  unfold opW
  split
  · omega
  · simp; omega
theorem opsW_length (x : Nat) (hx : x < 4294967296) (l : List UInt8) (b : Bool) : (opsW x l b).length ≤ 24 * l.length := by
  induction l generalizing b with
  | nil => simp [opsW]
  | cons c r ih =>
    have h1 := opW_length x hx c
    have h2 := ih false
    simp only [opsW, List.length_append, List.length_cons]
    split <;> simp <;> omega
theorem name_size (n : Int) : (Is.nameOf n).data.toList.length ≤ 10 := by
  have h : ∀ i : Fin 31, (Is.nameAt i.val).data.toList.length ≤ 10 := by decide
  exact h ⟨Is.rowOf n, Is.rowOf_lt n⟩
theorem letW_mem {k : Int} {c : UInt8} (h : c ∈ letW k) : c = 97 ∨ c = 98 ∨ c = 99 ∨ c = 105 := by
  unfold letW at h
  split at h
  · simp at h; simp [h]
  split at h
  · simp at h; rcases h with h | h <;> simp [h]
  split at h
  · simp at h; rcases h with h | h | h <;> simp [h]
  split at h
  · simp at h; rcases h with h | h <;> simp [h]
  split at h
  · simp at h; rcases h with h | h | h <;> simp [h]
  split at h
  · simp at h; simp [h]
  · simp at h
/-- The range's iterator moves on by one letter. -/
theorem run_next_at {P : Program} {w : World} {g : Nat} {l : List UInt8} {pos : Nat} {c : UInt8} (ty : TypeId) (hg : w.heap[g]? = some (.stringIter (bst l) pos)) (hc : l[pos]? = some c) (ha : c.toNat < 128) :
    (Instr.next (.pointer (some ⟨g, 0, none⟩)) true ty).run P w = .ok (.tuple #[.bool true, .int .i64 pos, .int .i32 (c.toNat : Int)]) { w with heap := w.heap.setIfInBounds g (.stringIter (bst l) (pos + 1)) } := by
  have hp : pos < l.length := (List.getElem?_eq_some_iff.1 hc).1
  have hps : pos < (bst l).size := by rw [bst_size]; exact hp
  have e : (bst l)[pos]'hps = c := by
    have := (List.getElem?_eq_some_iff.1 hc).2
    rw [← this]
    rfl
  have hd := decode_ascii (bst l) pos hps (by rw [e]; exact ha)
  rw [e] at hd
  simp only [Instr.next, getObj, setObj, Sem.run_bind, Sem.run, hg, Result.andThen, hps, if_true, hd]
  simp [goInt, Sem.run, hg]
theorem run_next_stop {P : Program} {w : World} {g : Nat} {l : List UInt8} {pos : Nat} (ty : TypeId) (hg : w.heap[g]? = some (.stringIter (bst l) pos)) (hc : l.length ≤ pos) :
    (Instr.next (.pointer (some ⟨g, 0, none⟩)) true ty).run P w = .ok (.tuple #[.bool false]) w := by
  have hps : ¬ pos < (bst l).size := by rw [bst_size]; omega
  simp [Instr.next, getObj, Sem.run, hg, hps]
theorem keeps_iter {S : Nat → Prop} {w w' : World} (h : Keeps S w w') (g : Nat) (o : Obj) (hg : g < w.heap.size → S g) : Keeps S w { w' with heap := w'.heap.setIfInBounds g o } :=
  ⟨h.os, h.tape, h.output, by simpa using h.size, fun b hb hn => by
    have : g ≠ b := fun e => hn (e ▸ hg (e ▸ hb))
    show (w'.heap.setIfInBounds g o)[b]? = _
    rw [Array.getElem?_setIfInBounds_ne this]
    exact h.block b hb hn⟩
end Go.Proofs.YtohojpacijnnaaaDoor
