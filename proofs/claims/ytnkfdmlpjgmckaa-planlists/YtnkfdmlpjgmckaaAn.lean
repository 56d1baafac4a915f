import Derived.Test.YtnkfdmlpjgmckaaAm
namespace Go.Proofs.Ytnkfdmlpjgmckaa
open Go.RowKit
set_option linter.unusedVariables false
set_option maxRecDepth 6000

theorem Ob3.mark {w0 w : World} {S : Nat → Prop} {os : List Obj1} (h : Ob3 w0 S w os) {i g n c : Nat} {xs : List Value} (hi : os[i]? = some (.slice (some ⟨g, 0, none⟩) n c, 3, xs)) (hn : xs.length = n) (hS : S g) (h3 : i < 3) (j : Nat) (hj : j < n) (x : Value) :
    Ob3 w0 S (w.setCell ⟨g, j, none⟩ x) (os.set i (.slice (some ⟨g, 0, none⟩) n c, 3, xs.set j x)) := by
  have ho := h.objs.own i _ hi
  dsimp only at ho
  rw [hn] at ho
  have hs := owns_set ho j x hj
  refine ⟨h.objs.set hi (by rw [List.length_set, hn]; exact hs) (.inl rfl) ((Keeps.refl _ _).setCell _ _ fun _ => rfl), fun k o b hk ho hb => ?_, h.keeps.setCell _ _ fun _ => hS⟩
  rw [List.getElem?_set_ne (by omega)] at ho
  exact h.lo k o b hk ho hb
theorem mark_step {i L j : Nat} {x : List Value} (hx : x.length = L) (hj : j < L) : (mks i j 0 ++ x.drop j).set j (.int .i64 (mrk i)) = mks i (j + 1) 0 ++ x.drop (j + 1) := by
  have hl : (mks i j 0).length = j := by rw [mks_len]; omega
  rw [List.set_append_right _ _ (by omega), hl, Nat.sub_self]
  rw [List.drop_eq_getElem_cons (by omega : j < x.length)]
  simp only [List.set_cons_zero]
  unfold mks
  rw [List.replicate_succ']
  simp

/-- A list without room. -/
def Fl (a : Option Addr) (L c : Nat) : Prop := (L = 0 ∧ a = none ∧ c = 0) ∨ (∃ g, a = some ⟨g, 0, none⟩ ∧ c = L)
theorem Fl.v {a : Option Addr} {L c : Nat} (h : Fl a L c) {xs : List Value} (hx : xs.length = L) : (Value.slice a L c) = .slice none 0 0 ∨ ∃ g, (Value.slice a L c) = .slice (some ⟨g, 0, none⟩) xs.length xs.length := by
  rcases h with ⟨rfl, rfl, rfl⟩ | ⟨g, rfl, rfl⟩
  · exact .inl rfl
  · exact .inr ⟨g, by rw [hx]⟩
end Go.Proofs.Ytnkfdmlpjgmckaa
