import Derived.Test.YtegediccgnoecaaDoorApB
import Derived.Test.YtegediccgnoecaaDoorApC
import Derived.Test.YtegediccgnoecaaDoorApD
import Derived.Test.YtegediccgnoecaaDoorApE
import Derived.Test.YtegediccgnoecaaDoorApF
import Derived.Test.YtegediccgnoecaaDoorApG
import Derived.Test.YtegediccgnoecaaDoorApH
import Derived.Test.YtegediccgnoecaaDoorApI
namespace Go.Proofs.YtegediccgnoecaaDoor
open Go.RowKit
set_option linter.unusedVariables false

theorem names_apart : ∀ i : Fin 31, ∀ j : Fin 31, (formAt i.val ≠ 0) → (formAt j.val ≠ 0) → ((nameAt i.val).data.toList == (nameAt j.val).data.toList) = (i.val == j.val) := by decide +kernel

/-- No two operations have one name. -/
theorem names_ops (m n : Int) (hm : formOf m ≠ 0) (hn : formOf n ≠ 0) : ((nameOf m).toList == (nameOf n).toList) = (m == n) := by
  have bm := formOf_bd hm
  have bn := formOf_bd hn
  have rm : rowOf m = m.toNat := by unfold rowOf; rw [if_neg (by omega)]
  have rn : rowOf n = n.toNat := by unfold rowOf; rw [if_neg (by omega)]
  have : ((nameAt (rowOf m)).data.toList == (nameAt (rowOf n)).data.toList) = (rowOf m == rowOf n) := names_apart ⟨rowOf m, rowOf_lt m⟩ ⟨rowOf n, rowOf_lt n⟩ hm hn
  rw [ByteArray.toList_eq, ByteArray.toList_eq]
  unfold nameOf
  rw [this, rm, rn, Bool.eq_iff_iff]
  simp
  omega

/-- No two instructions have one word. -/
theorem words_ins {op a b c i op' a' b' c' i' : Int} (h : okI op a b c i = true) (h' : okI op' a' b' c' i' = true) (e : wordN op a b c i = wordN op' a' b' c' i') : op = op' ∧ a = a' ∧ b = b' ∧ c = c' ∧ i = i' := by
  obtain ⟨_, _, e1, e2, e3, e4, e5⟩ := rd_word op a b c i h
  obtain ⟨_, _, f1, f2, f3, f4, f5⟩ := rd_word op' a' b' c' i' h'
  rw [e] at e1 e2 e3 e4 e5
  exact ⟨e1.symm.trans f1, e2.symm.trans f2, e3.symm.trans f3, e4.symm.trans f4, e5.symm.trans f5⟩
theorem words_ne {op a b c i op' a' b' c' i' : Int} (h : okI op a b c i = true) (h' : okI op' a' b' c' i' = true) (hn : ¬ (op = op' ∧ a = a' ∧ b = b' ∧ c = c' ∧ i = i')) : (((wordN op a b c i : Nat) : Int) == ((wordN op' a' b' c' i' : Nat) : Int)) = false := by
  simp only [beq_eq_false_iff_ne, ne_eq]
  intro e
  exact hn (words_ins h h' (by omega))
theorem ok_form {op a b c i : Int} (h : okI op a b c i = true) : formOf op ≠ 0 := by
  intro h0
  simp [okI, h0] at h
theorem ne_t {f : Int} (h : f ≠ 0) : (f != 0) = true := by simpa using h
theorem ne_f {f : Int} (h : ¬ f ≠ 0) : (f != 0) = false := by simpa using h

theorem isaApart_any (op a b c i op' a' b' c' i' : Int) (w : World) (h : Tabs w) : Calls Tryd.prog 8 #[insV op a b c i, insV op' a' b' c' i'] w fun e w' => e = .returned (.bool true) ∧ Below w.heap.size w w' := by
  have FI := fun w h => form_any op w h
  have FJ := fun w h => form_any op' w h
  have NI := fun w h => name_any op w h
  have NJ := fun w h => name_any op' w h
  cases hi : okI op a b c i
  · have EI := fun w h => enc_bad op a b c i hi w h
    have EJ := fun w h => enc_any op' a' b' c' i' w h
    by_cases h0 : formOf op ≠ 0
    · by_cases h1 : formOf op' ≠ 0
      · exact apart_iq op a b c i op' a' b' c' i' _ _ _ _ _ _ _ w h EI EJ FI FJ NI NJ (op == op') rfl (names_ops op op' h0 h1) (ne_t h0) (ne_t h1)
      · exact apart_i1 op a b c i op' a' b' c' i' _ _ _ _ _ _ _ w h EI EJ FI FJ NI NJ (ne_t h0) (ne_f h1)
    · exact apart_i0 op a b c i op' a' b' c' i' _ _ _ _ _ _ _ w h EI EJ FI FJ NI NJ (ne_f h0)
  · have EI := fun w h => enc_ok op a b c i hi w h
    have h0 := ok_form hi
    cases hj : okI op' a' b' c' i'
    · have EJ := fun w h => enc_bad op' a' b' c' i' hj w h
      by_cases h1 : formOf op' ≠ 0
      · exact apart_jq op a b c i op' a' b' c' i' _ _ _ _ _ _ w h EI EJ FI FJ NI NJ (op == op') rfl (names_ops op op' h0 h1) (ne_t h0) (ne_t h1)
      · exact apart_j1 op a b c i op' a' b' c' i' _ _ _ _ _ _ w h EI EJ FI FJ NI NJ (ne_t h0) (ne_f h1)
    · have EJ := fun w h => enc_ok op' a' b' c' i' hj w h
      have h1 := ok_form hj
      by_cases d0 : op = op'
      · subst d0
        by_cases d1 : a = a'
        · subst d1
          by_cases d2 : b = b'
          · subst d2
            by_cases d3 : c = c'
            · subst d3
              by_cases d4 : i = i'
              · subst d4
                exact apart_eq op a b c i op a b c i _ 0 _ 0 _ ⟨#[]⟩ w h EI EJ FI NI (ne_t h0)
              · exact apart_eqi op a b c i op a b c i' _ _ _ 0 _ ⟨#[]⟩ w h EI EJ FI NI (words_ne hi hj (fun e => d4 e.2.2.2.2)) (by simpa using d4) (ne_t h0)
            · exact apart_eqc op a b c i op a b c' i' _ _ _ 0 _ ⟨#[]⟩ w h EI EJ FI NI (words_ne hi hj (fun e => d3 e.2.2.2.1)) (by simpa using d3) (ne_t h0)
          · exact apart_eqb op a b c i op a b' c' i' _ _ _ 0 _ ⟨#[]⟩ w h EI EJ FI NI (words_ne hi hj (fun e => d2 e.2.2.1)) (by simpa using d2) (ne_t h0)
        · exact apart_eqa op a b c i op a' b' c' i' _ _ _ 0 _ ⟨#[]⟩ w h EI EJ FI NI (words_ne hi hj (fun e => d1 e.2.1)) (by simpa using d1) (ne_t h0)
      · have ho : (op == op') = false := by simpa using d0
        exact apart_ne op a b c i op' a' b' c' i' _ _ _ _ _ _ w h EI EJ FI FJ NI NJ (words_ne hi hj (fun e => d0 e.1)) ho ((names_ops op op' h0 h1).trans ho) (ne_t h0) (ne_t h1)
end Go.Proofs.YtegediccgnoecaaDoor
