import Derived.Test.YtekijhhpldnmnaaL
namespace Go.Proofs.Ytekijhhpldnmnaa
open Go.RowKit
set_option linter.unusedVariables false

theorem lay_push (l : List UInt32) (q n : Nat) (x : UInt32) (m : List UInt32) (hz : win l q (1 + n) = List.replicate (1 + n) 0) (hf : q + (1 + n) ≤ l.length) (hm : m.length ≤ n) :
    lay (l.set q x) (q + 1) m = lay l q (x :: (m ++ List.replicate (n - m.length) 0)) := by
  obtain ⟨a, b, rfl, ha⟩ : ∃ a b, l = a ++ (List.replicate (1 + n) 0 ++ b) ∧ a.length = q := by
    refine ⟨l.take q, l.drop (q + (1 + n)), ?_, by simp; omega⟩
    rw [← hz]
    unfold win
    rw [← List.drop_drop, List.take_append_drop, List.take_append_drop]
  subst ha
  have e1 : (a ++ (List.replicate (1 + n) 0 ++ b)).set a.length x = (a ++ [x]) ++ (List.replicate n 0 ++ b) := by
    rw [List.set_append_right _ _ (Nat.le_refl _), Nat.sub_self, Nat.add_comm 1 n, List.replicate_succ]
    simp
  have e2 := lay_app (a ++ [x]) (List.replicate n 0 ++ b) 0 m
  rw [List.length_append, Nat.add_zero] at e2
  have e3 : a.length + [x].length = a.length + 1 := rfl
  rw [e3] at e2
  have e4 := lay_app a (List.replicate (1 + n) 0 ++ b) 0 (x :: (m ++ List.replicate (n - m.length) 0))
  rw [Nat.add_zero] at e4
  rw [e1, e2, e4, lay_left (List.replicate (1 + n) 0) b (x :: (m ++ List.replicate (n - m.length) 0)) (by simp; omega)]
  unfold lay
  rw [List.take_zero, List.nil_append, Nat.zero_add, List.drop_append_of_le_length (l₁ := List.replicate n 0) (l₂ := b) (by simp; exact hm), List.drop_replicate]
  simp

section
variable {h n d : Nat} {r : Rw}

theorem set_head (r : Rw) (X : List UInt32) (i : Nat) (v : UInt32) (hh : h = 1 ∨ h = 3) (hi : i < h) : (hdW h r ++ X).set i v = (hdW h r).set i v ++ X := by
  rw [List.set_append_left _ _ (by rw [hdW_length hh]; exact hi)]

theorem pushL_enc (hh : h = 1 ∨ h = 3) (o : r.Ok h n d) (hd : d ≤ 8) (hr : r.ms.length < d) {m : List UInt32} (hm : m.length ≤ n) : pushL h n d (enc h n d r) m = enc h n d (r.push m) := by
  have hq : plA h n d (enc h n d r) (cntW h (enc h n d r)) = h + pos d r.f r.ms.length * (1 + n) := by unfold plA; rw [fst_enc hh o hd, cnt_enc hh o hd]
  have hp := pos_lt o.f hr
  have hw := enc_win hh o hp
  rw [idx_pos o.f hr, List.getElem?_eq_none (Nat.le_refl _)] at hw
  have hfit : h + pos d r.f r.ms.length * (1 + n) + (1 + n) ≤ (enc h n d r).length := by
    rw [enc_length hh o]
    have := Nat.mul_le_mul_right (1 + n) (show pos d r.f r.ms.length + 1 ≤ d from hp)
    rw [Nat.add_mul] at this
    omega
  unfold pushL
  rw [hq, cnt_enc hh o hd, lay_push _ _ n _ _ hw hfit hm]
  have e := enc_lay hh o hp (plW n m) (plW_length hm)
  unfold plW at e
  rw [e]
  have e2 := plsW_push (n := n) (m := m) o.f hr
  unfold plW at e2
  rw [← e2, set_head r _ _ _ hh (by rcases hh with rfl | rfl <;> decide)]
  unfold enc
  congr 1
  rcases hh with rfl | rfl
  · show [UInt32.ofNat (r.ms.length + 1)] = [UInt32.ofNat (r.ms ++ [m]).length]
    rw [List.length_append]; rfl
  · show [UInt32.ofNat r.f, UInt32.ofNat (r.ms.length + 1), r.lost] = [UInt32.ofNat r.f, UInt32.ofNat (r.ms ++ [m]).length, r.lost]
    rw [List.length_append]; rfl

theorem popL_enc (o : r.Ok 3 n d) (hd : d ≤ 8) (h0 : r.ms ≠ []) : popL n d (enc 3 n d r) = enc 3 n d (r.pop d) := by
  have hh : 3 = 1 ∨ 3 = 3 := .inr rfl
  have hf := o.f
  have hq : plA 3 n d (enc 3 n d r) 0 = 3 + r.f * (1 + n) := by
    unfold plA; rw [fst_enc hh o hd]; unfold pos; rw [if_pos (by omega)]; rfl
  have e := enc_lay hh o o.f (List.replicate (1 + n) 0) (by simp)
  have hl : 1 ≤ r.ms.length := by have : r.ms.length ≠ 0 := fun e => h0 (List.eq_nil_of_length_eq_zero e); omega
  unfold popL
  rw [hq, cnt_enc hh o hd, fst_enc hh o hd, e, ← plsW_pop o.f o.m h0, set_head r _ _ _ hh (by decide), List.set_append_left _ _ (by rw [List.length_set, hdW_length hh]; decide)]
  have e1 : (hdW 3 r).set 1 (UInt32.ofNat (r.ms.length - 1)) = [UInt32.ofNat r.f, UInt32.ofNat (r.ms.length - 1), r.lost] := rfl
  rw [e1, List.set_cons_zero]
  have ht : (r.ms.tail = []) ↔ r.ms.length = 1 := by
    rw [← List.length_eq_zero_iff, List.length_tail]; omega
  unfold enc
  have ef : (r.pop d).f = if r.ms.tail = [] then 0 else nxt d r.f := rfl
  have em : (r.pop d).ms = r.ms.tail := rfl
  have e2 : plsW n d (nxt d r.f) r.ms.tail = plsW n d (r.pop d).f (r.pop d).ms := by
    rw [ef, em]
    by_cases hc : r.ms.tail = []
    · rw [if_pos hc, hc]; exact plsW_nil _ _
    · rw [if_neg hc]
  rw [e2]
  congr 1
  show _ = [UInt32.ofNat (r.pop d).f, UInt32.ofNat (r.pop d).ms.length, r.lost]
  rw [ef, em, List.length_tail]
  by_cases hc : r.ms.length = 1
  · rw [if_pos hc, if_pos (ht.2 hc)]; rfl
  · rw [if_neg hc, if_neg (fun e => hc (ht.1 e))]

theorem loseL_enc (o : r.Ok 3 n d) : loseL (enc 3 n d r) = enc 3 n d r.lose := by
  have hw : wd (enc 3 n d r) 2 = r.lost := enc_head (.inr rfl) 2 (by decide)
  unfold loseL
  rw [hw]
  by_cases hc : r.lost.toNat < 4294967295
  · have e : r.lose = { r with lost := r.lost + 1 } := by unfold Rw.lose; rw [if_pos hc]
    rw [if_pos hc, e]
    unfold enc
    rw [set_head r _ _ _ (.inr rfl) (by decide)]
    rfl
  · have e : r.lose = r := by unfold Rw.lose; rw [if_neg hc]
    rw [if_neg hc, e]
theorem bringL_enc (o : r.Ok 3 n d) (hd : d ≤ 8) {m : List UInt32} (hm : m.length ≤ n) : bringL n d (enc 3 n d r) m = enc 3 n d (r.bring d m) := by
  unfold bringL Rw.bring
  rw [cnt_enc (.inr rfl) o hd]
  by_cases hc : r.ms.length = d
  · rw [if_pos hc, if_pos hc, loseL_enc o]
  · rw [if_neg hc, if_neg hc, pushL_enc (.inr rfl) o hd (by have := o.m; omega) hm]
end

end Go.Proofs.Ytekijhhpldnmnaa
