import Derived.Test.YtekijhhpldnmnaaRb
namespace Go.Proofs.Ytekijhhpldnmnaa
open Go.RowKit
set_option linter.unusedVariables false
set_option linter.unusedSimpArgs false

section
variable {n d : Nat} {xs : List UInt32} {s r : Rw}

theorem Two.fit (t : Two n d xs s r) : fitE false n d = 0 := fitE_nat t.st.n1 t.st.n2 t.st.d1 t.st.d2
theorem Two.lk1 (t : Two n d xs s r) : lkE false xs 0 1 n d = 0 ∧ rdA xs 0 1 n d = s := lkE_lies (.inl rfl) t.st
theorem Two.lk3 (t : Two n d xs s r) : lkE false xs (rsz 1 n d : Nat) 3 n d = 0 ∧ rdA xs (rsz 1 n d : Nat) 3 n d = r := lkE_lies (.inr rfl) t.pt

theorem Two.put_bad (t : Two n d xs s r) {m : List UInt32} (h : m.length < 1 ∨ n < m.length) : ptE false xs 0 n d m.length = 200 ∧ ptB false xs 0 n d m.length = false ∧ ptX false xs 0 n d m = xs := by
  have e1 : ptE false xs 0 n d m.length = 200 := by unfold ptE; rw [if_neg (fun e => e t.fit), if_pos (by omega)]
  have e2 : ptB false xs 0 n d m.length = false := by unfold ptB; rw [e1]; rfl
  exact ⟨e1, e2, by unfold ptX; rw [e2]; rfl⟩
theorem Two.put_e (t : Two n d xs s r) {m : List UInt32} (h : ¬ (m.length < 1 ∨ n < m.length)) : ptE false xs 0 n d m.length = 0 := by
  unfold ptE; rw [if_neg (fun e => e t.fit), if_neg (by omega)]; exact t.lk1.1
theorem Two.put_ok (t : Two n d xs s r) {m : List UInt32} (h : ¬ (m.length < 1 ∨ n < m.length)) (hs : s.ms.length < d) : ptB false xs 0 n d m.length = true ∧ ptX false xs 0 n d m = lay xs 0 (enc 1 n d (s.push m)) := by
  have e2 : ptB false xs 0 n d m.length = true := by
    unfold ptB
    rw [t.put_e h, t.lk1.2, decide_eq_false (show ¬ s.ms.length = (d : Int).toNat by rw [Int.toNat_natCast]; omega)]; rfl
  exact ⟨e2, by unfold ptX; rw [e2, t.lk1.2]; rfl⟩
theorem Two.put_full (t : Two n d xs s r) {m : List UInt32} (h : ¬ (m.length < 1 ∨ n < m.length)) (hs : ¬ s.ms.length < d) : ptB false xs 0 n d m.length = false ∧ ptX false xs 0 n d m = xs := by
  have e2 : ptB false xs 0 n d m.length = false := by
    unfold ptB
    rw [t.put_e h, t.lk1.2, decide_eq_true (show s.ms.length = (d : Int).toNat by rw [Int.toNat_natCast]; have := t.st.ok.m; omega)]; rfl
  exact ⟨e2, by unfold ptX; rw [e2]; rfl⟩
theorem Two.dlv (t : Two n d xs s r) : dlE false xs 0 n d [((rsz 1 n d : Nat) : Int)] = 0 ∧ dlF false xs 0 n d [((rsz 1 n d : Nat) : Int)] = lay (lay xs (rsz 1 n d) (enc 3 n d (bringN d r s.ms))) 0 (List.replicate (rsz 1 n d) 0) := by
  have f1 := t.st.fit
  have f3 := t.pt.fit
  have hr1 : rtM xs 1 n d 0 = true := by
    show rightB 1 n d (win xs 0 (rsz 1 n d)) = true
    rw [t.st.enc]; exact right_enc (.inl rfl) t.st.ok t.st.d2 t.st.n2
  have hr3 : rtM xs 3 n d ((rsz 1 n d : Nat) : Int) = true := by
    show rightB 3 n d (win xs (rsz 1 n d) (rsz 3 n d)) = true
    rw [t.pt.enc]; exact right_enc (.inr rfl) t.pt.ok t.st.d2 t.st.n2
  have hi1 : inM xs 1 n d 0 = true := decide_eq_true ⟨by omega, by omega⟩
  have hi3 : inM xs 3 n d ((rsz 1 n d : Nat) : Int) = true := decide_eq_true ⟨by omega, by omega⟩
  have e : dlE false xs 0 n d [((rsz 1 n d : Nat) : Int)] = 0 := by
    unfold dlE
    rw [if_neg (fun e => e t.fit), if_neg (by simp), hi1, if_neg (by decide), List.all_cons, hi3, List.all_nil, if_neg (by decide), hr1, if_neg (by decide), List.all_cons, hr3, List.all_nil, if_neg (by decide)]
  refine ⟨e, ?_⟩
  unfold dlF
  rw [if_pos e]
  unfold dlX dlP
  rw [t.lk1.2]
  show lay (lay xs (rsz 1 n d) (enc 3 n d (bringN d (rdA xs ((rsz 1 n d : Nat) : Int) 3 n d) s.ms))) 0 _ = _
  rw [t.lk3.2]
theorem Two.dlv_two (t : Two n d xs s r) : Two n d (lay (lay xs (rsz 1 n d) (enc 3 n d (bringN d r s.ms))) 0 (List.replicate (rsz 1 n d) 0)) ⟨0, [], 0⟩ (bringN d r s.ms) :=
  (t.port (bringN_ok t.pt.ok s.ms fun m hm => t.st.ok.l m hm)).empty
theorem Two.head (t : Two n d xs s r) : hdB false xs (rsz 1 n d : Nat) n d = !r.ms.isEmpty := by
  unfold hdB; rw [t.lk3.1, t.lk3.2]; rfl
theorem Two.msg (t : Two n d xs s r) {m : List UInt32} {ms : List (List UInt32)} (h : r.ms = m :: ms) : hdM false xs (rsz 1 n d : Nat) n d = m := by
  unfold hdM; rw [t.head, h, t.lk3.2, h]; rfl
theorem Two.tak (t : Two n d xs s r) {m : List UInt32} {ms : List (List UInt32)} (h : r.ms = m :: ms) : tkX false xs (rsz 1 n d : Nat) n d = lay xs (rsz 1 n d) (enc 3 n d (r.pop d)) := by
  unfold tkX; rw [t.head, h, t.lk3.2]; rfl
theorem Two.none (t : Two n d xs s r) (h : r.ms = []) : hdB false xs (rsz 1 n d : Nat) n d = false ∧ hdM false xs (rsz 1 n d : Nat) n d = [] ∧ tkX false xs (rsz 1 n d : Nat) n d = xs := by
  have e : hdB false xs (rsz 1 n d : Nat) n d = false := by rw [t.head, h]; rfl
  exact ⟨e, by unfold hdM; rw [e]; rfl, by unfold tkX; rw [e]; rfl⟩
theorem Two.counts (t : Two n d xs s r) : stN false xs (rsz 1 n d : Nat) 3 n d = r.ms.length ∧ loN false xs (rsz 1 n d : Nat) n d = r.lost ∧ stN false xs 0 1 n d = s.ms.length := by
  refine ⟨?_, ?_, ?_⟩
  · unfold stN; rw [if_pos t.lk3.1, t.lk3.2]
  · unfold loN; rw [if_pos t.lk3.1, t.lk3.2]
  · unfold stN; rw [if_pos t.lk1.1, t.lk1.2]
/-- At the beginning. -/
theorem two_zero (h1 : 1 ≤ n) (h2 : n ≤ 16) (h3 : 1 ≤ d) (h4 : d ≤ 8) : Two n d (List.replicate 320 0) ⟨0, [], 0⟩ ⟨0, [], 0⟩ := by
  have z1 := rsz_nat 1 n d
  have z3 := rsz_nat 3 n d
  have hb := Nat.mul_le_mul h4 (show 1 + n ≤ 17 by omega)
  have hw : ∀ p m, p + m ≤ 320 → win (List.replicate 320 (0 : UInt32)) p m = List.replicate m 0 := fun p m h => by
    unfold win; rw [List.drop_replicate, List.take_replicate]; congr 1; omega
  have e3 : enc 3 n d ⟨0, [], 0⟩ = List.replicate (rsz 3 n d) 0 := by
    have e1 := enc_none (n := n) (d := d)
    have h5 : enc 3 n d ⟨0, [], 0⟩ = 0 :: 0 :: enc 1 n d ⟨0, [], 0⟩ := rfl
    rw [h5, e1, z1, z3, show 3 + d * (1 + n) = (1 + d * (1 + n)) + 1 + 1 by omega, List.replicate_succ, List.replicate_succ]
  refine ⟨⟨h1, h2, h3, h4, ?_, none_ok h3 1, ?_⟩, ⟨h1, h2, h3, h4, ?_, none_ok h3 3, ?_⟩⟩
  · rw [List.length_replicate]; omega
  · rw [hw _ _ (by omega), enc_none]
  · rw [List.length_replicate]; omega
  · rw [hw _ _ (by omega), e3]
end

end Go.Proofs.Ytekijhhpldnmnaa
