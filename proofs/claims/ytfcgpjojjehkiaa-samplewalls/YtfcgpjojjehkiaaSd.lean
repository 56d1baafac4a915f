import Derived.Test.YtfcgpjojjehkiaaSc
namespace Go.Proofs.Ytfcgpjojjehkiaa
open Go.RowKit
set_option linter.unusedVariables false
set_option linter.unusedSimpArgs false

def amB (i f m : Int) : Bool := decide (f ≤ i) && decide (IntKind.i64.wrap (i - f) < m)

set_option maxHeartbeats 400000 in
theorem among_any (i f m : Int) (w : World) : Calls Try.prog 20 #[.int .i64 i, .int .i64 f, .int .i64 m] w fun e w' => e = .returned (.bool (amB i f m)) ∧ w' = w := by
  unfold amB
  obtain ⟨d, hd⟩ : ∃ d, d = IntKind.i64.wrap (i - f) := ⟨_, rfl⟩
  rw [← hd]
  have hd2 : IntKind.i64.wrap (i - f) = d := hd.symm
  clear hd
  by_cases h1 : f ≤ i
  · rw [decide_eq_true h1]
    by_cases h2 : d < m
    · rw [decide_eq_true h2]
      go_enter Try.func20, Try.ntmps20
      go_wp2
      go_ret
      exact ⟨rfl, rfl⟩
    · rw [decide_eq_false h2]
      go_enter Try.func20, Try.ntmps20
      go_wp2
      go_ret
      exact ⟨rfl, rfl⟩
  · rw [decide_eq_false h1]
    go_enter Try.func20, Try.ntmps20
    go_wp2
    go_ret
    exact ⟨rfl, rfl⟩

abbrev mM2 (n : Int) : Int := IntKind.i64.wrap (2 + n)
abbrev mM3 (n : Int) : Int := IntKind.i64.wrap (3 + n)
/-- Whose word it is. -/
def mineB (o : Opn) (i : Nat) : Bool :=
  if o.k = 0 then amB i o.p (mM2 o.n) else if o.k = 2 then amB i o.p (mM2 o.n) || o.ps.any (fun q => amB i q (mM3 o.n)) else false

theorem amB_in {i : Nat} {f m : Int} (h0 : 0 ≤ f) (h1 : f ≤ i) (h2 : (i : Int) < f + m) (h3 : (i : Int) ≤ 100000) : amB i f m = true := by
  unfold amB
  rw [decide_eq_true h1, show IntKind.i64.wrap ((i : Int) - f) = i - f by rw [IntKind.wrap_i64]; omega, decide_eq_true (by omega)]
  rfl
theorem mM2_eq {n : Int} (h1 : 1 ≤ n) (h2 : n ≤ 16) : mM2 n = 2 + n := by unfold mM2; rw [IntKind.wrap_i64]; omega
theorem mM3_eq {n : Int} (h1 : 1 ≤ n) (h2 : n ≤ 16) : mM3 n = 3 + n := by unfold mM3; rw [IntKind.wrap_i64]; omega
theorem win_one {xs ys : List UInt32} {i : Nat} (h : win xs i 1 = win ys i 1) : xs[i]? = ys[i]? := by
  have h1 := win_get? xs i 1 0
  have h2 := win_get? ys i 1 0
  rw [if_pos (by omega), Nat.add_zero] at h1 h2
  rw [← h1, ← h2, h]

theorem walls_put {nil : Bool} {xs : List UInt32} {p n : Int} {ms : List UInt32} {i : Nat} (hi : i < xs.length) (hl : xs.length ≤ 16384) (hne : (putX nil xs p n ms)[i]? ≠ xs[i]?) : nil = false ∧ amB i p (mM2 n) = true := by
  unfold putX at hne
  by_cases hE : putE nil xs p n ms.length = 0
  · rw [if_pos hE] at hne
    unfold putE at hE
    by_cases h1 : tkE nil xs.length p 2 n = 0
    · obtain ⟨hn, t1, t2, t3, t4⟩ := tkE_ok h1
      refine ⟨hn, ?_⟩
      rw [if_neg (by simpa using h1)] at hE
      by_cases h2 : ms.length < 1 ∨ n < ms.length
      · rw [if_pos h2] at hE; omega
      · have hfl := fillW_length 2 n.toNat ms (by omega) (by omega)
        rw [lay_get? _ _ _ (by rw [hfl]; omega), hfl] at hne
        by_cases hc : p.toNat ≤ i ∧ i < p.toNat + (2 + n.toNat)
        · rw [mM2_eq t1 t2]
          exact amB_in t3 (by omega) (by omega) (by omega)
        · rw [if_neg hc] at hne; exact absurd rfl hne
    · rw [if_pos h1] at hE; exact absurd hE h1
  · rw [if_neg hE] at hne; exact absurd rfl hne

theorem walls_dl {nil : Bool} {xs : List UInt32} {p n : Int} {ports : List Int} {i : Nat} (hi : i < xs.length) (hl : xs.length ≤ 16384) (hne : (dlX nil xs p n ports)[i]? ≠ xs[i]?) : nil = false ∧ (amB i p (mM2 n) || ports.any (fun q => amB i q (mM3 n))) = true := by
  by_cases hE : dlE nil xs p n ports = 0
  · have hn : nil = false := by
      cases nil
      · rfl
      · unfold dlE at hE; rw [if_pos rfl] at hE; omega
    subst hn
    have hla : laE xs (boxes p n ports) = 0 := by
      unfold dlE at hE
      rw [if_neg (by simp)] at hE
      by_cases hc : ports.length < 1 ∨ 4 < ports.length
      · rw [if_pos hc] at hE; omega
      · rw [if_neg hc] at hE; exact hE
    obtain ⟨⟨b1, b2, b3, b4⟩, b5, b6⟩ := boxes_ok hla
    refine ⟨rfl, ?_⟩
    cases hm : (amB i p (mM2 n) || ports.any (fun q => amB i q (mM3 n)))
    · exfalso
      rw [Bool.or_eq_false_iff, List.any_eq_false] at hm
      obtain ⟨m1, m2⟩ := hm
      have hst : Apt p.toNat (2 + n.toNat) i 1 := by
        unfold Apt
        by_cases hc : p.toNat ≤ i ∧ i < p.toNat + (2 + n.toNat)
        · have := amB_in (m := mM2 n) b3 (i := i) (by omega) (by rw [mM2_eq b1 b2]; omega) (by omega)
          rw [this] at m1; cases m1
        · omega
      have hpt : ∀ q ∈ (pbx n ports).map (fun b => b.p.toNat), Apt q (3 + n.toNat) i 1 := by
        intro q hq
        obtain ⟨b, hb, rfl⟩ := List.mem_map.1 hq
        obtain ⟨r, hr, rfl⟩ := List.mem_map.1 hb
        have h5 := b5 r hr
        show Apt r.toNat (3 + n.toNat) i 1
        unfold Apt
        by_cases hc : r.toNat ≤ i ∧ i < r.toNat + (3 + n.toNat)
        · have := amB_in (m := mM3 n) h5.1 (i := i) (by omega) (by rw [mM3_eq b1 b2]; omega) (by omega)
          exact absurd this (m2 r hr)
        · omega
      have hqs : ∀ q ∈ (pbx n ports).map (fun b => b.p.toNat), q + (3 + n.toNat) ≤ xs.length := by
        intro q hq
        obtain ⟨b, hb, rfl⟩ := List.mem_map.1 hq
        obtain ⟨r, hr, rfl⟩ := List.mem_map.1 hb
        have := b5 r hr
        show r.toNat + _ ≤ _
        omega
      apply hne
      unfold dlX
      rw [if_pos hE]
      by_cases hz : wd xs p.toNat = 0
      · rw [if_pos hz, ageX_eq]
        exact win_one ((step_age (3 + n.toNat) (by omega)).fold_other _ _ hqs i 1 hpt)
      · rw [if_neg hz, briX_eq]
        have h0' : wd (win xs p.toNat (2 + n.toNat)) 0 ≠ 0 := by rw [win_wd _ _ _ _ (by omega), Nat.add_zero]; exact hz
        obtain ⟨-, k1, k2⟩ := right_len b6 h0'
        have hw1 : wd (win xs p.toNat (2 + n.toNat)) (2 - 1) = wd xs (p.toNat + 1) := win_wd _ _ _ _ (by omega)
        rw [hw1] at k2
        have hfl : (fillW 3 n.toNat (win xs (p.toNat + 2) (wd xs (p.toNat + 1)).toNat)).length = 3 + n.toNat := fillW_length _ _ _ (by omega) (by rw [win_length _ _ _ (by omega)]; exact k2)
        have hS := step_lay (fillW 3 n.toNat (win xs (p.toNat + 2) (wd xs (p.toNat + 1)).toNat))
        rw [hfl] at hS
        have hl2 := hS.fold_len _ _ hqs
        refine win_one ((win_lay_apart _ _ _ _ _ (by rw [List.length_replicate, hl2]; omega) (by rw [List.length_replicate]; exact hst)).trans (hS.fold_other _ _ hqs i 1 hpt))
    · rfl
  · unfold dlX at hne
    rw [if_neg hE] at hne; exact absurd rfl hne

theorem walls_pure {o : Opn} {xs : List UInt32} {i : Nat} (h4 : o.k ≠ 4) (hi : i < xs.length) (hl : xs.length ≤ 16384) (hne : (oneX o xs)[i]? ≠ xs[i]?) : o.nil = false ∧ mineB o i = true := by
  unfold oneX at hne
  unfold mineB
  by_cases hlo : 2147483647 < o.ms.length ∨ 2147483647 < o.ps.length
  · rw [if_pos hlo] at hne; exact absurd rfl hne
  · rw [if_neg hlo] at hne
    by_cases h0 : o.k = 0
    · rw [if_pos h0] at hne ⊢
      exact walls_put hi hl hne
    · rw [if_neg h0] at hne ⊢
      by_cases h2 : o.k = 2
      · rw [if_pos h2] at hne ⊢
        exact walls_dl hi hl hne
      · rw [if_neg h2, if_neg h4] at hne; exact absurd rfl hne

theorem dlX_length (nil : Bool) (xs : List UInt32) (p n : Int) (ports : List Int) : (dlX nil xs p n ports).length = xs.length := by
  by_cases hE : dlE nil xs p n ports = 0
  · have hn : nil = false := by
      cases nil
      · rfl
      · unfold dlE at hE; rw [if_pos rfl] at hE; omega
    subst hn
    have hla : laE xs (boxes p n ports) = 0 := by
      unfold dlE at hE
      rw [if_neg (by simp)] at hE
      by_cases hc : ports.length < 1 ∨ 4 < ports.length
      · rw [if_pos hc] at hE; omega
      · rw [if_neg hc] at hE; exact hE
    obtain ⟨⟨b1, b2, b3, b4⟩, b5, b6⟩ := boxes_ok hla
    have hqs : ∀ q ∈ (pbx n ports).map (fun b => b.p.toNat), q + (3 + n.toNat) ≤ xs.length := by
      intro q hq
      obtain ⟨b, hb, rfl⟩ := List.mem_map.1 hq
      obtain ⟨r, hr, rfl⟩ := List.mem_map.1 hb
      have := b5 r hr
      show r.toNat + _ ≤ _
      omega
    unfold dlX
    rw [if_pos hE]
    by_cases hz : wd xs p.toNat = 0
    · rw [if_pos hz, ageX_eq]
      exact (step_age (3 + n.toNat) (by omega)).fold_len _ _ hqs
    · rw [if_neg hz, briX_eq]
      have h0' : wd (win xs p.toNat (2 + n.toNat)) 0 ≠ 0 := by rw [win_wd _ _ _ _ (by omega), Nat.add_zero]; exact hz
      obtain ⟨-, k1, k2⟩ := right_len b6 h0'
      have hw1 : wd (win xs p.toNat (2 + n.toNat)) (2 - 1) = wd xs (p.toNat + 1) := win_wd _ _ _ _ (by omega)
      rw [hw1] at k2
      have hfl : (fillW 3 n.toNat (win xs (p.toNat + 2) (wd xs (p.toNat + 1)).toNat)).length = 3 + n.toNat := fillW_length _ _ _ (by omega) (by rw [win_length _ _ _ (by omega)]; exact k2)
      have hS := step_lay (fillW 3 n.toNat (win xs (p.toNat + 2) (wd xs (p.toNat + 1)).toNat))
      rw [hfl] at hS
      have hl2 := hS.fold_len _ _ hqs
      rw [lay_length _ _ _ (by rw [List.length_replicate, hl2]; omega)]; exact hl2
  · unfold dlX
    rw [if_neg hE]
theorem wrX_length (nil : Bool) (xs : List UInt32) (p : Int) (x : UInt32) : (wrX nil xs p x).length = xs.length := by
  unfold wrX
  split
  · rfl
  · split
    · exact lay_length _ _ _ (by simp; omega)
    · rfl
theorem oneX_length (o : Opn) (xs : List UInt32) : (oneX o xs).length = xs.length := by
  unfold oneX
  split
  · rfl
  · split
    · exact putX_length ..
    · split
      · exact dlX_length ..
      · split
        · exact wrX_length ..
        · rfl

end Go.Proofs.Ytfcgpjojjehkiaa
