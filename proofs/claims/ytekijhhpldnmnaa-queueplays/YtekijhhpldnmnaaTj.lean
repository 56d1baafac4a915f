import Derived.Test.YtekijhhpldnmnaaTi
import Derived.Test.YtekijhhpldnmnaaU
namespace Go.Proofs.Ytekijhhpldnmnaa
open Go.RowKit
set_option linter.unusedVariables false
set_option linter.unusedSimpArgs false

theorem fitE_one {n d : Int} (h : ¬ fitE false n d = 0) : fitE false n d = 1 := by
  unfold fitE at *
  rw [if_neg (by decide)] at *
  by_cases q : n < 1 ∨ 16 < n ∨ d < 1 ∨ 8 < d
  · rw [if_pos q]
  · rw [if_neg q] at h; exact absurd rfl h
theorem lkE_arg {xs : List UInt32} {p n d : Int} {h : Nat} (q : ¬ fitE false n d = 0) : lkE false xs p h n d = 1 := by
  have ht : tkE false xs.length p h n d = 1 := by
    unfold tkE
    rw [if_pos q, fitE_one q]
  unfold lkE
  rw [ht, if_pos (by decide)]
theorem bnd_yes {n d : Int} (h : fitE false n d = 0) : bndB n d = true := decide_eq_true h
theorem bnd_no {n d : Int} (h : ¬ fitE false n d = 0) : bndB n d = false := decide_eq_false h

set_option maxRecDepth 20000 in
set_option maxHeartbeats 2000000 in
theorem rstaged_any (D M c : Nat) (p n d : Int) (xs : List UInt32) (w : World) (hB : Blk w D (wvs xs) 52) (hM : M = xs.length) (hm : M ≤ 256) :
    Calls Try.prog 30 #[.slice (some ⟨D, 0, none⟩) M c, .int .i64 p, .int .i64 n, .int .i64 d] w fun e w' => e = .returned (.tuple #[.int .i64 (stN false xs p 1 n d), .int .i64 (lkE false xs p 1 n d)]) ∧ Keeps (fun _ => False) w w' := by
  have hbn := bounds_any n d w
  by_cases hf : fitE false n d = 0
  · rw [bnd_yes hf] at hbn
    have HBn : Hid (Calls _ _ _ _ _) := hbn
    obtain ⟨_, f1, f2, f3, f4⟩ := fit_ok hf
    obtain ⟨n', rfl⟩ : ∃ k : Nat, n = k := ⟨n.toNat, by omega⟩
    obtain ⟨d', rfl⟩ : ∃ k : Nat, d = k := ⟨d.toNat, by omega⟩
    have HC : Hid (Calls _ _ _ _ _) := stage_any D M c n' d' p xs w hB hM hm hf
    obtain ⟨E, hE⟩ : ∃ E, E = lkE false xs p 1 n' d' := ⟨_, rfl⟩
    obtain ⟨r, hr⟩ : ∃ r, r = rdA xs p 1 n' d' := ⟨_, rfl⟩
    rw [← hE] at HC ⊢
    rw [← hr] at HC
    have HR : Hid (r = rdA xs p 1 n' d' ∧ E = lkE false xs p 1 n' d') := ⟨hr, hE⟩
    obtain ⟨N0, hN0⟩ : ∃ N0, N0 = stN false xs p 1 n' d' := ⟨_, rfl⟩
    rw [← hN0]
    have HN0 : Hid (N0 = stN false xs p 1 n' d') := hN0
    clear hN0
    clear hbn hf f1 f2 f3 f4 hB hM hm hE hr
    go_enter Try.func30, Try.ntmps30
    go_wp2_with fail
    refine HBn.out.mono ?_
    rintro e w1 ⟨rfl, rfl⟩
    go_wp2_with fail
    refine HC.out.mono ?_
    intro e w2 hpp
    rcases hpp with ⟨hE, v, rfl, hms, hk⟩ | ⟨hE, rfl, hk⟩
    · obtain ⟨a, cc, hv, hcc, hlc⟩ := hms.form
      obtain ⟨LL, hLL⟩ : ∃ LL, LL = r.ms.length := ⟨_, rfl⟩
      rw [← hLL] at hv hlc
      subst hv
      obtain ⟨F, hF⟩ : ∃ F, F = r.f := ⟨_, rfl⟩
      obtain ⟨X, hX⟩ : ∃ X, X = r.lost.toNat := ⟨_, rfl⟩
      rw [← hF, ← hX]
      have HQ : Hid (E = 0 ∧ N0 = LL ∧ Keeps (fun _ => False) w1 w2) := ⟨hE, by rw [HN0.out, hLL, HR.out.1]; exact if_pos (by rw [← HR.out.2]; exact hE), hk⟩
      clear hE hms hk hLL hF hX HC
      go_wp2
      go_ret2
      exact ⟨by rw [HQ.out.2.1, HQ.out.1]; rfl, HQ.out.2.2.alloc _⟩
    · have HQ : Hid (N0 = 0 ∧ Keeps (fun _ => False) w1 w2) := ⟨by rw [HN0.out]; exact if_neg (by rw [← HR.out.2]; exact hE), hk⟩
      clear hE hk HC
      go_wp2
      go_ret2
      exact ⟨by rw [HQ.out.1]; rfl, HQ.out.2.alloc _⟩
  · rw [bnd_no hf] at hbn
    have HBn : Hid (Calls _ _ _ _ _) := hbn
    have hE := lkE_arg (xs := xs) (p := p) (h := 1) hf
    have hN : stN false xs p 1 n d = 0 := if_neg (by rw [hE]; decide)
    rw [hE, hN]
    clear hE hN hf hbn hB hM hm
    go_enter Try.func30, Try.ntmps30
    go_wp2_with fail
    refine HBn.out.mono ?_
    rintro e w1 ⟨rfl, rfl⟩
    go_wp2
    go_ret2
    exact ⟨rfl, Keeps.refl _ _⟩

end Go.Proofs.Ytekijhhpldnmnaa
