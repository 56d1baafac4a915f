import Derived.Test.YtekijhhpldnmnaaTj
import Derived.Test.YtekijhhpldnmnaaU
namespace Go.Proofs.Ytekijhhpldnmnaa
open Go.RowKit
set_option linter.unusedVariables false
set_option linter.unusedSimpArgs false

set_option maxRecDepth 20000 in
set_option maxHeartbeats 2000000 in
theorem rlook_any (D M c : Nat) (p n d : Int) (xs : List UInt32) (w : World) (hB : Blk w D (wvs xs) 52) (hM : M = xs.length) (hm : M ≤ 256) :
    Calls Try.prog 34 #[.slice (some ⟨D, 0, none⟩) M c, .int .i64 p, .int .i64 n, .int .i64 d] w fun e w' => LookP w (hdM false xs p n d) (hdB false xs p n d) (lkE false xs p 3 n d) e w' := by
  have hbn := bounds_any n d w
  by_cases hf : fitE false n d = 0
  · rw [bnd_yes hf] at hbn
    have HBn : Hid (Calls _ _ _ _ _) := hbn
    obtain ⟨_, f1, f2, f3, f4⟩ := fit_ok hf
    obtain ⟨n', rfl⟩ : ∃ k : Nat, n = k := ⟨n.toNat, by omega⟩
    obtain ⟨d', rfl⟩ : ∃ k : Nat, d = k := ⟨d.toNat, by omega⟩
    have HC : Hid (Calls _ _ _ _ _) := port_any D M c n' d' p xs w hB hM hm hf
    obtain ⟨E, hE⟩ : ∃ E, E = lkE false xs p 3 n' d' := ⟨_, rfl⟩
    obtain ⟨r, hr⟩ : ∃ r, r = rdA xs p 3 n' d' := ⟨_, rfl⟩
    rw [← hE] at HC ⊢
    rw [← hr] at HC
    have HR : Hid (r = rdA xs p 3 n' d' ∧ E = lkE false xs p 3 n' d') := ⟨hr, hE⟩
    obtain ⟨HMl, hHM⟩ : ∃ HMl, HMl = hdM false xs p n' d' := ⟨_, rfl⟩
    obtain ⟨HBl, hHB⟩ : ∃ HBl, HBl = hdB false xs p n' d' := ⟨_, rfl⟩
    rw [← hHM, ← hHB]
    have HLt : Hid (HMl = hdM false xs p n' d' ∧ HBl = hdB false xs p n' d') := ⟨hHM, hHB⟩
    clear hHM hHB
    clear hbn hf f1 f2 f3 f4 hB hM hm hE hr
    go_enter Try.func34, Try.ntmps34
    go_wp2_with fail
    refine HBn.out.mono ?_
    rintro e w1 ⟨rfl, rfl⟩
    go_wp2_with fail
    refine HC.out.mono ?_
    intro e w2 hpp
    rcases hpp with ⟨hE, v, rfl, hms, hk⟩ | ⟨hE, rfl, hk⟩
    · obtain ⟨a, cc, hv, hcc, hlc⟩ := hms.form
      obtain ⟨LL, hLL⟩ : ∃ LL, LL = r.ms.length := ⟨_, rfl⟩
      rw [← hLL] at hv hlc
      subst hv
      obtain ⟨F, hF⟩ : ∃ F, F = r.f := ⟨_, rfl⟩
      obtain ⟨X, hX⟩ : ∃ X, X = r.lost.toNat := ⟨_, rfl⟩
      rw [← hF, ← hX]
      have hE0 : lkE false xs p 3 n' d' = 0 := by rw [← HR.out.2]; exact hE
      cases hmm : r.ms with
      | nil =>
        have hL0 : LL = 0 := by rw [hLL, hmm]; rfl
        have HQ : Hid (E = 0 ∧ HBl = false ∧ HMl = [] ∧ Keeps (fun _ => False) w1 w2) := by
          have q : hdB false xs p n' d' = false := by unfold hdB; rw [← HR.out.1, hmm]; simp
          exact ⟨hE, by rw [HLt.out.2]; exact q, by rw [HLt.out.1]; exact if_neg (by rw [q]; decide), hk⟩
        subst hL0
        clear hE hms hk hLL hF hX HC hE0 hmm
        go_wp2
        go_returns
        refine ⟨none, ?_, .inl ⟨rfl, HQ.out.2.2.1⟩, HQ.out.2.2.2.alloc _⟩
        rw [HQ.out.1, HQ.out.2.1, HQ.out.2.2.1]; rfl
      | cons m ms =>
        have hL0 : LL = ms.length + 1 := by rw [hLL, hmm]; rfl
        have h0 : 0 < (LL : Int) := by omega
        have h0' : ¬ LL = 0 := by omega
        have h0'' : ¬ (LL : Int) = 0 := by omega
        obtain ⟨vals, q1, q2, q3, q4⟩ := hms
        obtain ⟨B, s1, s2, s3⟩ := q4 0 m (by rw [hmm]; rfl)
        obtain ⟨g, o, hgo, hcell⟩ := q1.at s2
        subst hgo
        have hk3 : Keeps (fun _ => False) w2 (w2.alloc (.cells #[.int .i64 F, .slice (some ⟨g, o, none⟩) LL cc, .int .u32 X] 92)) := (Keeps.refl _ w2).alloc _
        have hT3 : Blk (w2.alloc (.cells #[.int .i64 F, .slice (some ⟨g, o, none⟩) LL cc, .int .u32 X] 92)) w2.heap.size [.int .i64 F, .slice (some ⟨g, o, none⟩) LL cc, .int .u32 X] 92 := Blk.new w2 _ 92
        have hc3 := cell_kept hcell hk3 (fun e => e)
        rw [Nat.add_zero] at hc3
        have h9 : ((LL : Int) == 0) = false := beq_eq_false_iff_ne.2 (by omega)
        have t1 := hT3.cell (i := 1) rfl
        have HQ : Hid (E = 0 ∧ HBl = true ∧ HMl = m ∧ Keeps (fun _ => False) w1 (w2.alloc (.cells #[.int .i64 F, .slice (some ⟨g, o, none⟩) LL cc, .int .u32 X] 92)) ∧ w1.heap.size ≤ B ∧ Blk (w2.alloc (.cells #[.int .i64 F, .slice (some ⟨g, o, none⟩) LL cc, .int .u32 X] 92)) B (wvs m) 52) := by
          have q : hdB false xs p n' d' = true := by unfold hdB; rw [← HR.out.1, hmm, hE0]; rfl
          refine ⟨hE, by rw [HLt.out.2]; exact q, ?_, hk.trans hk3 fun _ _ e => e, s1, s3.kept hk3 fun e => e⟩
          rw [HLt.out.1]
          unfold hdM
          rw [if_pos q, ← HR.out.1, hmm]; rfl
        obtain ⟨ml, hml⟩ : ∃ ml, ml = m.length := ⟨_, rfl⟩
        rw [← hml] at hc3
        have HML : Hid (ml = m.length) := hml
        clear hE hk hLL hF hX HC hE0 hmm q1 q2 q3 q4 s1 s2 s3 hcell hk3 hT3 hL0 hml
        go_wp2
        go_returns
        refine ⟨some ⟨B, 0, none⟩, ?_, .inr ⟨B, HQ.out.2.2.2.2.1, rfl, by rw [HQ.out.2.2.1]; exact HQ.out.2.2.2.2.2⟩, HQ.out.2.2.2.1⟩
        rw [HQ.out.1, HQ.out.2.1, HQ.out.2.2.1, HML.out]; rfl
    · have HQ : Hid (HBl = false ∧ HMl = [] ∧ Keeps (fun _ => False) w1 w2) := by
        have q : hdB false xs p n' d' = false := by unfold hdB; rw [decide_eq_false (by rw [← HR.out.2]; exact hE)]; rfl
        exact ⟨by rw [HLt.out.2]; exact q, by rw [HLt.out.1]; exact if_neg (by rw [q]; decide), hk⟩
      have hE9 : (E != 0) = true := bne_iff_ne.2 hE
      clear hE hk HC
      go_wp2
      go_returns
      refine ⟨none, ?_, .inl ⟨rfl, HQ.out.2.1⟩, HQ.out.2.2.alloc _⟩
      rw [HQ.out.1, HQ.out.2.1]; rfl
  · rw [bnd_no hf] at hbn
    have HBn : Hid (Calls _ _ _ _ _) := hbn
    have hE := lkE_arg (xs := xs) (p := p) (h := 3) hf
    have hN : hdB false xs p n d = false := by unfold hdB; rw [hE]; rfl
    have hO : hdM false xs p n d = [] := if_neg (by rw [hN]; decide)
    rw [hE, hN, hO]
    clear hE hN hO hf hbn hB hM hm
    go_enter Try.func34, Try.ntmps34
    go_wp2_with fail
    refine HBn.out.mono ?_
    rintro e w1 ⟨rfl, rfl⟩
    go_wp2
    go_returns
    exact ⟨none, rfl, .inl ⟨rfl, rfl⟩, Keeps.refl _ _⟩

end Go.Proofs.Ytekijhhpldnmnaa
