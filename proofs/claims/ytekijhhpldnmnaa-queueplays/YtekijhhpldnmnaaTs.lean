import Derived.Test.YtekijhhpldnmnaaTr
import Derived.Deep.RegionHeld3
import Derived.Deep.RegionHeld2
import Derived.Test.YtekijhhpldnmnaaU
namespace Go.Proofs.Ytekijhhpldnmnaa
open Go.RowKit
set_option linter.unusedVariables false
set_option linter.unusedSimpArgs false

theorem msS_away {S : Nat → Prop} {w : World} {v : Value} {ms : List (List UInt32)} (h : MsS S w v ms) {b : Nat} {l : List Value} {t : TypeId} (hb : Blk w b l t) (ht : t ≠ 22) : ¬ some b = blkO v := fun e => by
  obtain ⟨vals, h1, _⟩ := h
  obtain ⟨l2, hl2⟩ := h1.blk e.symm
  exact hb.ne hl2 ht rfl
theorem msS_app {S : Nat → Prop} {w : World} {v : Value} {ms : List (List UInt32)} (h : MsS S w v ms) (m : List UInt32) (B : Nat) (hB : Blk w B (wvs m) 52) (hS : S B) (hl : ms.length ≤ 1000) :
    ∃ v' W', (∀ ty, (Builtin.append_ #[43, 43] ty #[v, .slice (some ⟨w.heap.size, 0, none⟩) 1 1]).run Try.prog (w.alloc (.cells #[.slice (some ⟨B, 0, none⟩) m.length m.length] 22)) = .ok v' W') ∧ MsS S W' v' (ms ++ [m]) ∧ Keeps (fun k => some k = blkO v) w W' := by
  obtain ⟨vals, h1, h3, h4⟩ := h
  obtain ⟨v', W', r1, r2, r3, r4⟩ := append_row22 (w := w) (.slice (some ⟨B, 0, none⟩) m.length m.length) rfl v vals h1 (by omega)
  have hne : ∀ (b : Nat) l, Blk w b l 52 → ¬ some b = blkO v := fun b l hb e => by
    obtain ⟨l2, hl2⟩ := h1.blk e.symm
    exact hb.ne hl2 (by decide) rfl
  refine ⟨v', W', r1, ⟨vals ++ [.slice (some ⟨B, 0, none⟩) m.length m.length], r2, by simp [h3], fun j x hj => ?_⟩, r4⟩
  by_cases hjl : j < ms.length
  · rw [List.getElem?_append_left hjl] at hj
    obtain ⟨C, q1, q2, q3⟩ := h4 j x hj
    exact ⟨C, q1, by rw [List.getElem?_append_left (by omega)]; exact q2, q3.kept r4 (hne C _ q3)⟩
  · have : j = ms.length := by have := (List.getElem?_eq_some_iff.1 hj).1; simp at this; omega
    subst this
    rw [List.getElem?_append_right (Nat.le_refl _), Nat.sub_self] at hj
    cases hj
    exact ⟨B, hS, by rw [List.getElem?_append_right (by omega), h3, Nat.sub_self]; rfl, hB.kept r4 (hne B _ hB)⟩

set_option maxRecDepth 20000 in
set_option maxHeartbeats 4000000 in
theorem rput_no (D M c : Nat) (p n d : Int) (xs m : List UInt32) (ma : Option Addr) (mc : Nat) (w : World) (hB : Blk w D (wvs xs) 52) (hM : M = xs.length) (hm : M ≤ 256) (hs : SegW w ma m) (hb : ptB false xs p n d m.length = false) :
    Calls Try.prog 27 #[.slice (some ⟨D, 0, none⟩) M c, .int .i64 p, .int .i64 n, .int .i64 d, .slice ma m.length mc] w fun e w' => NxP w D M (ptX false xs p n d m) (ptB false xs p n d m.length) (ptE false xs p n d m.length) e w' := by
  have hno : ∀ E : Int, ptE false xs p n d m.length = E → E ≠ 0 → ptB false xs p n d m.length = false ∧ ptX false xs p n d m = xs := fun E h1 h2 => by
    have h3 : ptB false xs p n d m.length = false := by unfold ptB; rw [h1, decide_eq_false h2]; rfl
    exact ⟨h3, by unfold ptX; rw [if_neg (by rw [h3]; decide)]⟩
  have HB9 : Hid (Blk w D (wvs xs) 52) := hB
  have hbn := bounds_any n d w
  by_cases hf : fitE false n d = 0
  · rw [bnd_yes hf] at hbn
    have HBn : Hid (Calls _ _ _ _ _) := hbn
    obtain ⟨_, f1, f2, f3, f4⟩ := fit_ok hf
    obtain ⟨n', rfl⟩ : ∃ k : Nat, n = k := ⟨n.toNat, by omega⟩
    obtain ⟨d', rfl⟩ : ∃ k : Nat, d = k := ⟨d.toNat, by omega⟩
    obtain ⟨ml, hml⟩ : ∃ ml, ml = m.length := ⟨_, rfl⟩
    rw [← hml] at hno hb ⊢
    by_cases hlen : ml < 1 ∨ (n' : Int) < (ml : Int)
    · have hE : ptE false xs p n' d' ml = 200 := by unfold ptE; rw [if_neg (fun q => q hf), if_pos hlen]
      obtain ⟨h1, h2⟩ := hno 200 hE (by decide)
      rw [hE, h1, h2]
      by_cases l1 : ml < 1
      · have l2 : (ml : Int) < 1 := by omega
        obtain rfl : ml = 0 := by omega
        clear hno hbn hf f1 f2 f3 f4 hB hM hm hs hlen hE h1 h2 hml l1 l2 hb
        go_enter Try.func27, Try.ntmps27
        go_wp2_with fail
        refine HBn.out.mono ?_
        rintro e w1 ⟨rfl, rfl⟩
        go_wp2
        go_returns
        exact ⟨D, c, rfl, .inl rfl, HB9.out, Keeps.refl _ _⟩
      · have l2 : ¬ (ml : Int) < 1 := by omega
        have l3 : (n' : Int) < (ml : Int) := by omega
        have l4 : n' < ml := by omega
        clear hno hbn hf f1 f2 f3 f4 hB hM hm hs hlen hE h1 h2 hml hb
        go_enter Try.func27, Try.ntmps27
        go_wp2_with fail
        refine HBn.out.mono ?_
        rintro e w1 ⟨rfl, rfl⟩
        go_wp2
        go_returns
        exact ⟨D, c, rfl, .inl rfl, HB9.out, Keeps.refl _ _⟩
    have hpE : ptE false xs p n' d' ml = lkE false xs p 1 n' d' := by unfold ptE; rw [if_neg (fun q => q hf), if_neg hlen]
    have l2 : ¬ (ml : Int) < 1 := by omega
    have l2' : ¬ ml < 1 := by omega
    have l3 : ¬ (n' : Int) < (ml : Int) := by omega
    have l3' : ¬ n' < ml := by omega
    have HC : Hid (Calls _ _ _ _ _) := stage_any D M c n' d' p xs w hB hM hm hf
    obtain ⟨E, hE⟩ : ∃ E, E = lkE false xs p 1 n' d' := ⟨_, rfl⟩
    obtain ⟨r, hr⟩ : ∃ r, r = rdA xs p 1 n' d' := ⟨_, rfl⟩
    obtain ⟨PX, hPX⟩ : ∃ PX, PX = ptX false xs p n' d' m := ⟨_, rfl⟩
    obtain ⟨PB, hPB⟩ : ∃ PB, PB = ptB false xs p n' d' ml := ⟨_, rfl⟩
    rw [← hE] at HC hpE
    rw [← hr] at HC
    rw [hpE, ← hPX, ← hPB]
    rw [← hPB] at hb
    have HNB : Hid (PB = false) := hb
    clear hb
    rw [hpE] at hno
    have HR : Hid (r = rdA xs p 1 n' d' ∧ E = lkE false xs p 1 n' d' ∧ PX = ptX false xs p n' d' m ∧ PB = ptB false xs p n' d' ml ∧ ml = m.length ∧ SegW w ma m ∧ M = xs.length ∧ M ≤ 256 ∧ ptE false xs p n' d' ml = E ∧ (E ≠ 0 → PB = false ∧ PX = xs)) := ⟨hr, hE, hPX, hPB, hml, hs, hM, hm, hpE, fun q => by rw [hPB, hPX]; exact hno E rfl q⟩
    clear hno hbn hf hB hM hm hs hlen hml hpE hE hr hPX hPB
    go_enter Try.func27, Try.ntmps27
    go_wp2_with fail
    refine HBn.out.mono ?_
    rintro e w1 ⟨rfl, rfl⟩
    go_wp2_with fail
    refine HC.out.mono ?_
    intro e w2 hpp
    rcases hpp with ⟨hE, v, rfl, hms, hk⟩ | ⟨hE, rfl, hk⟩
    · obtain ⟨a, cc, hv, hcc, hlc⟩ := hms.form
      obtain ⟨LL, hLL⟩ : ∃ LL, LL = r.ms.length := ⟨_, rfl⟩
      rw [← hLL] at hv hlc
      subst hv
      obtain ⟨F, hF⟩ : ∃ F, F = r.f := ⟨_, rfl⟩
      obtain ⟨X, hX⟩ : ∃ X, X = r.lost.toNat := ⟨_, rfl⟩
      rw [← hF, ← hX]
      by_cases hfull : LL = d'
      · have HQ : Hid (E = 0 ∧ PB = false ∧ PX = xs ∧ Keeps (fun _ => False) w1 w2 ∧ Blk w2 D (wvs xs) 52) := by
          have q : PB = false := by
            rw [HR.out.2.2.2.1]; unfold ptB; rw [HR.out.2.2.2.2.2.2.2.2.1, hE, ← HR.out.1, ← hLL, hfull]; simp
          refine ⟨hE, q, ?_, hk, HB9.out.kept hk fun e => e⟩
          rw [HR.out.2.2.1]; unfold ptX; rw [← HR.out.2.2.2.2.1, ← HR.out.2.2.2.1, if_neg (by rw [q]; decide)]
        have hfz : ((LL : Int) == (d' : Int)) = true := beq_iff_eq.2 (by omega)
        clear hE hms hk hLL hF hX HC hfull
        go_wp2
        go_returns
        refine ⟨D, c, ?_, .inl rfl, ?_, HQ.out.2.2.2.1.alloc _⟩
        · rw [HQ.out.1, HQ.out.2.1]; rfl
        · rw [HQ.out.2.2.1]; exact HQ.out.2.2.2.2.alloc _
      · have hE0 : lkE false xs p 1 n' d' = 0 := by rw [← HR.out.2.1]; exact hE
        have q : PB = true := by
          rw [HR.out.2.2.2.1]; unfold ptB; rw [HR.out.2.2.2.2.2.2.2.2.1, hE, ← HR.out.1, ← hLL]
          rw [decide_eq_true rfl, decide_eq_false (by simp; omega)]; rfl
        rw [HNB.out] at q
        cases q
    · have HQ : Hid (PB = false ∧ PX = xs ∧ Keeps (fun _ => False) w1 w2 ∧ Blk w2 D (wvs xs) 52) := ⟨(HR.out.2.2.2.2.2.2.2.2.2 hE).1, (HR.out.2.2.2.2.2.2.2.2.2 hE).2, hk, HB9.out.kept hk fun e => e⟩
      have hE9 : (E != 0) = true := bne_iff_ne.2 hE
      clear hE hk HC
      go_wp2
      go_returns
      refine ⟨D, c, ?_, .inl rfl, ?_, HQ.out.2.2.1.alloc _⟩
      · rw [HQ.out.1]; rfl
      · rw [HQ.out.2.1]; exact HQ.out.2.2.2.alloc _
  · rw [bnd_no hf] at hbn
    have HBn : Hid (Calls _ _ _ _ _) := hbn
    have hE : ptE false xs p n d m.length = 1 := by unfold ptE; rw [if_pos hf, fitE_one hf]
    obtain ⟨h1, h2⟩ := hno 1 hE (by decide)
    rw [hE, h1, h2]
    clear hno hbn hf hB hM hm hs hE h1 h2 hb
    go_enter Try.func27, Try.ntmps27
    go_wp2_with fail
    refine HBn.out.mono ?_
    rintro e w1 ⟨rfl, rfl⟩
    go_wp2
    go_returns
    exact ⟨D, c, rfl, .inl rfl, HB9.out, Keeps.refl _ _⟩

end Go.Proofs.Ytekijhhpldnmnaa
