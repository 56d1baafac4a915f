import Derived.Test.YtmkeccibminnhaaOa
namespace Go.Proofs.Ytmkeccibminnhaa
open Go.RowKit
set_option linter.unusedVariables false
set_option maxRecDepth 6000

set_option maxHeartbeats 1000000 in
theorem sameBytes_eq (a1 a2 : Option Addr) (c1 c2 : Nat) (xs : List UInt8) (w : World) (h1 : Seg w a1 xs) (h2 : Seg w a2 xs) :
    Calls Try.prog 11 #[.slice a1 xs.length c1, .slice a2 xs.length c2] w fun e w' => e = .returned (.bool true) ∧ w' = w := by
  have H1 : Hid (_ = _) := run_text_seg a1 c1 xs h1
  have H2 : Hid (_ = _) := run_text_seg a2 c2 xs h2
  obtain ⟨L, hL⟩ : ∃ L, xs.length = L := ⟨_, rfl⟩
  rw [hL] at H1 H2 ⊢
  clear h1 h2 hL
  obtain ⟨T, hT⟩ : ∃ T : ByteArray, (⟨xs.toArray⟩ : ByteArray) = T := ⟨_, rfl⟩
  rw [hT] at H1 H2
  clear hT
  go_enter Try.func11, Try.ntmps11
  go_wp2_with (first | (refine wpList_convert_run rfl (.tmp 5) 27 9 rfl (.slice a1 L c1) _ w rfl H1.out ?_) | (refine wpList_convert_run rfl (.tmp 7) 27 9 rfl (.slice a2 L c2) _ w rfl H2.out ?_))
  go_ret
  exact ⟨by simp, rfl⟩

set_option maxHeartbeats 1000000 in
theorem confOne_any (B : List UInt8) (a : Option Addr) (cap : Nat) (w : World) (hs : Seg w a B) (hcap : B.length ≤ cap ∧ cap ≤ maxLen) (hlt : B ≠ [] → ∀ y, a = some y → y.block < w.heap.size) :
    Calls Try.prog 6 #[.slice a B.length cap] w fun e w' => e = .returned (.bool true) ∧ Keeps (fun _ => False) w w' := by
  have HD : Hid (Calls Try.prog 12 #[.slice a B.length cap] w (DecP w B)) := by
    by_cases hl : 16384 < B.length
    · exact (decode_long B.length a cap w hl (by omega)).mono fun e w' h => ⟨h.1, .inl ⟨hl, h.2⟩⟩
    · exact decode_short B a cap w hs hcap (by omega) hlt
  obtain ⟨L, hL⟩ : ∃ L, B.length = L := ⟨_, rfl⟩
  have HS : Hid (Seg w a B ∧ B.length = L) := ⟨hs, hL⟩
  rw [hL] at HD ⊢
  clear hs hcap hlt hL
  go_enter Try.func6, Try.ntmps6
  go_wp2_with fail
  refine HD.out.mono ?_
  clear HD
  rintro e w1 ⟨hK1, ⟨hl, rfl⟩ | ⟨hl, ⟨x, hd, rfl, hX⟩ | ⟨q, k, hd, rfl⟩⟩⟩
  · have HK : Hid (Keeps (fun _ => False) w w1) := hK1
    clear hK1
    go_wp2
    go_ret
    exact ⟨rfl, HK.out.alloc _⟩
  · obtain ⟨hxd, hB⟩ := dec_ok hd
    have hIn := hX.in
    have hD := cfgD x hIn.fine
    have hF := cfgForm x
    rw [hxd] at hD
    rw [← hB] at hF
    obtain ⟨n1, n2, n3, n4, ca, cc, cs, pa, pc, ps, ha, hc, hs⟩ := x
    obtain ⟨X, hXX⟩ : ∃ X : Cfg, X = ⟨n1, n2, n3, n4, ca, cc, cs, pa, pc, ps, ha, hc, hs⟩ := ⟨_, rfl⟩
    rw [← hXX] at hIn hD hF ⊢
    obtain ⟨L1, hL1⟩ : ∃ L, cs.length = L := ⟨_, rfl⟩
    obtain ⟨L2, hL2⟩ : ∃ L, ps.length = L := ⟨_, rfl⟩
    obtain ⟨L3, hL3⟩ : ∃ L, hs.length = L := ⟨_, rfl⟩
    have hv : X.v = .agg #[.int .i64 n1, .int .i64 n2, .int .i64 n3, .int .i64 n4, .slice ca L1 cc, .slice pa L2 pc, .slice ha L3 hc] := by rw [hXX, ← hL1, ← hL2, ← hL3]
    rw [hv]
    obtain ⟨W, hW⟩ : ∃ W, W = w1.alloc (.cells #[.int .i64 n1, .int .i64 n2, .int .i64 n3, .int .i64 n4, .slice ca L1 cc, .slice pa L2 pc, .slice ha L3 hc] 26) := ⟨_, rfl⟩
    have hKW : Keeps (fun _ => False) w1 W := by rw [hW]; exact (Keeps.refl _ _).alloc _
    have HE : Hid (Calls _ _ _ _ _) := encode_any w1.heap.size X W (hIn.below (hKW.below (Nat.le_refl _) fun _ e => e.elim)) hKW.size
    rw [hv] at HE
    have HA : Hid (Keeps (fun _ => False) w W ∧ X.d = false ∧ form X = B ∧ B.length ≤ 16384) := ⟨hK1.trans hKW fun _ _ e => e, hD, hF, hl⟩
    clear hK1 hl hd hX hxd hB hIn hD hF hXX hL1 hL2 hL3 hv hKW
    go_wp2_with fail
    rw [← hW]
    refine HE.out.mono ?_
    clear HE hW
    rintro e w2 ⟨hK2, ⟨h1, _⟩ | ⟨_, h2, _⟩ | ⟨_, _, g, hg, hBk, rfl⟩⟩
    · have := HA.out.2.1; rw [this] at h1; cases h1
    · have h3 := HA.out.2.2.1; have := HA.out.2.2.2; rw [h3] at h2; omega
    · rw [HA.out.2.2.1, HS.out.2]
      rw [HA.out.2.2.1] at hBk
      have HB : Hid (Calls _ _ _ _ _) := sameBytes_eq (some ⟨g, 0, none⟩) a L cap B w2 (seg_blk hBk) (HS.out.1.keptB (HA.out.1.trans hK2 fun _ _ e => e) fun _ _ _ e => e)
      rw [HS.out.2] at HB
      have HK : Hid (Keeps (fun _ => False) w w2) := HA.out.1.trans hK2 fun _ _ e => e
      clear hK2 hg hBk
      go_wp2_with fail
      refine HB.out.mono ?_
      rintro e w3 ⟨rfl, hw⟩
      obtain rfl := hw.symm
      clear hw HB
      go_wp2
      go_ret
      exact ⟨rfl, HK.out⟩
  · obtain ⟨_, hk⟩ := dec_err hd
    have HK : Hid (Keeps (fun _ => False) w w1) := hK1
    clear hK1 hd
    rcases hk with rfl | rfl
    · go_wp2
      go_ret
      exact ⟨rfl, HK.out.alloc _⟩
    · go_wp2
      go_ret
      exact ⟨rfl, HK.out.alloc _⟩
end Go.Proofs.Ytmkeccibminnhaa
