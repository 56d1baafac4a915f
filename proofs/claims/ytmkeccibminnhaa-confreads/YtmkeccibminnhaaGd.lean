import Derived.Test.YtmkeccibminnhaaGc
namespace Go.Proofs.Ytmkeccibminnhaa
open Go.RowKit
set_option linter.unusedVariables false
set_option maxRecDepth 6000

set_option maxHeartbeats 1000000 in
theorem csource_any (b g o cap : Nat) (s : CS) (B : List UInt8) (w : World) (h : CuS w b g o cap B s) :
    Calls Try.prog 95 #[.pointer (some ⟨b, 0, none⟩)] w fun e w' => e = .returned (.bool (cSrc B s).1) ∧ CuS w' b g o cap B (cSrc B s).2 ∧ Keeps (· = b) w w' := by
  obtain ⟨p, bad⟩ := s
  have HC : Hid (Cu w b g o cap B p bad) := h
  have c1 := HC.out.blk.cell (i := 1) rfl
  obtain ⟨V, s', he, hV⟩ := cNum1 B (p, bad)
  have HN : Hid (Calls _ _ _ _ _) := num_call h (by omega) he
  obtain ⟨v, t, hvt⟩ : ∃ v t, cSrc B (p, bad) = (v, t) := ⟨_, _, rfl⟩
  rw [hvt]
  have hc : (if 1 < V then (false, p, true) else (V == 1, s')) = (v, t) := by rw [← hvt]; unfold cSrc; rw [he]
  by_cases h1 : 1 < V
  · rw [if_pos h1] at hc
    obtain ⟨rfl, rfl⟩ := Prod.mk.inj hc
    have h1' : (1 : Int) < V := by omega
    have h2' : ((V : Int) = 1) = False := by simp; omega
    clear h he hvt hc
    go_enter Try.func95, Try.ntmps95
    go_wp2_with fail
    refine HN.out.mono ?_
    rintro e w1 ⟨rfl, hC1, hK1⟩
    clear HN c1
    have hC1 : Cu w1 b g o cap B s'.1 s'.2 := hC1
    have d2 := hC1.blk.cell (i := 2) rfl
    have d1 := hC1.blk.cell (i := 1) rfl
    have e2 := hC1.blk.frozen 2
    have hB2 := (hC1.bad_).1
    have d1' := hB2.blk.cell (i := 1) rfl
    have e1' := hB2.blk.frozen 1
    have HF := (hB2.at_ p HC.out.le)
    have HF : Hid (Cu ((w1.setCell ⟨b, 2, none⟩ (.bool true)).setCell ⟨b, 1, none⟩ (.int .i64 p)) b g o cap B p true ∧ Keeps (· = b) w ((w1.setCell ⟨b, 2, none⟩ (.bool true)).setCell ⟨b, 1, none⟩ (.int .i64 p))) := ⟨HF.1, (hK1.trans hC1.bad_.2 fun _ _ e => e).trans HF.2 fun _ _ e => e⟩
    clear hC1 hK1 hB2
    go_wp2
    go_ret
    exact ⟨by simp; omega, HF.out.1, HF.out.2⟩
  · rw [if_neg h1] at hc
    obtain ⟨rfl, rfl⟩ := Prod.mk.inj hc
    have h1' : ¬ (1 : Int) < V := by omega
    clear h he hvt hc c1
    have c1 := HC.out.blk.cell (i := 1) rfl
    go_enter Try.func95, Try.ntmps95
    go_wp2_with fail
    refine HN.out.mono ?_
    rintro e w1 ⟨rfl, hC1, hK1⟩
    clear HN c1
    have HF : Hid (CuS w1 b g o cap B s' ∧ Keeps (· = b) w w1) := ⟨hC1, hK1⟩
    clear hC1 hK1
    go_wp2
    go_ret
    refine ⟨?_, HF.out⟩
    show Ending.returned (.bool ((V : Int) == 1)) = _
    have hb : ((V : Int) == 1) = (V == 1) := by rw [Bool.eq_iff_iff]; simp; omega
    rw [hb]

set_option maxHeartbeats 1000000 in
theorem ctext_any (b g o cap : Nat) (s : CS) (B : List UInt8) (w : World) (h : CuS w b g o cap B s) :
    Calls Try.prog 76 #[.pointer (some ⟨b, 0, none⟩)] w fun e w' => e = .returned (.string (cText B s).1) ∧ CuS w' b g o cap B (cText B s).2 ∧ Keeps (· = b) w w' := by
  obtain ⟨p, bad⟩ := s
  have HC : Hid (Cu w b g o cap B p bad) := h
  have c1 := HC.out.blk.cell (i := 1) rfl
  obtain ⟨V, s', he, hV⟩ := cNum4 B (p, bad)
  obtain ⟨p', bad'⟩ := s'
  have HN : Hid (Calls _ _ _ _ _) := num_call h (by omega) he
  obtain ⟨v, t, hvt⟩ : ∃ v t, cText B (p, bad) = (v, t) := ⟨_, _, rfl⟩
  rw [hvt]
  have hc : (if 255 < V then (⟨#[]⟩, p, true) else if cuB B p' bad' V then (⟨#[]⟩, p, true) else (⟨((B.drop p').take V).toArray⟩, cuP B p' bad' V, false)) = (v, t) := by rw [← hvt]; unfold cText; rw [he]
  by_cases h1 : 255 < V
  · rw [if_pos h1] at hc
    obtain ⟨rfl, rfl⟩ := Prod.mk.inj hc
    have h1' : (255 : Int) < V := by omega
    clear h he hvt hc
    go_enter Try.func76, Try.ntmps76
    go_wp2_with fail
    refine HN.out.mono ?_
    rintro e w1 ⟨rfl, hC1, hK1⟩
    clear HN c1
    have hC1 : Cu w1 b g o cap B p' bad' := hC1
    have d2 := hC1.blk.cell (i := 2) rfl
    have e2 := hC1.blk.frozen 2
    have HB2 : Hid (Cu (w1.setCell ⟨b, 2, none⟩ (.bool true)) b g o cap B p' true ∧ Keeps (· = b) w (w1.setCell ⟨b, 2, none⟩ (.bool true))) := ⟨(hC1.bad_).1, hK1.trans hC1.bad_.2 fun _ _ e => e⟩
    clear hC1 hK1
    go_wp2_with fail
    refine (take_bad b g o cap p' V B _ HB2.out.1).mono ?_
    rintro e w2 ⟨rfl, hC2, hK2⟩
    have HCV : Hid ((convert 27 9 (.slice none 0 0)).run Try.prog w2 = .ok (.string ⟨#[]⟩) w2) := run_text_seg none 0 [] (.inl rfl)
    have HK2 : Hid (Keeps (· = b) w w2) := HB2.out.2.trans hK2 fun _ _ e => e
    clear HB2 d2 e2 hK2
    have d2 := hC2.blk.cell (i := 2) rfl
    have d1 := hC2.blk.cell (i := 1) rfl
    have e1 := hC2.blk.frozen 1
    have HF : Hid (Cu (w2.setCell ⟨b, 1, none⟩ (.int .i64 p)) b g o cap B p true ∧ Keeps (· = b) w (w2.setCell ⟨b, 1, none⟩ (.int .i64 p))) := ⟨(hC2.at_ p HC.out.le).1, HK2.out.trans (hC2.at_ p HC.out.le).2 fun _ _ e => e⟩
    clear hC2
    go_wp2_with (refine wpList_convert_run rfl (.tmp 19) 27 9 rfl (.slice none 0 0) _ w2 rfl HCV.out ?_)
    go_ret
    exact ⟨rfl, HF.out⟩
  · rw [if_neg h1] at hc
    have h1' : ¬ (255 : Int) < V := by omega
    clear h he hvt
    have HCC : Hid (_ = (v, t)) := hc
    clear hc
    go_enter Try.func76, Try.ntmps76
    go_wp2_with fail
    refine HN.out.mono ?_
    rintro e w1 ⟨rfl, hC1, hK1⟩
    clear HN c1
    have hC1 : Cu w1 b g o cap B p' bad' := hC1
    have H1 : Hid (Cu w1 b g o cap B p' bad' ∧ Keeps (· = b) w w1) := ⟨hC1, hK1⟩
    clear hC1 hK1
    go_wp2_with fail
    refine (take_any' b g o cap p' V bad' B _ H1.out.1 (by omega)).mono ?_
    rintro e w2 ⟨⟨a, c, rfl, hs, hcm, _⟩, hC2, hK2⟩
    obtain ⟨p2, hp2⟩ : ∃ p2, cuP B p' bad' V = p2 := ⟨_, rfl⟩
    have HK2 : Hid (Keeps (· = b) w w2) := H1.out.2.trans hK2 fun _ _ e => e
    clear hK2 H1
    rw [hp2] at hC2
    by_cases hb : cuB B p' bad' V = true
    · rw [hb] at hs hC2 ⊢
      have hcc := HCC.out
      rw [if_pos hb] at hcc
      obtain ⟨rfl, rfl⟩ := Prod.mk.inj hcc
      have HCV : Hid ((convert 27 9 (.slice a 0 c)).run Try.prog w2 = .ok (.string ⟨#[]⟩) w2) := run_text_seg a c [] hs
      have d2 := hC2.blk.cell (i := 2) rfl
      have d1 := hC2.blk.cell (i := 1) rfl
      have e1 := hC2.blk.frozen 1
      have HF : Hid (Cu (w2.setCell ⟨b, 1, none⟩ (.int .i64 p)) b g o cap B p true ∧ Keeps (· = b) w (w2.setCell ⟨b, 1, none⟩ (.int .i64 p))) := ⟨(hC2.at_ p HC.out.le).1, HK2.out.trans (hC2.at_ p HC.out.le).2 fun _ _ e => e⟩
      clear hC2 hs HCC hcc hp2
      simp only [if_true]
      go_wp2_with (refine wpList_convert_run rfl (.tmp 19) 27 9 rfl (.slice a 0 c) _ w2 rfl HCV.out ?_)
      go_ret
      exact ⟨rfl, HF.out⟩
    · have hb' : cuB B p' bad' V = false := by simpa using hb
      rw [hb'] at hs hC2 ⊢
      have hcc := HCC.out
      rw [if_neg hb, hp2] at hcc
      obtain ⟨hv, rfl⟩ := Prod.mk.inj hcc
      have hlen : ((B.drop p').take V).length = V := by
        have : p' + V ≤ B.length := by simp [cuB] at hb'; omega
        rw [List.length_take, List.length_drop]; omega
      have hcv := run_text_seg (w := w2) a c ((B.drop p').take V) hs
      rw [hlen] at hcv
      rw [hv] at hcv
      have HCV : Hid ((convert 27 9 (.slice a V c)).run Try.prog w2 = .ok (.string v) w2) := hcv
      have d2 := hC2.blk.cell (i := 2) rfl
      have HF : Hid (Cu w2 b g o cap B p2 false ∧ Keeps (· = b) w w2) := ⟨hC2, HK2.out⟩
      clear hC2 hs HCC hcc hp2 hcv hv hlen
      simp only [Bool.false_eq_true, if_false]
      go_wp2_with (refine wpList_convert_run rfl (.tmp 19) 27 9 rfl (.slice a V c) _ w2 rfl HCV.out ?_)
      go_ret
      exact ⟨rfl, HF.out⟩
end Go.Proofs.Ytmkeccibminnhaa
