import Derived.Test.YtadhldpeklkcmaaSw
namespace Go.Proofs.Ytadhldpeklkcmaa
open Go.RowKit
set_option linter.unusedVariables false
set_option maxRecDepth 10000

def opN (a : Option Addr) (n : Nat) : Opr := ⟨5, 0, 0, 0, false, 0, a, n, n, none, 0, 0⟩
theorem opN_vs (a : Option Addr) (n : Nat) : (opN a n).vs.toArray = #[.int .i64 5, .int .i64 0, .int .i64 0, .int .i64 0, .bool false, .int .u32 0, .slice a n n, .slice none 0 0] := rfl
def opS : Opr := ⟨6, 1, 0, 0, false, 0, none, 0, 0, none, 0, 0⟩

theorem opS_vs : opS.vs.toArray = #[.int .i64 6, .int .i64 1, .int .i64 0, .int .i64 0, .bool false, .int .u32 0, .slice none 0 0, .slice none 0 0] := rfl

theorem segI_new (w : World) (l : List Int) : SegI (w.alloc (.cells (ivs l).toArray 3)) (some ⟨w.heap.size, 0, none⟩) l := by
  have h := Blk.new w (ivs l).toArray 3
  rw [List.toList_toArray] at h
  exact segI_pre (ys := []) (by rw [List.append_nil]; exact h)

/-- What begun leaves. -/
def BegP (w : World) (e : Ending) (w' : World) : Prop :=
  ∃ p : Pst, e = .returned (.tuple #[.pointer (some ⟨p.WB, 0, none⟩), .bool true]) ∧ p.Ok w.heap.size w' ∧ p.Same ∧ p.Xs.length = 2 ∧ p.es.length = 0 ∧ Keeps (fun _ => False) w w'

set_option maxHeartbeats 1000000 in
theorem begun_any (w : World) : Calls Try.prog 6 #[] w (BegP w) := by
  obtain ⟨W0, hW0⟩ : ∃ W0, W0 = w.alloc (.cells #[.pointer none, .pointer none, .pointer none, .pointer none, .slice none 0 0, .slice none 0 0, .slice none 0 0] 41) := ⟨_, rfl⟩
  have hB0 : Blk W0 w.heap.size [.pointer none, .pointer none, .pointer none, .pointer none, .slice none 0 0, .slice none 0 0, .slice none 0 0] 41 := by rw [hW0]; exact Blk.new w _ 41
  have hK0 : Keeps (fun _ => False) w W0 := by rw [hW0]; exact (Keeps.refl _ w).alloc _
  have hs0 : W0.heap.size = w.heap.size + 1 := by rw [hW0]; simp
  obtain ⟨WB, hWB⟩ : ∃ WB, WB = w.heap.size := ⟨_, rfl⟩
  rw [← hWB] at hB0 hs0
  have HW0 : Hid (W0 = _) := hW0
  have H0 : Hid (Blk W0 WB [.pointer none, .pointer none, .pointer none, .pointer none, .slice none 0 0, .slice none 0 0, .slice none 0 0] 41 ∧ Keeps (fun _ => False) w W0 ∧ W0.heap.size = WB + 1 ∧ WB = w.heap.size) := ⟨hB0, hK0, hs0, hWB⟩
  have HN0 : Hid (Calls _ _ _ _ _) := new_in 2 W0 (by omega) (by omega)
  clear hW0 hB0 hK0 hs0 hWB
  go_enter Try.func6, Try.ntmps6
  go_wp2_with fail
  rw [← HW0.out, ← H0.out.2.2.2]
  refine HN0.out.mono ?_
  rintro e w1 ⟨rfl, hM, hk⟩
  obtain ⟨g, hg⟩ : ∃ x, x = W0.heap.size := ⟨_, rfl⟩
  rw [← hg] at hM ⊢
  obtain ⟨mb, hmb⟩ : ∃ x, x = g + 1 := ⟨_, rfl⟩
  rw [← hmb] at hM ⊢
  have hB := H0.out.1.kept hk (fun e => e)
  have c := hB.cell (i := 0) rfl
  have z := hB.frozen 0
  obtain ⟨W1, hW⟩ : ∃ W, W = w1.setCell ⟨WB, 0, none⟩ (.pointer (some ⟨mb, 0, none⟩)) := ⟨_, rfl⟩
  have hkW : Keeps (· = WB) w1 W1 := by rw [hW]; exact (Keeps.refl _ _).setCell _ _ fun _ => rfl
  have hBW := hB.setCell 0 (.pointer (some ⟨mb, 0, none⟩))
  rw [← hW] at hBW
  have HLT0 : WB < g ∧ g < mb := by
    have := H0.out.2.2.1; omega
  have HO0 : Hid (WB < g ∧ g < mb) := by
    show WB < g ∧ g < mb
    have := H0.out.2.2.1; omega
  have H1 : Hid (Blk W1 WB [.pointer (some ⟨mb, 0, none⟩), .pointer none, .pointer none, .pointer none, .slice none 0 0, .slice none 0 0, .slice none 0 0] 41 ∧ Keeps (fun _ => False) w W1 ∧ (WB < g ∧ g < mb) ∧ WB = w.heap.size ∧ Mm W1 mb g (List.replicate (2 * 16) 0)) := ⟨hBW, (H0.out.2.1.trans hk (fun _ _ e => e)).trans hkW (fun k hk' e => by have := H0.out.2.2.2; omega), ⟨by have := H0.out.2.2.1; omega, by omega⟩, H0.out.2.2.2, hM.kept hkW (fun e => by have := HLT0; omega) (fun e => by have := HLT0; omega)⟩
  have HN : Hid (Calls _ _ _ _ _) := rnew_in 2 W1 (by omega) (by omega)
  have HWW : Hid (W1 = _) := hW
  clear hM hk hB hkW hBW hW hg hmb HLT0 H0 HW0 HN0 
  go_wp2_with fail
  rw [← HWW.out]
  clear HWW c z
  refine HN.out.mono ?_
  clear HN
  rintro e w2 ⟨rfl, hM, hk⟩
  obtain ⟨h, hh⟩ : ∃ x, x = W1.heap.size := ⟨_, rfl⟩
  rw [← hh] at hM ⊢
  obtain ⟨nb, hnb⟩ : ∃ x, x = h + 1 := ⟨_, rfl⟩
  rw [← hnb] at hM ⊢
  have hB := H1.out.1.kept hk (fun e => e)
  have c := hB.cell (i := 1) rfl
  have z := hB.frozen 1
  obtain ⟨W2, hW⟩ : ∃ W, W = w2.setCell ⟨WB, 1, none⟩ (.pointer (some ⟨nb, 0, none⟩)) := ⟨_, rfl⟩
  have hkW : Keeps (· = WB) w2 W2 := by rw [hW]; exact (Keeps.refl _ _).setCell _ _ fun _ => rfl
  have hBW := hB.setCell 1 (.pointer (some ⟨nb, 0, none⟩))
  rw [← hW] at hBW
  have HLT1 : WB < h ∧ h < nb := by
    have h1 := H1.out.2.2.2.2.blk.lt
    have h2 := H1.out.2.2.1
    have h3 := HO0.out
    omega
  have HO1 : Hid (WB < g ∧ g < mb ∧ mb < h ∧ h < nb) := by
    show WB < g ∧ g < mb ∧ mb < h ∧ h < nb
    have h1 := H1.out.2.2.2.2.blk.lt
    have h3 := HO0.out
    omega
  have H2 : Hid (Blk W2 WB [.pointer (some ⟨mb, 0, none⟩), .pointer (some ⟨nb, 0, none⟩), .pointer none, .pointer none, .slice none 0 0, .slice none 0 0, .slice none 0 0] 41 ∧ Keeps (fun _ => False) w W2 ∧ (mb < h ∧ h < nb) ∧ WB = w.heap.size ∧ Rm W2 nb h (List.replicate (2 * 16) 0) ∧ Mm W2 mb g (List.replicate (2 * 16) 0)) := ⟨hBW, (H1.out.2.1.trans hk (fun _ _ e => e)).trans hkW (fun k hk' e => by have := H1.out.2.2.2.1; omega), ⟨by have := H1.out.2.2.2.2.blk.lt; omega, by omega⟩, H1.out.2.2.2.1, hM.kept hkW (fun e => by have := HLT1; omega) (fun e => by have := HLT1; omega), ((H1.out.2.2.2.2).grown hk).kept hkW (fun e => by have := HO1.out; omega) (fun e => by have := HO1.out; omega)⟩
  have HN : Hid (Calls _ _ _ _ _) := new_in 2 W2 (by omega) (by omega)
  have HWW : Hid (W2 = _) := hW
  clear hM hk hB hkW hBW hW hh hnb HLT1 H1  HO0
  go_wp2_with fail
  rw [← HWW.out]
  clear HWW c z
  refine HN.out.mono ?_
  clear HN
  rintro e w3 ⟨rfl, hM, hk⟩
  obtain ⟨g2, hg2⟩ : ∃ x, x = W2.heap.size := ⟨_, rfl⟩
  rw [← hg2] at hM ⊢
  obtain ⟨mb2, hmb2⟩ : ∃ x, x = g2 + 1 := ⟨_, rfl⟩
  rw [← hmb2] at hM ⊢
  have hB := H2.out.1.kept hk (fun e => e)
  have c := hB.cell (i := 2) rfl
  have z := hB.frozen 2
  obtain ⟨W3, hW⟩ : ∃ W, W = w3.setCell ⟨WB, 2, none⟩ (.pointer (some ⟨mb2, 0, none⟩)) := ⟨_, rfl⟩
  have hkW : Keeps (· = WB) w3 W3 := by rw [hW]; exact (Keeps.refl _ _).setCell _ _ fun _ => rfl
  have hBW := hB.setCell 2 (.pointer (some ⟨mb2, 0, none⟩))
  rw [← hW] at hBW
  have HLT2 : WB < g2 ∧ g2 < mb2 := by
    have h1 := H2.out.2.2.2.2.1.blk.lt
    have h2 := H2.out.2.2.1
    have h3 := HO1.out
    omega
  have HO2 : Hid (WB < g ∧ g < mb ∧ mb < h ∧ h < nb ∧ nb < g2 ∧ g2 < mb2) := by
    show WB < g ∧ g < mb ∧ mb < h ∧ h < nb ∧ nb < g2 ∧ g2 < mb2
    have h1 := H2.out.2.2.2.2.1.blk.lt
    have h3 := HO1.out
    omega
  have H3 : Hid (Blk W3 WB [.pointer (some ⟨mb, 0, none⟩), .pointer (some ⟨nb, 0, none⟩), .pointer (some ⟨mb2, 0, none⟩), .pointer none, .slice none 0 0, .slice none 0 0, .slice none 0 0] 41 ∧ Keeps (fun _ => False) w W3 ∧ (nb < g2 ∧ g2 < mb2) ∧ WB = w.heap.size ∧ Mm W3 mb2 g2 (List.replicate (2 * 16) 0) ∧ Rm W3 nb h (List.replicate (2 * 16) 0) ∧ Mm W3 mb g (List.replicate (2 * 16) 0)) := ⟨hBW, (H2.out.2.1.trans hk (fun _ _ e => e)).trans hkW (fun k hk' e => by have := H2.out.2.2.2.1; omega), ⟨by have := H2.out.2.2.2.2.1.blk.lt; omega, by omega⟩, H2.out.2.2.2.1, hM.kept hkW (fun e => by have := HLT2; omega) (fun e => by have := HLT2; omega), ((H2.out.2.2.2.2.1).grown hk).kept hkW (fun e => by have := HO2.out; omega) (fun e => by have := HO2.out; omega), ((H2.out.2.2.2.2.2).grown hk).kept hkW (fun e => by have := HO2.out; omega) (fun e => by have := HO2.out; omega)⟩
  have HN : Hid (Calls _ _ _ _ _) := rnew_in 2 W3 (by omega) (by omega)
  have HWW : Hid (W3 = _) := hW
  clear hM hk hB hkW hBW hW hg2 hmb2 HLT2 H2  HO1
  go_wp2_with fail
  rw [← HWW.out]
  clear HWW c z
  refine HN.out.mono ?_
  clear HN
  rintro e w4 ⟨rfl, hM, hk⟩
  obtain ⟨h2, hh2⟩ : ∃ x, x = W3.heap.size := ⟨_, rfl⟩
  rw [← hh2] at hM ⊢
  obtain ⟨nb2, hnb2⟩ : ∃ x, x = h2 + 1 := ⟨_, rfl⟩
  rw [← hnb2] at hM ⊢
  have hB := H3.out.1.kept hk (fun e => e)
  have c := hB.cell (i := 3) rfl
  have c0 := hB.cell (i := 0) rfl
  have c2 := hB.cell (i := 2) rfl
  have z := hB.frozen 3
  obtain ⟨W4, hW⟩ : ∃ W, W = w4.setCell ⟨WB, 3, none⟩ (.pointer (some ⟨nb2, 0, none⟩)) := ⟨_, rfl⟩
  have hkW : Keeps (· = WB) w4 W4 := by rw [hW]; exact (Keeps.refl _ _).setCell _ _ fun _ => rfl
  have hBW := hB.setCell 3 (.pointer (some ⟨nb2, 0, none⟩))
  rw [← hW] at hBW
  have HLT3 : WB < h2 ∧ h2 < nb2 := by
    have h1 := H3.out.2.2.2.2.1.blk.lt
    have h2 := H3.out.2.2.1
    have h3 := HO2.out
    omega
  have HO3 : Hid (WB < g ∧ g < mb ∧ mb < h ∧ h < nb ∧ nb < g2 ∧ g2 < mb2 ∧ mb2 < h2 ∧ h2 < nb2) := by
    show WB < g ∧ g < mb ∧ mb < h ∧ h < nb ∧ nb < g2 ∧ g2 < mb2 ∧ mb2 < h2 ∧ h2 < nb2
    have h1 := H3.out.2.2.2.2.1.blk.lt
    have h3 := HO2.out
    omega
  have H4 : Hid (Blk W4 WB [.pointer (some ⟨mb, 0, none⟩), .pointer (some ⟨nb, 0, none⟩), .pointer (some ⟨mb2, 0, none⟩), .pointer (some ⟨nb2, 0, none⟩), .slice none 0 0, .slice none 0 0, .slice none 0 0] 41 ∧ Keeps (fun _ => False) w W4 ∧ (mb2 < h2 ∧ h2 < nb2) ∧ WB = w.heap.size ∧ Rm W4 nb2 h2 (List.replicate (2 * 16) 0) ∧ Mm W4 mb2 g2 (List.replicate (2 * 16) 0) ∧ Rm W4 nb h (List.replicate (2 * 16) 0) ∧ Mm W4 mb g (List.replicate (2 * 16) 0)) := ⟨hBW, (H3.out.2.1.trans hk (fun _ _ e => e)).trans hkW (fun k hk' e => by have := H3.out.2.2.2.1; omega), ⟨by have := H3.out.2.2.2.2.1.blk.lt; omega, by omega⟩, H3.out.2.2.2.1, hM.kept hkW (fun e => by have := HLT3; omega) (fun e => by have := HLT3; omega), ((H3.out.2.2.2.2.1).grown hk).kept hkW (fun e => by have := HO3.out; omega) (fun e => by have := HO3.out; omega), ((H3.out.2.2.2.2.2.1).grown hk).kept hkW (fun e => by have := HO3.out; omega) (fun e => by have := HO3.out; omega), ((H3.out.2.2.2.2.2.2).grown hk).kept hkW (fun e => by have := HO3.out; omega) (fun e => by have := HO3.out; omega)⟩
  have HWW : Hid (W4 = _) := hW
  clear hM hk hB hkW hBW hW hh2 hnb2 HLT3 H3  HO2
  have hP := p0_ok (w := w) H4.out.1 H4.out.2.2.2.2.2.2.2 H4.out.2.2.2.2.2.2.1 H4.out.2.2.2.2.2.1 H4.out.2.2.2.2.1 (by have := H4.out.2.2.2.1; omega) HO3.out.1 HO3.out.2.1 HO3.out.2.2.1 HO3.out.2.2.2.1 HO3.out.2.2.2.2.1 HO3.out.2.2.2.2.2.1 HO3.out.2.2.2.2.2.2.1 HO3.out.2.2.2.2.2.2.2
  obtain ⟨p, hp⟩ : ∃ p, p = p0 WB mb g nb h mb2 g2 nb2 h2 := ⟨_, rfl⟩
  rw [← hp] at hP
  have HP : Hid (p.Ok w.heap.size W4 ∧ p.Same ∧ p.WB = WB ∧ p.Xs = [] ∧ p.es = [] ∧ p.xs = List.replicate (2 * 16) 0 ∧ Keeps (fun _ => False) w W4) := ⟨hP.1, hP.2, by rw [hp]; rfl, by rw [hp]; rfl, by rw [hp]; rfl, by rw [hp]; rfl, H4.out.2.1⟩
  clear hP hp H4 HO3
  have HSZ : Hid (w4.heap.size = W4.heap.size) := by show w4.heap.size = W4.heap.size; rw [HWW.out]; simp
  have k5 := (Keeps.refl (fun _ => False) W4).alloc (.cells (ivs [0, 2]).toArray 3)
  have HM1 := makes_newN p w.heap.size (opN (some ⟨W4.heap.size, 0, none⟩) 2) [0, 2] [] (W4.alloc (.cells (ivs [0, 2]).toArray 3)) (HP.out.1.same k5) HP.out.2.1 (segI_new W4 [0, 2]) rfl (.inl rfl) rfl (by simp) (by simp) (by simp) (by rw [HP.out.2.2.2.1]; simp) rfl
  rw [opN_vs, HP.out.2.2.1] at HM1
  have HM1 : Hid (Calls Try.prog 8 #[.pointer (some ⟨WB, 0, none⟩), .agg #[.int .i64 5, .int .i64 0, .int .i64 0, .int .i64 0, .bool false, .int .u32 0, .slice (some ⟨W4.heap.size, 0, none⟩) 2 2, .slice none 0 0]] (W4.alloc (.cells #[.int .i64 0, .int .i64 2] 3)) _) := HM1
  clear k5
  go_wp2_with fail
  rw [← HWW.out, HSZ.out]
  clear HWW HSZ c c0 c2 z
  refine HM1.out.mono ?_
  rintro e w5 ⟨rfl, p1, X1, hO1, hS1, hX1, -, -, -, hx1, he1, hb1, hk1⟩
  have HP1 : Hid (p1.Ok w.heap.size w5 ∧ p1.Same ∧ p1.WB = WB ∧ p1.Xs.length = 1 ∧ p1.es = [] ∧ p1.xs = List.replicate (2 * 16) 0 ∧ Keeps (fun _ => False) w w5) := by
    refine ⟨hO1, hS1, by rw [hb1]; exact HP.out.2.2.1, by rw [hX1, HP.out.2.2.2.1]; rfl, by rw [he1]; exact HP.out.2.2.2.2.1, by rw [hx1]; exact HP.out.2.2.2.2.2.1, ?_⟩
    exact (HP.out.2.2.2.2.2.2.alloc _).trans hk1 (fun k hk e => by have := hk; omega)
  clear hO1 hS1 hX1 hx1 he1 hb1 hk1 HM1 HP
  have k5 := (Keeps.refl (fun _ => False) w5).alloc (.cells (ivs [2]).toArray 3)
  have HM2 := makes_newN p1 w.heap.size (opN (some ⟨w5.heap.size, 0, none⟩) 1) [2] [] (w5.alloc (.cells (ivs [2]).toArray 3)) (HP1.out.1.same k5) HP1.out.2.1 (segI_new w5 [2]) rfl (.inl rfl) rfl (by simp) (by simp) (by simp) (by rw [HP1.out.2.2.2.1]; simp) rfl
  rw [opN_vs, HP1.out.2.2.1] at HM2
  have HM2 : Hid (Calls Try.prog 8 #[.pointer (some ⟨WB, 0, none⟩), .agg #[.int .i64 5, .int .i64 0, .int .i64 0, .int .i64 0, .bool false, .int .u32 0, .slice (some ⟨w5.heap.size, 0, none⟩) 1 1, .slice none 0 0]] (w5.alloc (.cells #[.int .i64 2] 3)) _) := HM2
  clear k5
  go_wp2_with fail
  refine HM2.out.mono ?_
  rintro e w6 ⟨rfl, p2, X2, hO2, hS2, hX2, hl2, ht2, hst2, hx2, he2, hb2, hk2⟩
  have HP2 : Hid (p2.Ok w.heap.size w6 ∧ p2.Same ∧ p2.WB = WB ∧ p2.Xs.length = 2 ∧ p2.es = [] ∧ p2.xs = List.replicate (2 * 16) 0 ∧ Keeps (fun _ => False) w w6 ∧ p2.Xs[1]? = some X2 ∧ X2.lk = [2] ∧ X2.tk = [] ∧ X2.st = 1) := by
    refine ⟨hO2, hS2, by rw [hb2]; exact HP1.out.2.2.1, by rw [hX2, List.length_append, HP1.out.2.2.2.1]; rfl, by rw [he2]; exact HP1.out.2.2.2.2.1, by rw [hx2]; exact HP1.out.2.2.2.2.2.1, ?_, ?_, hl2, ht2, hst2⟩
    · exact (HP1.out.2.2.2.2.2.2.alloc _).trans hk2 (fun k hk e => by have := hk; omega)
    · rw [hX2, List.getElem?_append_right (by rw [HP1.out.2.2.2.1]; exact Nat.le_refl _), HP1.out.2.2.2.1]; rfl
  clear hO2 hS2 hX2 hl2 ht2 hst2 hx2 he2 hb2 hk2 HM2 HP1
  have HD1 := does_stepN p2 w.heap.size opS w6 HP2.out.1 HP2.out.2.1 (by rw [HP2.out.2.2.2.1]; omega) (by rw [HP2.out.2.2.2.1]; omega) (by decide) (by decide) rfl
  rw [opS_vs, HP2.out.2.2.1] at HD1
  have HD1 : Hid (Calls Try.prog 9 #[.pointer (some ⟨WB, 0, none⟩), .agg #[.int .i64 6, .int .i64 1, .int .i64 0, .int .i64 0, .bool false, .int .u32 0, .slice none 0 0, .slice none 0 0]] w6 _) := HD1
  go_wp2_with fail
  refine HD1.out.mono ?_
  rintro e w7 ⟨rfl, p3, X3, vt3, hO3, hS3, hg3, hX3, hx3, he3, hb3, hk3⟩
  have hpk : pk opS.who p2.Xs.length = 1 := by rw [HP2.out.2.2.2.1]; rfl
  rw [hpk, HP2.out.2.2.2.2.2.2.2.1] at hg3
  cases hg3
  rw [hpk, HP2.out.2.2.2.2.2.2.2.2.1, HP2.out.2.2.2.2.2.2.2.2.2.1, HP2.out.2.2.2.2.2.2.2.2.2.2, HP2.out.2.2.2.2.2.1] at hX3
  rw [HP2.out.2.2.2.2.2.2.2.2.1, HP2.out.2.2.2.2.2.2.2.2.2.1, HP2.out.2.2.2.2.2.2.2.2.2.2, HP2.out.2.2.2.2.2.1] at hx3
  have HP3 : Hid (p3.Ok w.heap.size w7 ∧ p3.Same ∧ p3.WB = WB ∧ p3.Xs.length = 2 ∧ p3.es = [] ∧ p3.xs = (stepP [2] [] 1 (List.replicate (2 * 16) 0)).xs ∧ Keeps (fun _ => False) w w7 ∧ p3.Xs[1]? = some ⟨X2.b, X2.vl, vt3, [2], [0], 2⟩) := by
    refine ⟨hO3, hS3, by rw [hb3]; exact HP2.out.2.2.1, by rw [hX3, List.length_set]; exact HP2.out.2.2.2.1, by rw [he3]; exact HP2.out.2.2.2.2.1, hx3, ?_, ?_⟩
    · exact HP2.out.2.2.2.2.2.2.1.trans hk3 (fun k hk e => by have := hk; omega)
    · rw [hX3, List.getElem?_set_self (by rw [HP2.out.2.2.2.1]; omega), step_one.1, step_one.2.1]
  clear hO3 hS3 hX3 hx3 he3 hb3 hk3 HD1 HP2 hpk
  have HD2 := does_stepN p3 w.heap.size opS w7 HP3.out.1 HP3.out.2.1 (by rw [HP3.out.2.2.2.1]; omega) (by rw [HP3.out.2.2.2.1]; omega) (by decide) (by decide) rfl
  rw [opS_vs, HP3.out.2.2.1] at HD2
  have HD2 : Hid (Calls Try.prog 9 #[.pointer (some ⟨WB, 0, none⟩), .agg #[.int .i64 6, .int .i64 1, .int .i64 0, .int .i64 0, .bool false, .int .u32 0, .slice none 0 0, .slice none 0 0]] w7 _) := HD2
  go_wp2_with fail
  refine HD2.out.mono ?_
  rintro e w8 ⟨rfl, p4, X4, vt4, hO4, hS4, hg4, hX4, hx4, he4, hb4, hk4⟩
  have hpk : pk opS.who p3.Xs.length = 1 := by rw [HP3.out.2.2.2.1]; rfl
  rw [hpk, HP3.out.2.2.2.2.2.2.2] at hg4
  cases hg4
  rw [hpk] at hX4
  simp only at hX4
  rw [HP3.out.2.2.2.2.2.1, step_one.2.2] at hX4
  have hlen4 : p4.Xs.length = 2 := by rw [hX4, List.length_set]; exact HP3.out.2.2.2.1
  obtain ⟨lb, lc, X5, Y5, hlv, hX5, hY5, cX, cY, hlc1, hlc2⟩ := hO4.at (i := 1) (by omega)
  have c4 := hO4.blk.cell (i := 4) rfl
  rw [hlv, hlen4] at c4
  rw [hb4, HP3.out.2.2.1] at c4
  have hst5 : X5.st = 0 := by
    rw [hX4, List.getElem?_set_self (by rw [HP3.out.2.2.2.1]; omega)] at hX5
    cases hX5; rfl
  have HAl := all_any X5 w8 ((hO4.cx 1 X5 hX5).1)
  rw [show allB X5 = true by unfold allB; rw [hst5]; rfl] at HAl
  have HP4 : Hid (p4.Ok w.heap.size w8 ∧ p4.Same ∧ p4.WB = WB ∧ p4.Xs.length = 2 ∧ p4.es = [] ∧ Keeps (fun _ => False) w w8) := by
    refine ⟨hO4, hS4, by rw [hb4]; exact HP3.out.2.2.1, hlen4, by rw [he4]; exact HP3.out.2.2.2.2.1, ?_⟩
    exact HP3.out.2.2.2.2.2.2.1.trans hk4 (fun k hk e => by have := hk; omega)
  obtain ⟨xb, hxb⟩ : ∃ xb, xb = X5.b := ⟨_, rfl⟩
  rw [← hxb] at HAl cX
  have HAl : Hid (Calls _ _ _ _ _) := HAl
  have hlcI : (2 : Int) ≤ lc := by omega
  have hlcM : (lc : Int) ≤ 9223372036854775807 := by unfold maxLen at hlc2; omega
  rw [Nat.one_mul] at cX
  clear hO4 hS4 hX4 hx4 he4 hb4 hk4 HD2 HP3 hpk hlen4 hlv hX5 hY5 cY hlc1 hlc2 hst5 hxb
  go_wp2_with fail
  refine HAl.out.mono ?_
  rintro e w9 ⟨rfl, hw⟩
  obtain rfl := hw.symm
  clear hw HAl c4 cX
  go_wp2
  go_ret2
  exact ⟨p4, by rw [HP4.out.2.2.1]; rfl, HP4.out.1, HP4.out.2.1, HP4.out.2.2.2.1, by rw [HP4.out.2.2.2.2.1]; rfl, HP4.out.2.2.2.2.2⟩

end Go.Proofs.Ytadhldpeklkcmaa
