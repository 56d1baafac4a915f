import Derived.Test.YtjadpbkhfclldaaGreatJGe
import Derived.Deep.RegionHeld3
namespace Go.Proofs.YtjadpbkhfclldaaGreat
open Go.RowKit
set_option linter.unusedVariables false
set_option maxRecDepth 6000
set_option linter.unusedSimpArgs false

theorem cText_len (B : List UInt8) (s : CS) : (cText B s).1.size ≤ 255 := by
  unfold cText
  split
  · exact Nat.zero_le _
  · split
    · exact Nat.zero_le _
    · show ((B.drop _).take _).length ≤ 255
      rw [List.length_take]; omega
theorem blk_heap {w : World} {g : Nat} {l : List Value} {t : TypeId} (h : Blk w g l t) : w.heap[g]? = some (.cells l.toArray t (0, 0)) := h
/-- While the document's function has two blocks of its own: its result's, C, and X. -/
structure PSt (w W : World) (C X b g o cap : Nat) (B : List UInt8) (s : CS) (t : TypeId) (z cells : List Value) : Prop where
  cB : Blk W C z t
  xB : Blk W X cells t
  cu : CuS W b g o cap B s
  kp : Keeps (· = b) w W
  lo : C = w.heap.size ∧ C < X ∧ b < C ∧ (B ≠ [] → g < C)
theorem PSt.call {w W W' : World} {C X b g o cap : Nat} {B : List UInt8} {s s' : CS} {t : TypeId} {z cells : List Value} (h : PSt w W C X b g o cap B s t z cells) (hK : Keeps (· = b) W W') (hC : CuS W' b g o cap B s') : PSt w W' C X b g o cap B s' t z cells :=
  ⟨h.cB.kept hK (by have := h.lo; omega), h.xB.kept hK (by have := h.lo; omega), hC, h.kp.trans hK fun _ _ e => e, h.lo⟩
theorem PSt.set {w W : World} {C X b g o cap : Nat} {B : List UInt8} {s : CS} {t : TypeId} {z cells : List Value} (h : PSt w W C X b g o cap B s t z cells) (i : Nat) (v : Value) : PSt w (W.setCell ⟨X, i, none⟩ v) C X b g o cap B s t z (cells.set i v) := by
  have hK : Keeps (· = X) W (W.setCell ⟨X, i, none⟩ v) := (Keeps.refl (· = X) W).setCell _ _ fun _ => rfl
  exact ⟨h.cB.kept hK (by have := h.lo; omega), h.xB.setCell i v, h.cu.keptB hK (by have := h.lo; omega) (fun hn => by have := h.lo.2.2.2 hn; have := h.lo; omega), h.kp.trans hK fun k hk e => by have := h.lo; omega, h.lo⟩
theorem PSt.row {w W : World} {C X b g o cap : Nat} {B : List UInt8} {s : CS} {t : TypeId} {z cells : List Value} (h : PSt w W C X b g o cap B s t z cells) (l : List Value) : PSt w (W.setRow X l.toArray) C X b g o cap B s t z l := by
  have hK : Keeps (· = X) W (W.setRow X l.toArray) := (Keeps.refl (· = X) W).setRow _ _ fun _ => rfl
  exact ⟨h.cB.kept hK (by have := h.lo; omega), h.xB.setRow l, h.cu.keptB hK (by have := h.lo; omega) (fun hn => by have := h.lo.2.2.2 hn; have := h.lo; omega), h.kp.trans hK fun k hk e => by have := h.lo; omega, h.lo⟩
theorem PSt.keepsX {W : World} (X i : Nat) (v : Value) : Keeps (· = X) W (W.setCell ⟨X, i, none⟩ v) := (Keeps.refl (· = X) W).setCell _ _ fun _ => rfl
/-- The end: the result is laid. -/
theorem PSt.end {w W : World} {C X b g o cap : Nat} {B : List UInt8} {s : CS} {t : TypeId} {z cells : List Value} (h : PSt w W C X b g o cap B s t z cells) (l : List Value) : Blk (W.setRow C l.toArray) C l t ∧ CuS (W.setRow C l.toArray) b g o cap B s ∧ Keeps (· = b) w (W.setRow C l.toArray) ∧ Keeps (· = C) W (W.setRow C l.toArray) := by
  have hK : Keeps (· = C) W (W.setRow C l.toArray) := (Keeps.refl (· = C) W).setRow _ _ fun _ => rfl
  exact ⟨h.cB.setRow l, h.cu.keptB hK (by have := h.lo; omega) (fun hn => by have := h.lo.2.2.2 hn; have := h.lo; omega), h.kp.trans hK fun k hk e => by have := h.lo; omega, hK⟩

def CParP (B : List UInt8) (s : CS) (b g o cap N : Nat) (e : Ending) (w' : World) : Prop :=
  ∃ (x : Par) (s' : CS), cPar B s = (x.pure, s') ∧ e = .returned x.v ∧ x.Ok w' ∧ (∀ k ∈ x.bl, N ≤ k ∧ k < w'.heap.size) ∧ CuS w' b g o cap B s'

set_option maxHeartbeats 4000000 in
theorem cpar_any (b g o cap : Nat) (s : CS) (B : List UInt8) (w : World) (h : CuS w b g o cap B s) :
    Calls Tryz.prog 70 #[.pointer (some ⟨b, 0, none⟩)] w fun e w' => CParP B s b g o cap w.heap.size e w' ∧ Keeps (· = b) w w' := by
  obtain ⟨C, hC⟩ : ∃ C, C = w.heap.size := ⟨_, rfl⟩
  have HR : Hid (C = w.heap.size ∧ b < C ∧ (B ≠ [] → g < C)) := ⟨hC, by rw [hC]; exact h.blk.lt, by rw [hC]; exact Cu.gl h⟩
  obtain ⟨SV, s1, he1⟩ : ∃ SV s1, cText B s = (SV, s1) := ⟨_, _, rfl⟩
  have HSV : Hid (SV.size ≤ 255) := by have := cText_len B s; rw [he1] at this; exact this
  have HX1 : Hid (cText B s = (SV, s1)) := he1
  obtain ⟨W0, hW0⟩ : ∃ W0, W0 = w.alloc (.cells #[.string ⟨#[]⟩, .int .i64 0, .int .i64 0, .int .i64 0, .int .i64 0, .int .i64 0, .slice none 0 0, .slice none 0 0] 47) := ⟨_, rfl⟩
  have hB0 : Blk W0 C [.string ⟨#[]⟩, .int .i64 0, .int .i64 0, .int .i64 0, .int .i64 0, .int .i64 0, .slice none 0 0, .slice none 0 0] 47 := by rw [hW0, hC]; exact Blk.new w _ _
  have hK0 : Keeps (fun _ => False) w W0 := by rw [hW0]; exact (Keeps.refl _ w).alloc _
  have hC0 : CuS W0 b g o cap B s := h.keptB hK0 (fun e => e) (fun _ e => e)
  have HT : Hid (Calls _ _ _ _ _) := ctext_any b g o cap s B W0 hC0
  rw [he1] at HT
  have H0 : Hid (Blk W0 C [.string ⟨#[]⟩, .int .i64 0, .int .i64 0, .int .i64 0, .int .i64 0, .int .i64 0, .slice none 0 0, .slice none 0 0] 47 ∧ Keeps (· = b) w W0 ∧ w.alloc (.cells #[.string ⟨#[]⟩, .int .i64 0, .int .i64 0, .int .i64 0, .int .i64 0, .int .i64 0, .slice none 0 0, .slice none 0 0] 47) = W0) := ⟨hB0, hK0.mono fun _ _ e => e.elim, hW0.symm⟩
  clear h hB0 hK0 hC0 hC hW0 he1
  go_enter Tryz.func70, Tryz.ntmps70
  go_wp2_with fail
  rw [H0.out.2.2, ← HR.out.1]
  refine HT.out.mono ?_
  rintro e W1 ⟨rfl, hC1, hK1⟩
  obtain ⟨X, hX⟩ : ∃ X, X = W1.heap.size := ⟨_, rfl⟩
  have hb1 : Blk W1 C [.string ⟨#[]⟩, .int .i64 0, .int .i64 0, .int .i64 0, .int .i64 0, .int .i64 0, .slice none 0 0, .slice none 0 0] 47 := H0.out.1.kept hK1 (by have := HR.out.2.1; omega)
  obtain ⟨W2, hW2⟩ : ∃ W2, W2 = W1.alloc (.cells #[.string ⟨#[]⟩, .int .i64 0, .int .i64 0, .int .i64 0, .int .i64 0, .int .i64 0, .slice none 0 0, .slice none 0 0] 47) := ⟨_, rfl⟩
  have hb2 : Blk W2 X [.string ⟨#[]⟩, .int .i64 0, .int .i64 0, .int .i64 0, .int .i64 0, .int .i64 0, .slice none 0 0, .slice none 0 0] 47 := by rw [hW2, hX]; exact Blk.new W1 _ _
  have hK2 : Keeps (fun _ => False) W1 W2 := by rw [hW2]; exact (Keeps.refl _ W1).alloc _
  have hP2 : PSt w W2 C X b g o cap B s1 47 [.string ⟨#[]⟩, .int .i64 0, .int .i64 0, .int .i64 0, .int .i64 0, .int .i64 0, .slice none 0 0, .slice none 0 0] [.string ⟨#[]⟩, .int .i64 0, .int .i64 0, .int .i64 0, .int .i64 0, .int .i64 0, .slice none 0 0, .slice none 0 0] := ⟨hb1.kept hK2 (fun e => e), hb2, hC1.keptB hK2 (fun e => e) (fun _ e => e), (H0.out.2.1.trans hK1 fun _ _ e => e).trans hK2 fun _ _ e => e.elim, HR.out.1, by rw [hX]; exact hb1.lt, HR.out.2⟩
  have HB2 : Hid (Blk (W1.alloc (.cells #[.string ⟨#[]⟩, .int .i64 0, .int .i64 0, .int .i64 0, .int .i64 0, .int .i64 0, .slice none 0 0, .slice none 0 0] 47)) W1.heap.size [.string ⟨#[]⟩, .int .i64 0, .int .i64 0, .int .i64 0, .int .i64 0, .int .i64 0, .slice none 0 0, .slice none 0 0] 47) := Blk.new W1 _ _
  have HQ2 : Hid ((W1.alloc (.cells #[.string ⟨#[]⟩, .int .i64 0, .int .i64 0, .int .i64 0, .int .i64 0, .int .i64 0, .slice none 0 0, .slice none 0 0] 47)).setRow W1.heap.size #[.string SV, .int .i64 0, .int .i64 0, .int .i64 0, .int .i64 0, .int .i64 0, .slice none 0 0, .slice none 0 0] = W2.setRow X #[.string SV, .int .i64 0, .int .i64 0, .int .i64 0, .int .i64 0, .int .i64 0, .slice none 0 0, .slice none 0 0]) := by rw [hW2, hX]; rfl
  have hP3 := hP2.row [.string SV, .int .i64 0, .int .i64 0, .int .i64 0, .int .i64 0, .int .i64 0, .slice none 0 0, .slice none 0 0]
  obtain ⟨W3, hW3⟩ : ∃ W3, W3 = W2.setRow X #[.string SV, .int .i64 0, .int .i64 0, .int .i64 0, .int .i64 0, .int .i64 0, .slice none 0 0, .slice none 0 0] := ⟨_, rfl⟩
  have HP3 : Hid (PSt w W3 C X b g o cap B s1 47 [.string ⟨#[]⟩, .int .i64 0, .int .i64 0, .int .i64 0, .int .i64 0, .int .i64 0, .slice none 0 0, .slice none 0 0] [.string SV, .int .i64 0, .int .i64 0, .int .i64 0, .int .i64 0, .int .i64 0, .slice none 0 0, .slice none 0 0]) := by rw [hW3]; exact hP3
  have HXX : Hid (X = W1.heap.size) := hX
  have HH : Hid (W1.heap.size = X ∧ W2.setRow X #[.string SV, .int .i64 0, .int .i64 0, .int .i64 0, .int .i64 0, .int .i64 0, .slice none 0 0, .slice none 0 0] = W3) := ⟨hX.symm, hW3.symm⟩
  clear hC1 hK1 hb1 hb2 hK2 hP2 hP3 hW2 hW3 hX HT
  obtain ⟨V2, s2, he2, hv2⟩ := cNum4 B s1
  have HN2 : Hid (Calls _ _ _ _ _) := num_call HP3.out.cu (by omega) he2
  go_wp2_with (refine wpList_store_row rfl 47 (.tmp 3) (.tmp 6) rfl W1.heap.size #[.string SV, .int .i64 0, .int .i64 0, .int .i64 0, .int .i64 0, .int .i64 0, .slice none 0 0, .slice none 0 0] rfl rfl 47 _ HB2.out Tryz.size47 rfl (all69 ..) ?_; rw [HQ2.out])
  rw [HH.out.1, HH.out.2]
  refine HN2.out.mono ?_
  rintro e Y2 ⟨rfl, hC2, hK2⟩
  have hP2 := HP3.out.call hK2 hC2
  have x2 := hP2.xB.cell (i := 1) rfl
  have f2 := hP2.xB.frozen 1
  obtain ⟨W4, hW4⟩ : ∃ W4, W4 = Y2.setCell ⟨X, 1, none⟩ (.int .i64 V2) := ⟨_, rfl⟩
  have HP4 : Hid (PSt w W4 C X b g o cap B s2 47 [.string ⟨#[]⟩, .int .i64 0, .int .i64 0, .int .i64 0, .int .i64 0, .int .i64 0, .slice none 0 0, .slice none 0 0] [.string SV, .int .i64 (V2 : Int), .int .i64 0, .int .i64 0, .int .i64 0, .int .i64 0, .slice none 0 0, .slice none 0 0]) := by rw [hW4]; exact hP2.set 1 (.int .i64 V2)
  have HE2 : Hid (cInt B s1 = ((V2 : Int), s2)) := by unfold Hid cInt; rw [he2]
  clear hC2 hK2 hP2 HP3 HN2 he2
  obtain ⟨V3, s3, he3, hv3⟩ := cNum4 B s2
  have HN3 : Hid (Calls _ _ _ _ _) := num_call HP4.out.cu (by omega) he3
  go_wp2_with fail
  rw [← hW4]
  clear hW4 x2 f2
  refine HN3.out.mono ?_
  rintro e Y3 ⟨rfl, hC3, hK3⟩
  have hP3 := HP4.out.call hK3 hC3
  have x3 := hP3.xB.cell (i := 2) rfl
  have f3 := hP3.xB.frozen 2
  obtain ⟨W5, hW5⟩ : ∃ W5, W5 = Y3.setCell ⟨X, 2, none⟩ (.int .i64 V3) := ⟨_, rfl⟩
  have HP5 : Hid (PSt w W5 C X b g o cap B s3 47 [.string ⟨#[]⟩, .int .i64 0, .int .i64 0, .int .i64 0, .int .i64 0, .int .i64 0, .slice none 0 0, .slice none 0 0] [.string SV, .int .i64 (V2 : Int), .int .i64 (V3 : Int), .int .i64 0, .int .i64 0, .int .i64 0, .slice none 0 0, .slice none 0 0]) := by rw [hW5]; exact hP3.set 2 (.int .i64 V3)
  have HE3 : Hid (cInt B s2 = ((V3 : Int), s3)) := by unfold Hid cInt; rw [he3]
  clear hC3 hK3 hP3 HP4 HN3 he3
  obtain ⟨V4, s4, he4, hv4⟩ := cNum4 B s3
  have HN4 : Hid (Calls _ _ _ _ _) := num_call HP5.out.cu (by omega) he4
  go_wp2_with fail
  rw [← hW5]
  clear hW5 x3 f3
  refine HN4.out.mono ?_
  rintro e Y4 ⟨rfl, hC4, hK4⟩
  have hP4 := HP5.out.call hK4 hC4
  have x4 := hP4.xB.cell (i := 3) rfl
  have f4 := hP4.xB.frozen 3
  obtain ⟨W6, hW6⟩ : ∃ W6, W6 = Y4.setCell ⟨X, 3, none⟩ (.int .i64 V4) := ⟨_, rfl⟩
  have HP6 : Hid (PSt w W6 C X b g o cap B s4 47 [.string ⟨#[]⟩, .int .i64 0, .int .i64 0, .int .i64 0, .int .i64 0, .int .i64 0, .slice none 0 0, .slice none 0 0] [.string SV, .int .i64 (V2 : Int), .int .i64 (V3 : Int), .int .i64 (V4 : Int), .int .i64 0, .int .i64 0, .slice none 0 0, .slice none 0 0]) := by rw [hW6]; exact hP4.set 3 (.int .i64 V4)
  have HE4 : Hid (cInt B s3 = ((V4 : Int), s4)) := by unfold Hid cInt; rw [he4]
  clear hC4 hK4 hP4 HP5 HN4 he4
  obtain ⟨V5, s5, he5, hv5⟩ := cNum4 B s4
  have HN5 : Hid (Calls _ _ _ _ _) := num_call HP6.out.cu (by omega) he5
  go_wp2_with fail
  rw [← hW6]
  clear hW6 x4 f4
  refine HN5.out.mono ?_
  rintro e Y5 ⟨rfl, hC5, hK5⟩
  have hP5 := HP6.out.call hK5 hC5
  have x5 := hP5.xB.cell (i := 4) rfl
  have f5 := hP5.xB.frozen 4
  obtain ⟨W7, hW7⟩ : ∃ W7, W7 = Y5.setCell ⟨X, 4, none⟩ (.int .i64 V5) := ⟨_, rfl⟩
  have HP7 : Hid (PSt w W7 C X b g o cap B s5 47 [.string ⟨#[]⟩, .int .i64 0, .int .i64 0, .int .i64 0, .int .i64 0, .int .i64 0, .slice none 0 0, .slice none 0 0] [.string SV, .int .i64 (V2 : Int), .int .i64 (V3 : Int), .int .i64 (V4 : Int), .int .i64 (V5 : Int), .int .i64 0, .slice none 0 0, .slice none 0 0]) := by rw [hW7]; exact hP5.set 4 (.int .i64 V5)
  have HE5 : Hid (cInt B s4 = ((V5 : Int), s5)) := by unfold Hid cInt; rw [he5]
  clear hC5 hK5 hP5 HP6 HN5 he5
  obtain ⟨V6, s6, he6, hv6⟩ := cNum4 B s5
  have HN6 : Hid (Calls _ _ _ _ _) := num_call HP7.out.cu (by omega) he6
  go_wp2_with fail
  rw [← hW7]
  clear hW7 x5 f5
  refine HN6.out.mono ?_
  rintro e Y6 ⟨rfl, hC6, hK6⟩
  have hP6 := HP7.out.call hK6 hC6
  have x6 := hP6.xB.cell (i := 5) rfl
  have f6 := hP6.xB.frozen 5
  obtain ⟨W8, hW8⟩ : ∃ W8, W8 = Y6.setCell ⟨X, 5, none⟩ (.int .i64 V6) := ⟨_, rfl⟩
  have HP8 : Hid (PSt w W8 C X b g o cap B s6 47 [.string ⟨#[]⟩, .int .i64 0, .int .i64 0, .int .i64 0, .int .i64 0, .int .i64 0, .slice none 0 0, .slice none 0 0] [.string SV, .int .i64 (V2 : Int), .int .i64 (V3 : Int), .int .i64 (V4 : Int), .int .i64 (V5 : Int), .int .i64 (V6 : Int), .slice none 0 0, .slice none 0 0]) := by rw [hW8]; exact hP6.set 5 (.int .i64 V6)
  have HE6 : Hid (cInt B s5 = ((V6 : Int), s6)) := by unfold Hid cInt; rw [he6]
  clear hC6 hK6 hP6 HP7 HN6 he6
  have HN7 : Hid (Calls _ _ _ _ _) := cRgns_any b g o cap s6 B W8 HP8.out.cu
  go_wp2_with fail
  rw [← hW8]
  clear hW8 x6 f6
  refine HN7.out.mono ?_
  rintro e Y7 ⟨⟨l7, s7, ad7, cp7, he7, rfl, hL7, hC7⟩, hK7⟩
  obtain ⟨N7, hN7⟩ : ∃ N7, l7.length = N7 := ⟨_, rfl⟩
  rw [hN7]
  have hP7 := HP8.out.call hK7 hC7
  have x7 := hP7.xB.cell (i := 6) rfl
  have f7 := hP7.xB.frozen 6
  obtain ⟨W9, hW9⟩ : ∃ W9, W9 = Y7.setCell ⟨X, 6, none⟩ (.slice ad7 N7 cp7) := ⟨_, rfl⟩
  have HP9 : Hid (PSt w W9 C X b g o cap B s7 47 [.string ⟨#[]⟩, .int .i64 0, .int .i64 0, .int .i64 0, .int .i64 0, .int .i64 0, .slice none 0 0, .slice none 0 0] [.string SV, .int .i64 (V2 : Int), .int .i64 (V3 : Int), .int .i64 (V4 : Int), .int .i64 (V5 : Int), .int .i64 (V6 : Int), .slice ad7 N7 cp7, .slice none 0 0]) := by rw [hW9]; exact hP7.set 6 (.slice ad7 N7 cp7)
  have hX8 : X < W8.heap.size := HP8.out.xB.lt
  have HL9 : Hid (Lst eRgn W9 W8.heap.size ad7 cp7 l7 ∧ X < W8.heap.size) := ⟨by rw [hW9]; exact hL7.kept (PSt.keepsX X 6 _) (fun k e => by omega), hX8⟩
  have HM7 : Hid (l7.length = N7 ∧ cList B (cRgn B) s6 = (l7, s7)) := ⟨hN7, he7⟩
  have HN8 : Hid (Calls _ _ _ _ _) := cPrts_any b g o cap s7 B W9 HP9.out.cu
  clear hC7 hK7 hP7 HP8 HN7 he7 hL7 hN7 hX8
  go_wp2_with fail
  rw [← hW9]
  clear hW9 x7 f7
  refine HN8.out.mono ?_
  rintro e Y8 ⟨⟨l8, s8, ad8, cp8, he8, rfl, hL8, hC8⟩, hK8⟩
  obtain ⟨N8, hN8⟩ : ∃ N8, l8.length = N8 := ⟨_, rfl⟩
  rw [hN8]
  have hP8 := HP9.out.call hK8 hC8
  have x8 := hP8.xB.cell (i := 7) rfl
  have f8 := hP8.xB.frozen 7
  obtain ⟨W10, hW10⟩ : ∃ W10, W10 = Y8.setCell ⟨X, 7, none⟩ (.slice ad8 N8 cp8) := ⟨_, rfl⟩
  have HP10 : Hid (PSt w W10 C X b g o cap B s8 47 [.string ⟨#[]⟩, .int .i64 0, .int .i64 0, .int .i64 0, .int .i64 0, .int .i64 0, .slice none 0 0, .slice none 0 0] [.string SV, .int .i64 (V2 : Int), .int .i64 (V3 : Int), .int .i64 (V4 : Int), .int .i64 (V5 : Int), .int .i64 (V6 : Int), .slice ad7 N7 cp7, .slice ad8 N8 cp8]) := by rw [hW10]; exact hP8.set 7 (.slice ad8 N8 cp8)
  have hX9 : X < W9.heap.size := HP9.out.xB.lt
  have hb9 : b < X := by have := HP9.out.lo; omega
  have HL10 : Hid (Lst ePrt W10 W9.heap.size ad8 cp8 l8 ∧ Lst eRgn W10 W8.heap.size ad7 cp7 l7 ∧ X < W9.heap.size ∧ X < W8.heap.size) := by
    have h8 := HL9.out.2
    refine ⟨?_, ?_, hX9, h8⟩
    · rw [hW10]; exact hL8.kept (PSt.keepsX X 7 _) (fun k e => by omega)
    · rw [hW10]; exact (HL9.out.1.kept hK8 (fun k e => by omega)).kept (PSt.keepsX X 7 _) (fun k e => by omega)
  have HM8 : Hid (l8.length = N8 ∧ cList B (cPrt B) s7 = (l8, s8)) := ⟨hN8, he8⟩
  have HE10 := HP10.out.end [.string SV, .int .i64 (V2 : Int), .int .i64 (V3 : Int), .int .i64 (V4 : Int), .int .i64 (V5 : Int), .int .i64 (V6 : Int), .slice ad7 N7 cp7, .slice ad8 N8 cp8]
  obtain ⟨W11, hW11⟩ : ∃ W11, W11 = W10.setRow C #[.string SV, .int .i64 (V2 : Int), .int .i64 (V3 : Int), .int .i64 (V4 : Int), .int .i64 (V5 : Int), .int .i64 (V6 : Int), .slice ad7 N7 cp7, .slice ad8 N8 cp8] := ⟨_, rfl⟩
  have HF : Hid (Blk W11 C [.string SV, .int .i64 (V2 : Int), .int .i64 (V3 : Int), .int .i64 (V4 : Int), .int .i64 (V5 : Int), .int .i64 (V6 : Int), .slice ad7 N7 cp7, .slice ad8 N8 cp8] 47 ∧ CuS W11 b g o cap B s8 ∧ Keeps (· = b) w W11 ∧ Keeps (· = C) W10 W11) := by rw [hW11]; exact HE10
  have HXB : Hid (Blk (Y8.setCell ⟨X, 7, none⟩ (.slice ad8 N8 cp8)) X [.string SV, .int .i64 (V2 : Int), .int .i64 (V3 : Int), .int .i64 (V4 : Int), .int .i64 (V5 : Int), .int .i64 (V6 : Int), .slice ad7 N7 cp7, .slice ad8 N8 cp8] 47) := by rw [← hW10]; exact HP10.out.xB
  have HCB : Hid (Blk (Y8.setCell ⟨X, 7, none⟩ (.slice ad8 N8 cp8)) C [.string ⟨#[]⟩, .int .i64 0, .int .i64 0, .int .i64 0, .int .i64 0, .int .i64 0, .slice none 0 0, .slice none 0 0] 47) := by rw [← hW10]; exact HP10.out.cB
  have HCX : Hid (C < X) := HP10.out.lo.2.1
  clear hC8 hK8 hP8 HP9 HN8 he8 hL8 hN8 hX9 HE10 HP10 hb9 HL9
  go_wp2_with (first
    | (refine wpList_load_row rfl 47 (.tmp 3) rfl X rfl 47 _ (0, 0) _ HXB.out Tryz.underlying47 rfl Tryz.size47 ?_)
    | (refine wpList_store_row rfl 47 (.tmp 2) (.tmp 28) rfl C #[.string SV, .int .i64 (V2 : Int), .int .i64 (V3 : Int), .int .i64 (V4 : Int), .int .i64 (V5 : Int), .int .i64 (V6 : Int), .slice ad7 N7 cp7, .slice ad8 N8 cp8] (by rfl) (by rfl) 47 _ HCB.out Tryz.size47 rfl (all69 ..) ?_))
  rw [← hW10, ← hW11]
  refine bodyPost_ret (results_cell_row rfl _ _ C 47 _ (0, 0) _ rfl HF.out.1 Tryz.underlying47 rfl (by kernel_rfl)) rfl ?_
  have hns : ∀ m ∈ ([(V2 : Int), V3, V4, V5, V6] : List Int), I64 m := by
    intro m hm
    simp only [List.mem_cons, List.not_mem_nil, or_false] at hm
    rcases hm with rfl | rfl | rfl | rfl | rfl <;> (unfold I64; omega)
  obtain ⟨hl8, hl7, hx9, hx8⟩ := HL10.out
  have hC := HR.out.1
  have hcx := HCX.out
  have q7 := hl7.kept HF.out.2.2.2 (fun k e => by omega)
  have q8 := hl8.kept HF.out.2.2.2 (fun k e => by omega)
  refine ⟨⟨⟨SV, V2, V3, V4, V5, V6, ad7, cp7, l7, ad8, cp8, l8⟩, s8, ?_, ?_, ⟨q7.seg, q7.len, q7.ok, q8.seg, q8.len, q8.ok, hns, ?_⟩, ?_, HF.out.2.1⟩, HF.out.2.2.1⟩
  · show cPar B s = _
    unfold cPar cBind Par.pure
    simp only [HX1.out, HE2.out, HE3.out, HE4.out, HE5.out, HE6.out, HM7.out.2, HM8.out.2]
  · rw [← HM7.out.1, ← HM8.out.1]
  · have := HSV.out; show SV.size ≤ _; omega
  · intro k hk
    rcases List.mem_append.1 hk with hk | hk
    · obtain ⟨h1, y, h2, rfl⟩ := blk1_mem.1 hk
      exact ⟨Nat.le_trans (by omega) (q7.low h1 y h2), q7.blk h1 y h2⟩
    · obtain ⟨h1, y, h2, rfl⟩ := blk1_mem.1 hk
      exact ⟨Nat.le_trans (by omega) (q8.low h1 y h2), q8.blk h1 y h2⟩
end Go.Proofs.YtjadpbkhfclldaaGreat
namespace Go.Proofs.YtjadpbkhfclldaaGreat
open Go.RowKit
set_option linter.unusedVariables false
set_option maxRecDepth 6000

theorem step_append_run {P : Program} {w : World} {ops : Array Oper} {o : Oper} {a : Act} {K : Act → World → Prop} {Q : Exit → Act → World → Prop} {E : Prop} (hgd : o.guard = none) (s x : Operand) (t k : TypeId)
    (ho : o.op = .call { callee := .builtin .append, args := #[s, x], argTypes := #[t, k] }) (vs vx v' : Value) (w' : World) (hs : a.eval s = vs) (hx : a.eval x = vx)
    (hr : ∀ ty, (Builtin.append_ #[t, k] ty #[vs, vx]).run P w = .ok v' w') (h : K (a.put o.dst v') w') : if Region.wanted o (yielded ops a.tmps) = true then Oper.wp P o a w K Q else E := by
  have hw : Region.wanted o (yielded ops a.tmps) = true := by simp [Region.wanted, hgd]
  rw [if_pos hw]
  unfold Oper.wp execOp
  simp only [ho, resolve, invoke, builtin, Sem.run_bind, Sem.run_pure, Result.andThen_ok, List.map_toArray, List.map_cons, List.map_nil, hs, hx, hr]
  exact h

theorem Row.lt {α : Type} {E : Elem α} {w : World} {lo : Nat} {u : Value} {xs : List α} (h : Row E w lo u xs) (k : Nat) (e : u.ownBlock = some k) : k < w.heap.size := by
  rcases h.own.2 with ⟨h2, _⟩ | ⟨gg, cap, cur, h2, _, h3, _⟩
  · rw [h2] at e; cases e
  · rw [h2] at e; cases e; exact (Array.getElem?_eq_some_iff.1 h3).1

theorem row_app {α : Type} {E : Elem α} {w : World} {lo : Nat} {u : Value} {l : List α} {x : α} (t : TypeId) (i : TypeInfo) (z : Value) (bytes : Nat) (ht : Tryz.prog.underlying t = some (.slice E.ety)) (hi : Tryz.prog.info? E.ety = some i) (hz : i.zero = some z)
    (hs : i.size = E.k) (hb : i.bytes = bytes) (hzs : z.cells.size = E.k) (hby : bytes ≤ 1000) (hRow : Row E w lo u l) (hok : E.Ok w x) (hbl : ∀ k ∈ E.bl x, lo ≤ k ∧ k < w.heap.size ∧ u.ownBlock ≠ some k) (hlo : lo ≤ w.heap.size) (h1 : ∀ v ∈ E.vs x, v.oneCell' = true) (hl : l.length < 256) :
    ∃ v' W', (∀ ty, (Builtin.append_ #[t, t] ty #[u, .slice (some ⟨w.heap.size, 0, none⟩) 1 1]).run Tryz.prog (w.alloc (.cells (E.vs x).toArray E.ety)) = .ok v' W') ∧ Row E W' lo v' (l ++ [x]) ∧ Keeps (fun k => some k = u.ownBlock) w W' := by
  have hmul : (l.length + 1) * bytes ≤ 256 * 1000 := Nat.mul_le_mul (by omega) hby
  obtain ⟨v', W', happ, hown', hfr', hKa⟩ := append_new t E.ety i z E.k bytes ht hi hz hs hb hzs E.pos u l.length (l.flatMap E.vs) hRow.own (E.vs x).toArray (by simp [E.len]) (by simpa using h1) (by unfold maxLen; omega) (by omega)
  exact ⟨v', W', happ, hRow.push hok hbl hlo hown' hfr' hKa, hKa⟩

/-- A list that was read, all below hi. -/
structure LstH {α : Type} (E : Elem α) (w : World) (lo hi : Nat) (ad : Option Addr) (cp : Nat) (l : List α) : Prop where
  ls : Lst E w lo ad cp l
  ah : l ≠ [] → ∀ y, ad = some y → y.block < hi
  bh : ∀ x ∈ l, ∀ k ∈ E.bl x, k < hi
theorem Lst.h {α : Type} {E : Elem α} {w : World} {lo : Nat} {ad : Option Addr} {cp : Nat} {l : List α} (h : Lst E w lo ad cp l) : LstH E w lo w.heap.size ad cp l := ⟨h, fun hn y hy => h.blk hn y hy, fun x hx k hk => (h.bl x hx k hk).2⟩
theorem LstH.kept {α : Type} {E : Elem α} {S : Nat → Prop} {w w' : World} {lo hi cp : Nat} {ad : Option Addr} {l : List α} (h : LstH E w lo hi ad cp l) (hK : Keeps S w w') (hS : ∀ k, S k → k < lo ∨ hi ≤ k) : LstH E w' lo hi ad cp l :=
  ⟨⟨h.ls.seg.kept hK fun hn y hy hs => by have := h.ls.low hn y hy; have := h.ah hn y hy; have := hS _ hs; omega, h.ls.len, h.ls.low, fun x hx => E.kept (h.ls.ok x hx) hK fun k hk hs => by have := (h.ls.bl x hx k hk).1; have := h.bh x hx k hk; have := hS k hs; omega,
    fun x hx k hk => ⟨(h.ls.bl x hx k hk).1, Nat.lt_of_lt_of_le (h.ls.bl x hx k hk).2 hK.size⟩⟩, h.ah, h.bh⟩

theorem PSt.up {S : Nat → Prop} {w W W' : World} {C X b g o cap : Nat} {B : List UInt8} {s : CS} {t : TypeId} {z cells : List Value} (h : PSt w W C X b g o cap B s t z cells) (hK : Keeps S W W') (hS : ∀ k, S k → X < k) : PSt w W' C X b g o cap B s t z cells := by
  have hl := h.lo
  exact ⟨h.cB.kept hK (fun e => by have := hS _ e; omega), h.xB.kept hK (fun e => by have := hS _ e; omega), h.cu.keptB hK (fun e => by have := hS _ e; omega) (fun hn e => by have := hS _ e; have := hl.2.2.2 hn; omega), h.kp.trans hK fun k hk e => by have := hS k e; omega, h.lo⟩

/-- What was read is appended to the list in the field. -/
theorem elem_push {α : Type} {E : Elem α} (t : TypeId) (ti : TypeInfo) (z : Value) (bytes : Nat) (ht : Tryz.prog.underlying t = some (.slice E.ety)) (hi : Tryz.prog.info? E.ety = some ti) (hz : ti.zero = some z) (hs : ti.size = E.k) (hb : ti.bytes = bytes) (hzs : z.cells.size = E.k) (hby : bytes ≤ 1000)
    {w wr w4 : World} {C X b g o cap lo : Nat} {B : List UInt8} {s s4 : CS} {zs cells : List Value} {u : Value} {l : List α} {x : α} (i : Nat) (hc : cells[i]? = some u) (hP : PSt w wr C X b g o cap B s 26 zs cells) (hRow : Row E wr lo u l) (hX : X < lo ∧ lo ≤ wr.heap.size) (hl : l.length < 256)
    (hK : Keeps (· = b) wr w4) (hC : CuS w4 b g o cap B s4) (hok : E.Ok w4 x) (hbl : ∀ k ∈ E.bl x, wr.heap.size ≤ k ∧ k < w4.heap.size) (h1 : ∀ v ∈ E.vs x, v.oneCell' = true) :
    ∃ v' W', (∀ ty, (Builtin.append_ #[t, t] ty #[u, .slice (some ⟨w4.heap.size, 0, none⟩) 1 1]).run Tryz.prog (w4.alloc (.cells (E.vs x).toArray E.ety)) = .ok v' W') ∧ PSt w (W'.setCell ⟨X, i, none⟩ v') C X b g o cap B s4 26 zs (cells.set i v') ∧
      Row E (W'.setCell ⟨X, i, none⟩ v') lo v' (l ++ [x]) ∧ Blk W' X cells 26 ∧ Keeps (fun k => k ≤ X ∨ lo ≤ k) wr (W'.setCell ⟨X, i, none⟩ v') ∧ lo ≤ (W'.setCell ⟨X, i, none⟩ v').heap.size := by
  have hlo := hP.lo
  have hsz := hK.size
  have hRow4 := hRow.kept hK (fun k e => by omega)
  obtain ⟨v', W', happ, hR', hKa⟩ := row_app t ti z bytes ht hi hz hs hb hzs hby hRow4 hok (fun k hk => ⟨by have := hbl k hk; omega, (hbl k hk).2, fun e => by have := hRow.lt k e; have := hbl k hk; omega⟩) (by omega) h1 hl
  have hS : ∀ k, some k = u.ownBlock → X < k := fun k e => by have := hRow.low k e.symm; omega
  have hP' := (hP.call hK hC).up hKa hS
  have hK1 : Keeps (· = X) W' (W'.setCell ⟨X, i, none⟩ v') := PSt.keepsX X i v'
  refine ⟨v', W', happ, hP'.set i v', hR'.kept hK1 (fun k e => by omega), hP'.xB, ?_, ?_⟩
  · exact ((hK.mono fun k _ e => Or.inl (by omega)).trans hKa fun k _ e => Or.inr (hRow.low k e.symm)).trans hK1 fun k _ e => Or.inl (by omega)
  · have := hKa.size; have := hK1.size; omega
end Go.Proofs.YtjadpbkhfclldaaGreat
