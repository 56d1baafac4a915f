import Derived.Test.YtomjodoimjiceaaDoorIn
namespace Go.Proofs.YtomjodoimjiceaaDoor
open Go.RowKit Go.Shelf
set_option linter.unusedVariables false
set_option linter.unusedSimpArgs false
set_option maxRecDepth 6000

theorem texts_long (room : Int) (a : Option Addr) (L cp : Nat) (w : World) (hL : 2147483647 < (L : Int)) :
    Calls Tryd.prog 3 #[.int .i64 room, .slice a L cp] w fun r w' => r = .returned (.bool true) ∧ Keeps (fun _ => False) w w' := by
  have HK : Hid (Keeps (fun _ => False) w w) := Keeps.refl _ _
  go_enter Tryd.func3, Tryd.ntmps3
  go_wp2
  go_ret
  exact ⟨rfl, HK.out⟩

theorem texts_none (room : Int) (a : Option Addr) (L cp : Nat) (w : World) (hL : ¬ 2147483647 < (L : Int)) (hr : room < 1 ∨ 4096 < room) :
    Calls Tryd.prog 3 #[.int .i64 room, .slice a L cp] w fun r w' => r = .returned (.bool true) ∧ Keeps (fun _ => False) w w' := by
  have H1 : Hid (Calls _ _ _ _ _) := S.new_out room w hr
  have H2 : Hid (Calls _ _ _ _ _) := Q.new_out room w hr
  have H4 : Hid (Calls _ _ _ _ _) := rnew_no room w hr
  have H3 : Hid (Calls _ _ _ _ _) := I.awake_any w
  clear hr
  go_enter Tryd.func3, Tryd.ntmps3
  go_wp2_with fail
  refine H1.out.mono ?_
  rintro e w1 ⟨rfl, hw⟩
  obtain rfl := hw.symm
  clear hw
  go_wp2_with fail
  refine H2.out.mono ?_
  rintro e w1 ⟨rfl, hw⟩
  obtain rfl := hw.symm
  clear hw
  go_wp2_with fail
  refine H4.out.mono ?_
  rintro e w1 ⟨rfl, hw⟩
  obtain rfl := hw.symm
  clear hw
  go_wp2_with fail
  refine H3.out.mono ?_
  rintro e w1 ⟨rfl, hK⟩
  have HK : Hid (Keeps (fun _ => False) w w1) := hK
  clear hK H1 H2 H3 H4
  go_wp2
  go_ret
  exact ⟨rfl, HK.out⟩

/-- Where the play stands. -/
def Tri (w0 : World) (s b t room : Nat) (w : World) : Prop := ∃ P kq H, Es w0.heap.size H w s b room P ∧ Qs w t room H kq ∧ (∀ k, H k → w0.heap.size ≤ k) ∧ Keeps (fun _ => False) w0 w

/-- A list of things comes to lie in new blocks: they are nobody's. -/
theorem Tri.texts {w0 w W : World} {s b t room : Nat} {P : List (ByteArray × S.Lf)} {kq : List (Q.Pr × Value)} {H : Nat → Prop} (h : Es w0.heap.size H w s b room P) (hq : Qs w t room H kq) (hH : ∀ k, H k → w0.heap.size ≤ k) (hK : Keeps (fun _ => False) w0 w) (hW : Keeps (fun _ => False) w W)
    (kind key : Int) (tx : ByteArray) (l : S.Lf) (ht : S.I64 tx) (hl : LfOk l) :
    Calls Tryd.prog 8 #[ptr s, ptr b, .agg #[.int .i64 kind, .int .i64 key, .string tx], l.v] W fun r w' => r = .returned (.bool true) ∧ ∃ P', Es w0.heap.size (fun k => H k ∨ (w.heap.size ≤ k ∧ k < W.heap.size)) w' s b room P' ∧ Qs w' t room H kq ∧ Keeps (fun k => w0.heap.size ≤ k ∧ ¬ (H k ∨ (w.heap.size ≤ k ∧ k < W.heap.size))) W w' := by
  refine (texts_any w0.heap.size s b room _ P kind key tx l W (h.third hW fun _ e => e.elim) ht hl).mono fun r w' h' => ⟨h'.1, ?_⟩
  obtain ⟨P', hP⟩ := h'.2.1
  exact ⟨P', hP, (hq.kept hW fun _ _ e => e).kept h'.2.2 fun k hk e => e.2 (.inl hk), h'.2.2⟩

set_option maxHeartbeats 4000000 in
theorem texts_go (room : Nat) (a : Option Addr) (os : List Opr) (cp : Nat) (w : World) (lo : 1 ≤ room) (hi : room ≤ 4096) (hL : ¬ 2147483647 < (os.length : Int)) (hs : SegO w a os) (hk : ∀ l ∈ os, I.I64 l.key ∧ l.text.size ≤ maxLen) (hT : Tb w) :
    Calls Tryd.prog 3 #[.int .i64 room, .slice a os.length cp] w fun r w' => r = .returned (.bool true) ∧ Keeps (fun _ => False) w w' := by
  have H1 : Hid (Calls _ _ _ _ _) := S.new_any room w lo hi
  have HO : Hid (SegO w a os ∧ (∀ l ∈ os, I.I64 l.key ∧ l.text.size ≤ maxLen) ∧ Tb w ∧ 1 ≤ room ∧ room ≤ 4096) := ⟨hs, hk, hT, lo, hi⟩
  obtain ⟨L, eL⟩ : ∃ L, L = os.length := ⟨_, rfl⟩
  rw [← eL] at hL ⊢
  have HL : Hid (L = os.length) := eL
  have hrm : (room : Int) ≤ 4096 := by omega
  clear lo hi hs hk hT eL
  go_enter Tryd.func3, Tryd.ntmps3
  go_wp2_with fail
  refine H1.out.mono ?_
  rintro e w1 ⟨rfl, ⟨F, hS, hF⟩, hK1⟩
  obtain ⟨s, es⟩ : ∃ s, s = w.heap.size + 1 := ⟨_, rfl⟩
  rw [← es] at hS ⊢
  have H2 : Hid (Calls _ _ _ _ _) := Q.new_any room w1 HO.out.2.2.2.1 HO.out.2.2.2.2
  have HS : Hid (S.Sf w1 s room [] F ∧ (∀ k, F k → w.heap.size ≤ k) ∧ Keeps (fun _ => False) w w1) := ⟨hS, hF, hK1⟩
  clear hS hF hK1 es H1
  go_wp2_with fail
  refine H2.out.mono ?_
  rintro e w2 ⟨rfl, ⟨H, hQ, hH⟩, hK2⟩
  obtain ⟨t, et⟩ : ∃ t, t = w1.heap.size + 1 := ⟨_, rfl⟩
  rw [← et] at hQ ⊢
  have H3 : Hid (Calls _ _ _ _ _) := rnew_yes room w2 HO.out.2.2.2.1 HO.out.2.2.2.2
  have HQ : Hid (Q.Sf w2 t room [] H ∧ (∀ k, H k → w1.heap.size ≤ k) ∧ Keeps (fun _ => False) w1 w2) := ⟨hQ, hH, hK2⟩
  clear hQ hH hK2 et H2
  obtain ⟨b, eb⟩ : ∃ b, b = w2.heap.size := ⟨_, rfl⟩
  rw [← eb] at H3
  have Heb : Hid (b = w2.heap.size) := eb
  clear eb
  go_wp2_with fail
  refine H3.out.mono ?_
  rintro e w3 ⟨rfl, hR, hK3⟩
  have HT0 : Hid (Tri w s b t room w3) := by
    have hp := HO.out.2.2.1.pos
    have h1 := HS.out.2.2
    have h2 := HQ.out.2.2
    have h3 := h1.trans h2 fun _ _ e => e
    have h4 := h3.trans hK3 fun _ _ e => e
    have z1 := h1.size
    have z2 := h2.size
    have z3 := hK3.size
    have eb := Heb.out
    have hbl := hR.lt b rfl
    refine ⟨[], [], H, ⟨⟨F, fun k => k = b, ⟨(HS.out.1.kept h2 fun _ _ e => e).kept hK3 fun _ _ e => e, ⟨_, _, hR⟩, fun k hf e => ?_, HO.out.2.2.1.kept h4 fun e => e, fun k e => ?_, ⟨hp, h4.size⟩, fun k e => ⟨?_, fun hf => ?_, fun e2 => ?_⟩⟩⟩, fun p hp => by cases hp⟩, ⟨HQ.out.1.kept hK3 fun _ _ e => e, fun p hp => by cases hp⟩, fun k e => ?_, h4⟩
    · have := HS.out.1.lt k hf; omega
    · rcases e with e | e
      · exact HS.out.2.1 k e
      · omega
    · have := HQ.out.1.lt k e; omega
    · have := HS.out.1.lt k hf; have := HQ.out.2.1 k e; omega
    · have := HQ.out.1.lt k e; omega
    · have := HQ.out.2.1 k e; omega
  clear hR hK3 H3 HS HQ Heb
  go_wp2_with fail
  go_loopw [11] (fun i wr => ∃ j : Nat, j ≤ L ∧ i = .int .i64 j ∧ Tri w s b t room wr) (fun i _ => L - (intOf i).toNat)
  case atStart => exact ⟨0, by omega, rfl, HT0.out⟩
  case round =>
    clear HT0
    obtain ⟨j, hj, rfl, P, kq, H, hE, hQ, hH, hK⟩ := hrel
    by_cases hlt : j < L
    · obtain ⟨l, hl⟩ : ∃ l, os[j]? = some l := ⟨_, List.getElem?_eq_getElem (by have := HL.out; omega)⟩
      have hlm := HO.out.2.1 l (List.mem_of_getElem? hl)
      rcases HO.out.1 with h0 | ⟨g, o, rfl, hc⟩
      · rw [h0] at hl; simp at hl
      have hA := (hc j l hl).kept hK fun h => h
      obtain ⟨kd, ky, tt⟩ := l
      dsimp only at hlm
      obtain ⟨a0, a1, a2⟩ := hA
      dsimp only at a0 a1 a2
      have hji : (j : Int) < L := by omega
      have hjb : (j : Int) ≤ 2147483647 := by omega
      obtain ⟨W, eW⟩ : ∃ W, W = ((wr.alloc (.cells #[.int .i64 kd, .int .i64 ky, .string tt] 37)).alloc (.cells #[.int .i64 (j : Int), .int .i64 ky] 28)).alloc (.cells #[.int .i64 ky, .int .i64 (tt.size : Int)] 28) := ⟨_, rfl⟩
      have hKW : Keeps (fun _ => False) wr W := by rw [eW]; exact (((Keeps.refl _ wr).alloc _).alloc _).alloc _
      have b1 : Blk W wr.heap.size [.int .i64 kd, .int .i64 ky, .string tt] 37 := by rw [eW]; exact ((Blk.new wr _ 37).alloc _).alloc _
      have b2 : Blk W (wr.heap.size + 1) [.int .i64 (j : Int), .int .i64 ky] 28 := by
        rw [eW, show wr.heap.size + 1 = (wr.alloc (.cells #[.int .i64 kd, .int .i64 ky, .string tt] 37)).heap.size by simp]
        exact (Blk.new _ _ 28).alloc _
      have b3 : Blk W (wr.heap.size + 1 + 1) [.int .i64 ky, .int .i64 (tt.size : Int)] 28 := by
        rw [eW, show wr.heap.size + 1 + 1 = ((wr.alloc (.cells #[.int .i64 kd, .int .i64 ky, .string tt] 37)).alloc (.cells #[.int .i64 (j : Int), .int .i64 ky] 28)).heap.size by simp]
        exact Blk.new _ _ 28
      have HTx : Hid (Calls _ _ _ _ _) := Tri.texts hE hQ hH hK hKW kd ky tt ⟨(j : Int), ky⟩ hlm.2 ⟨⟨by show (-9223372036854775808 : Int) ≤ (j : Int); omega, by show (j : Int) ≤ 9223372036854775807; omega⟩, hlm.1⟩
      have hno : ∀ k, wr.heap.size ≤ k → k < W.heap.size → ¬ (w.heap.size ≤ k ∧ ¬ (H k ∨ (wr.heap.size ≤ k ∧ k < W.heap.size))) := fun k h1 h2 e => e.2 (.inr ⟨h1, h2⟩)
      have HP : Hid (Keeps (fun _ => False) w W ∧ Blk W wr.heap.size [.int .i64 kd, .int .i64 ky, .string tt] 37 ∧ Blk W (wr.heap.size + 1 + 1) [.int .i64 ky, .int .i64 (tt.size : Int)] 28 ∧ (∀ k, wr.heap.size ≤ k → k < W.heap.size → ¬ (w.heap.size ≤ k ∧ ¬ (H k ∨ (wr.heap.size ≤ k ∧ k < W.heap.size)))) ∧ (∀ k, H k → w.heap.size ≤ k) ∧ Q.I64 ⟨ky, (tt.size : Int)⟩ ∧ (∀ k, H k → k < wr.heap.size)) := ⟨hK.trans hKW fun _ _ e => e, b1, b3, hno, hH, ⟨hlm.1, by constructor <;> (have := hlm.2; unfold maxLen at this; dsimp only; omega)⟩, hQ.1.lt⟩
      have HW : Hid (((wr.alloc (.cells #[.int .i64 kd, .int .i64 ky, .string tt] 37)).alloc (.cells #[.int .i64 (j : Int), .int .i64 ky] 28)).alloc (.cells #[.int .i64 ky, .int .i64 (tt.size : Int)] 28) = W) := eW.symm
      have htt : (tt.size : Int) ≤ 9223372036854775807 := by have := hlm.2; unfold maxLen at this; omega
      clear hE hQ hH hK hl hlm hc eW hKW hno b2
      go_wp2_with fail
      rw [HW.out]
      refine HTx.out.mono ?_
      rintro e w4 ⟨rfl, P4, hE4, hQ4, hK4⟩
      have c1 := HP.out.2.1.kept hK4 (HP.out.2.2.2.1 _ (by omega) (HP.out.2.1.lt))
      have c3 := HP.out.2.2.1.kept hK4 (HP.out.2.2.2.1 _ (by omega) (HP.out.2.2.1.lt))
      have o0 := c1.cell (i := 0) rfl
      have o1 := c1.cell (i := 1) rfl
      have o2 := c1.cell (i := 2) rfl
      have p0 := c3.cell (i := 0) rfl
      have p1 := c3.cell (i := 1) rfl
      have HPa : Hid (Calls _ _ _ _ _) := pairs_any t room H kq kd ky tt ⟨ky, (tt.size : Int)⟩ w4 hQ4 HP.out.2.2.2.2.2.1
      have hKw4 : Keeps (fun _ => False) w w4 := HP.out.1.trans hK4 fun k hk e => by have := e.1; omega
      have HE4 : Hid (Es w.heap.size H w4 s b room P4 ∧ Keeps (fun _ => False) w w4) := ⟨hE4.less fun k e => .inl e, hKw4⟩
      clear HTx hE4 hQ4 hK4 c1 c3 hKw4 a0 a1 a2
      go_wp2_with fail
      refine HPa.out.mono ?_
      rintro e w5 ⟨rfl, kq5, H5, hQ5, hH5, hK5⟩
      have HT5 : Hid (Tri w s b t room w5) := by
        refine ⟨P4, kq5, H5, ((HE4.out.1.third hK5 fun k e => ⟨e, HP.out.2.2.2.2.1 k e⟩).less fun k e => ?_), hQ5, fun k e => ?_, HE4.out.2.trans hK5 fun k hk e => by have := HP.out.2.2.2.2.1 k e; omega⟩
        · rcases hH5 k e with e' | e'
          · exact .inl e'
          · exact .inr ⟨e', hQ5.1.lt k e⟩
        · rcases hH5 k e with e' | e'
          · exact HP.out.2.2.2.2.1 k e'
          · exact Nat.le_trans HE4.out.2.size e'
      have HLn : Hid (Calls _ _ _ _ _) := Q.len_any t room kq5 H5 w5 hQ5.1
      have hfit := hQ5.1.fits
      obtain ⟨M, eM⟩ : ∃ M, M = kq5.length := ⟨_, rfl⟩
      rw [← eM] at HLn hfit
      have hMr : (M : Int) ≤ (room : Int) := by omega
      clear HPa hQ5 hH5 hK5 HE4 HP eM hfit o0 o1 o2 p0 p1 HW
      go_wp2_with fail
      refine HLn.out.mono ?_
      rintro e w6 ⟨rfl, hw6⟩
      obtain rfl := hw6.symm
      clear hw6 HLn
      go_wp2
      go_roundw
      case rel => exact ⟨j + 1, by omega, by go_num, HT5.out⟩
      case measure => simp [intOf]; omega
    · obtain rfl : j = L := by omega
      obtain ⟨⟨F, G, hB⟩, -⟩ := hE
      obtain ⟨u, v, hr⟩ := hB.rf
      have h1 := S.len_any s room P F wr hB.sf
      have h2 := rlen_any b room _ _ u v G wr hr
      have e1 : (ksP P).length = P.length := by simp [ksP]
      obtain ⟨M, eM⟩ : ∃ M, M = P.length := ⟨_, rfl⟩
      rw [← eM] at h1
      rw [e1, ← eM] at h2
      have G1 : Hid (Calls _ _ _ _ _) := h1
      have G2 : Hid (Calls _ _ _ _ _) := h2
      have HF : Hid (Keeps (fun _ => False) w wr) := hK
      have hjj : ¬ ((j : Nat) : Int) < (j : Nat) := by omega
      clear hQ hH hK hB hr h1 h2 e1 eM hlt hj
      go_wp2_with fail
      refine G1.out.mono ?_
      rintro e w' ⟨rfl, hw⟩
      obtain rfl := hw.symm
      clear hw
      go_wp2_with fail
      refine G2.out.mono ?_
      rintro e w' ⟨rfl, hw⟩
      obtain rfl := hw.symm
      clear hw G1 G2
      go_wp2
      go_ret
      exact ⟨rfl, HF.out⟩

theorem shelfTexts_any (room : Int) (a : Option Addr) (os : List Opr) (cp : Nat) (w : World) (hs : SegO w a os) (hk : ∀ l ∈ os, I.I64 l.key ∧ l.text.size ≤ maxLen) (hT : Tb w) :
    Calls Tryd.prog 3 #[.int .i64 room, .slice a os.length cp] w fun r w' => r = .returned (.bool true) ∧ Keeps (fun _ => False) w w' := by
  by_cases hL : 2147483647 < (os.length : Int)
  · exact texts_long room a os.length cp w hL
  by_cases hr : room < 1 ∨ 4096 < room
  · exact texts_none room a os.length cp w hL hr
  obtain ⟨n, rfl⟩ := Int.eq_ofNat_of_zero_le (show 0 ≤ room by omega)
  exact texts_go n a os cp w (by omega) (by omega) hL hs hk hT

end Go.Proofs.YtomjodoimjiceaaDoor
