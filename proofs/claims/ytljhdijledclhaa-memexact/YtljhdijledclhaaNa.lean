import Derived.Test.YtljhdijledclhaaWa
namespace Go.Proofs.Ytljhdijledclhaa
open Go.RowKit
set_option linter.unusedVariables false
set_option linter.unusedSimpArgs false

/-- The first pair's cell, in any world in which nothing old was changed. -/
theorem Game.first {w0 w : World} {X T : Nat} (h : Game w0 w X T) : ∃ (L lb lc b : Nat), 1 ≤ L ∧ (L : Int) ≤ 12 ∧ ∀ w', Keeps (fun _ => False) w w' → w'.cell? ⟨X, 0, none⟩ = some (.slice (some ⟨lb, 0, none⟩) L lc) ∧ w'.cell? ⟨lb, 0, none⟩ = some (.pointer (some ⟨b, 0, none⟩)) := by
  obtain ⟨s, g, hH, hR, hS, rfl⟩ := h.out
  obtain ⟨p, hp⟩ : ∃ p, g.P[0]? = some p := ⟨_, List.getElem?_eq_getElem hS.p1⟩
  have hr := (hH.row hR.rl).1
  obtain ⟨la, lc, hsl, -, -⟩ := owns_slice hr
  rw [hsl] at hr
  obtain ⟨lb, e1, d1⟩ := owns_cellK hr (pvs_get g.P 0 p hp).1
  have hx := (hH.blk hR.x).1.cell (i := 0) rfl
  rw [hsl, e1] at hx
  exact ⟨g.P.length, lb, lc, p.b, hS.p1, by have := hS.p12; omega, fun w' hK => ⟨cell_kept hx hK (fun e => e), cell_kept d1 hK (fun e => e)⟩⟩

theorem Game.quiet {w0 w w' : World} {X T : Nat} (h : Game w0 w X T) (hK : Keeps (fun _ => False) w w') : Game w0 w' X T := by
  obtain ⟨s, g, hH, hR, hS, hX⟩ := h.out
  exact ⟨s, g, hH.quiet hK, hR, hS, hX⟩

/-- Differ, one of the two nil, gone through. -/
theorem differ_nul (p1 p2 : Option Addr) (w : World) (h : p1 = none ∨ (∃ x, p1 = some x) ∧ p2 = none) :
    Calls Try.prog 22 #[.pointer p1, .pointer p2] w fun e w1 => ∃ B1 B2, e = .returned (.func (.func 54) #[] #[.pointer (some ⟨B1, 0, none⟩), .pointer (some ⟨B2, 0, none⟩)]) ∧ Keeps (fun _ => False) w w1 ∧
      Hid (Calls Try.prog 24 #[.func (.func 54) #[] #[.pointer (some ⟨B1, 0, none⟩), .pointer (some ⟨B2, 0, none⟩)], .int .i64 2] w1 fun e w2 => e = .returned (.slice none 0 0) ∧ Keeps (fun _ => False) w w2) := by
  refine (differ_any p1 p2 w).mono ?_
  rintro e w1 ⟨rfl, hw1⟩
  have hK : Keeps (fun _ => False) w w1 := by rw [hw1]; exact ((Keeps.refl _ w).alloc _).alloc _
  have c1 : w1.cell? ⟨w.heap.size, 0, none⟩ = some (.pointer p1) := by rw [hw1]; exact ((Blk.new w #[.pointer p1] 42).alloc _).cell rfl
  have c2 : w1.cell? ⟨w.heap.size + 1, 0, none⟩ = some (.pointer p2) := by
    rw [hw1]
    have hB := Blk.new (w.alloc (.cells #[.pointer p1] 42)) #[.pointer p2] 42
    rw [World.size_alloc] at hB
    exact hB.cell rfl
  refine ⟨_, _, rfl, hK, ?_⟩
  have ha := along_none w.heap.size (w.heap.size + 1) 2 w1 ⟨p1, p2, c1, c2, h⟩ (by omega)
  exact ha.mono fun e w2 h2 => ⟨h2.1, hK.trans h2.2 fun _ _ e => e⟩

set_option maxRecDepth 100000 in
set_option maxHeartbeats 4000000 in
theorem nobody_any (w0 w : World) (X T : Nat) (h : Game w0 w X T) :
    Calls Try.prog 10 #[.pointer (some ⟨X, 0, none⟩)] w fun e w' => e = .returned (.bool true) ∧ Game w0 w' X T := by
  obtain ⟨L, lb, lc, b, hL, hL2, hc⟩ := h.first
  have HC : Hid (∀ w', Keeps (fun _ => False) w w' → _) := hc
  have hLi : (0 : Int) < L := by omega
  have hLn : 0 < L := hL
  have HG : Hid (Game w0 w X T) := h
  have H1 : Hid (Calls _ _ _ _ _) := read_nil 0 w
  have H2 : Hid (Calls Try.prog 21 #[.pointer none, .int .i64 0, .int .u32 1] w _) := write_nil 0 1 w
  have H3 : Hid (Calls _ _ _ _ _) := take_nil 0 1 w
  have H4 : Hid (Calls _ _ _ _ _) := lay_nil 0 w
  have H5 : Hid (Calls Try.prog 41 #[.pointer none, .int .i64 0, .int .i64 0, .int .u32 1] w _) := fill_nil 0 0 1 w
  have H6 : Hid (Calls _ _ _ _ _) := move_nil 0 0 0 w
  have H7 : Hid (Calls _ _ _ _ _) := clone_nil w
  have H8 : Hid (Calls _ _ _ _ _) := frames_nil w
  have H9 : Hid (Calls _ _ _ _ _) := words_nil w
  have HD : Hid (Calls _ _ _ _ _) := differ_nul none (some ⟨b, 0, none⟩) w (.inl rfl)
  have HE : Hid (∀ w', Calls _ _ _ w' _) := fun w' => differ_nul (some ⟨b, 0, none⟩) none w' (.inr ⟨⟨_, rfl⟩, rfl⟩)
  obtain ⟨x0, y0⟩ := HC.out w (Keeps.refl _ _)
  clear h hc hL
  go_enter Try.func10, Try.ntmps10
  go_wp2_with fail
  refine H1.out.mono ?_
  rintro e w1 ⟨rfl, hw⟩
  subst hw
  clear H1
  go_wp2_with fail
  refine H2.out.mono ?_
  rintro e w1 ⟨rfl, hw⟩
  subst hw
  clear H2
  go_wp2_with fail
  refine H3.out.mono ?_
  rintro e w1 ⟨rfl, hw⟩
  subst hw
  clear H3
  go_wp2_with fail
  refine H4.out.mono ?_
  rintro e w1 ⟨rfl, hw⟩
  subst hw
  clear H4
  go_wp2_with fail
  refine H5.out.mono ?_
  rintro e w1 ⟨rfl, hw⟩
  subst hw
  clear H5
  go_wp2_with fail
  refine H6.out.mono ?_
  rintro e w1 ⟨rfl, hw⟩
  subst hw
  clear H6
  go_wp2_with fail
  refine H7.out.mono ?_
  rintro e w1 ⟨rfl, hw⟩
  subst hw
  clear H7
  go_wp2_with fail
  refine H8.out.mono ?_
  rintro e w1 ⟨rfl, hw⟩
  subst hw
  clear H8
  go_wp2_with fail
  refine H9.out.mono ?_
  rintro e w1 ⟨rfl, hw⟩
  subst hw
  clear H9
  go_wp2_with fail
  refine HD.out.mono ?_
  rintro e w2 ⟨B1, B2, rfl, hK2, C2⟩
  clear HD x0 y0
  go_wp2_with fail
  refine C2.out.mono ?_
  rintro e w3 ⟨rfl, hK3⟩
  obtain ⟨x1, y1⟩ := HC.out w3 hK3
  have HK3 : Hid (Keeps (fun _ => False) _ w3) := hK3
  clear C2 hK2 hK3
  go_wp2_with fail
  refine (HE.out w3).mono ?_
  rintro e w4 ⟨D1, D2, rfl, hK4, C4⟩
  clear x1 y1 hK4
  go_wp2_with fail
  refine C4.out.mono ?_
  rintro e w5 ⟨rfl, hK5⟩
  have HF : Hid (Game w0 w5 X T) := HG.out.quiet (HK3.out.trans hK5 fun _ _ e => e)
  clear C4 hK5
  go_wp2
  go_ret
  exact ⟨rfl, HF.out⟩

end Go.Proofs.Ytljhdijledclhaa
