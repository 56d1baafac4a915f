import Derived.Test.YtnkfdmlpjgmckaaC
namespace Go.Proofs.Ytnkfdmlpjgmckaa
open Go.RowKit
set_option linter.unusedVariables false
set_option maxRecDepth 6000

theorem Cfg.In.keeps {x : Cfg} {w w' : World} {N : Nat} (h : x.In w N) (hN : N ≤ w.heap.size) (hK : Keeps (fun _ => False) w w') : x.In w' N := h.below (hK.below hN fun _ h => h.elim)
theorem Cfg.In.core {x : Cfg} {w : World} {N : Nat} (h : x.In w N) {k : Nat} {X : Core} (hX : x.cs[k]? = some X) :
    ∃ g o, x.ca = some ⟨g, o, none⟩ ∧ w.cell? ⟨g, o + k, none⟩ = some X.v := by
  obtain ⟨g, o, ha, hc⟩ := h.cseg.at hX
  refine ⟨g, o, ha, ?_⟩
  have := hc 0 _ rfl
  rw [Nat.mul_one, Nat.add_zero] at this
  exact this
/-- A configuration laid into a block. -/
abbrev Cfg.laid (w : World) (x : Cfg) : World := w.alloc (.cells #[.int .i64 x.frames, .int .i64 x.major, .int .i64 x.kernel, .int .i64 x.room, .slice x.ca x.cs.length x.cc, .slice x.pa x.ps.length x.pc, .slice x.ha x.hs.length x.hc] 27)

theorem coreSpans_no (x : Cfg) (k : Int) (w : World) (N : Nat) (hi : x.In w N) (hN : N ≤ w.heap.size) (hk : k < 0 ∨ x.cs.length ≤ k) :
    Calls Try.prog 32 #[x.v, .int .i64 k] w fun e w' => e = .returned (.tuple #[.slice none 0 0, .int .i64 140]) ∧ Keeps (fun _ => False) w w' := by
  have HI : Hid (x.In w N ∧ N ≤ w.heap.size) := ⟨hi, hN⟩
  obtain ⟨W, hW⟩ : ∃ W, W = x.laid w := ⟨_, rfl⟩
  have HW : Hid (Keeps (fun _ => False) w W) := by rw [hW]; exact (Keeps.refl _ _).alloc _
  clear hi hN
  go_enter Try.func32, Try.ntmps32
  by_cases h1 : k < 0
  · have : decide (k < 0) = true := by simp [h1]
    go_wp2
    go_ret2
    exact ⟨rfl, (Keeps.refl _ _).alloc _⟩
  · have e1 : decide (k < 0) = false := by simp [h1]
    have e2 : decide ((x.cs.length : Int) ≤ k) = true := by simp; omega
    go_wp2
    go_ret2
    exact ⟨rfl, (Keeps.refl _ _).alloc _⟩

theorem coreSpans_bad (x : Cfg) (k : Nat) (X : Core) (hX : x.cs[k]? = some X) (hm : may X.ws = false) (w : World) (N : Nat) (hi : x.In w N) (hN : N ≤ w.heap.size) :
    Calls Try.prog 32 #[x.v, .int .i64 k] w fun e w' => e = .returned (.tuple #[.slice none 0 0, .int .i64 1]) ∧ Keeps (fun _ => False) w w' := by
  have HI : Hid (x.In w N ∧ N ≤ w.heap.size ∧ X ∈ x.cs ∧ may X.ws = false) := ⟨hi, hN, List.mem_of_getElem? hX, hm⟩
  obtain ⟨W, hW⟩ : ∃ W, W = x.laid w := ⟨_, rfl⟩
  have HW : Hid (Keeps (fun _ => False) w W ∧ W.cell? ⟨w.heap.size, 4, none⟩ = some (.slice x.ca x.cs.length x.cc)) := by rw [hW]; exact ⟨(Keeps.refl _ _).alloc _, (Blk.new w _ _).cell rfl⟩
  have hk : (k : Int) < x.cs.length := by have := (List.getElem?_eq_some_iff.1 hX).1; omega
  have hcc : (x.cs.length : Int) ≤ x.cc ∧ (x.cc : Int) ≤ 9223372036854775807 := by have := hi.clen; unfold maxLen at this; omega
  obtain ⟨g, o, ha, hc⟩ := (HI.out.1.keeps HI.out.2.1 HW.out.1).core hX
  have c4 := HW.out.2
  unfold Cfg.laid at hW
  rw [ha] at hW c4
  clear hi hN hX hm
  go_enter Try.func32, Try.ntmps32
  go_upto_region 3 with fail
  rw [← hW]
  clear hW
  go_wp2_with fail
  refine (mayBe_any _ _ _ _ (((HI.out.1.keeps HI.out.2.1 HW.out.1).cin X HI.out.2.2.1).seg) ((HI.out.1.cin X HI.out.2.2.1).len)).mono ?_
  rintro e w1 ⟨rfl, hK⟩
  rw [HI.out.2.2.2]
  have HK : Hid (Keeps (fun _ => False) w w1) := HW.out.1.trans hK fun _ _ h => h
  clear hK hc c4
  go_wp2
  go_ret2
  exact ⟨rfl, HK.out⟩

/-- The windows of a core that was asked for. -/
def SpansP (w : World) (x : Cfg) (k : Nat) (X : Core) (e : Ending) (w' : World) : Prop :=
  ∃ g, e = .returned (.tuple #[.slice (some ⟨g, 0, none⟩) X.ws.length X.ws.length, .int .i64 0]) ∧ w.heap.size ≤ g ∧ g < w'.heap.size ∧ SegA Spn.vs 4 w' (some ⟨g, 0, none⟩) (Go.Proofs.Ytnkfdmlpjgmckaa.laid k X.ws) ∧ Keeps (fun _ => False) w w'
theorem coreSpans_ok (x : Cfg) (k : Nat) (X : Core) (hX : x.cs[k]? = some X) (hm : may X.ws = true) (w : World) (N : Nat) (hi : x.In w N) (hN : N ≤ w.heap.size) :
    Calls Try.prog 32 #[x.v, .int .i64 k] w (SpansP w x k X) := by
  have HI : Hid (x.In w N ∧ N ≤ w.heap.size ∧ X ∈ x.cs ∧ may X.ws = true) := ⟨hi, hN, List.mem_of_getElem? hX, hm⟩
  obtain ⟨W, hW⟩ : ∃ W, W = x.laid w := ⟨_, rfl⟩
  have HW : Hid (Keeps (fun _ => False) w W ∧ Blk W w.heap.size [.int .i64 x.frames, .int .i64 x.major, .int .i64 x.kernel, .int .i64 x.room, .slice x.ca x.cs.length x.cc, .slice x.pa x.ps.length x.pc, .slice x.ha x.hs.length x.hc] 27) := by rw [hW]; exact ⟨(Keeps.refl _ _).alloc _, Blk.new w _ _⟩
  have hk : (k : Int) < x.cs.length := by have := (List.getElem?_eq_some_iff.1 hX).1; omega
  have hcc : (x.cs.length : Int) ≤ x.cc ∧ (x.cc : Int) ≤ 9223372036854775807 := by have := hi.clen; unfold maxLen at this; omega
  have HX : Hid (x.cs[k]? = some X) := hX
  obtain ⟨g, o, ha, hc⟩ := (HI.out.1.keeps HI.out.2.1 HW.out.1).core hX
  have c4 : W.cell? ⟨w.heap.size, 4, none⟩ = some (.slice x.ca x.cs.length x.cc) := HW.out.2.cell rfl
  unfold Cfg.laid at hW
  rw [ha] at hW c4
  clear hi hN hX hm
  go_enter Try.func32, Try.ntmps32
  go_upto_region 3 with fail
  rw [← hW]
  clear hW
  obtain ⟨C, hC⟩ : ∃ C, C = w.heap.size := ⟨_, rfl⟩
  rw [← hC] at c4 HW ⊢
  clear hC
  go_wp2_with fail
  refine (mayBe_any _ _ _ _ (((HI.out.1.keeps HI.out.2.1 HW.out.1).cin X HI.out.2.2.1).seg) ((HI.out.1.cin X HI.out.2.2.1).len)).mono ?_
  rintro e w1 ⟨rfl, hK⟩
  rw [HI.out.2.2.2]
  have HK : Hid (Keeps (fun _ => False) w w1) := HW.out.1.trans hK fun _ _ h => h
  have c4 : w1.cell? ⟨C, 4, none⟩ = some (.slice x.ca x.cs.length x.cc) := (HW.out.2.kept hK fun h => h).cell rfl
  rw [ha] at c4
  clear hK hc
  obtain ⟨g', o', ha', hc⟩ := (HI.out.1.keeps HI.out.2.1 HK.out).core HX.out
  rw [ha] at ha'
  cases ha'
  go_wp2_with fail
  refine (lay_any k _ _ _ _ (((HI.out.1.keeps HI.out.2.1 HK.out).cin X HI.out.2.2.1).seg) ((HI.out.1.cin X HI.out.2.2.1).len) HI.out.2.2.2).mono ?_
  rintro e w2 ⟨g2, rfl, h1, h2, h3, h4⟩
  have HP : Hid (w1.heap.size ≤ g2 ∧ g2 < w2.heap.size ∧ SegA Spn.vs 4 w2 (some ⟨g2, 0, none⟩) (Go.Proofs.Ytnkfdmlpjgmckaa.laid k X.ws) ∧ Keeps (fun _ => False) w w2) := ⟨h1, h2, h3, HK.out.trans h4 fun _ _ h => h⟩
  clear h1 h2 h3 h4 c4 hc
  go_wp2
  go_ret2
  exact ⟨g2, rfl, Nat.le_trans HK.out.size HP.out.1, HP.out.2.1, HP.out.2.2.1, HP.out.2.2.2⟩
end Go.Proofs.Ytnkfdmlpjgmckaa
