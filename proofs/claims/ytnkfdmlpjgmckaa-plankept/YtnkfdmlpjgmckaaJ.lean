import Derived.Test.YtnkfdmlpjgmckaaH
namespace Go.Proofs.Ytnkfdmlpjgmckaa
open Go.RowKit
set_option linter.unusedVariables false
set_option maxRecDepth 6000

def allMay (cs : List Core) : Bool := cs.all fun X => may X.ws
/-- A configuration in a block of its own. -/
structure One (w : World) (x : Cfg) (C N : Nat) (w' : World) : Prop where
  cfg : Blk w' C x.vs 27
  keeps : Keeps (fun _ => False) w w'
  cin : x.In w' N
  lo : w.heap.size ≤ C
  n : N ≤ w.heap.size
theorem One.mk' {w : World} {x : Cfg} {N : Nat} (hi : x.In w N) (hN : N ≤ w.heap.size) : One w x w.heap.size N (x.laid w) :=
  ⟨Blk.new w _ _, (Keeps.refl _ _).alloc _, hi.keeps hN ((Keeps.refl _ _).alloc _), Nat.le_refl _, hN⟩
theorem One.kept {w : World} {x : Cfg} {C N : Nat} {w' w'' : World} (h : One w x C N w') (hK : Keeps (fun _ => False) w' w'') : One w x C N w'' :=
  ⟨h.cfg.kept hK fun h => h, h.keeps.trans hK fun _ _ h => h, h.cin.keeps (Nat.le_trans h.n h.keeps.size) hK, h.lo, h.n⟩
theorem One.nn {w : World} {x : Cfg} {C N : Nat} {w' : World} (h : One w x C N w') : N ≤ w'.heap.size := Nat.le_trans h.n h.keeps.size

theorem allMay_false {cs : List Core} {j : Nat} {X : Core} (hX : cs[j]? = some X) (h : may X.ws = false) : allMay cs = false := by
  rw [Bool.eq_false_iff]
  intro h2
  unfold allMay at h2
  rw [List.all_eq_true] at h2
  rw [h2 X (List.mem_of_getElem? hX)] at h
  cases h
theorem allMay_take {cs : List Core} {j : Nat} {X : Core} (hX : cs[j]? = some X) (hj : allMay (cs.take j) = true) (h : may X.ws = true) : allMay (cs.take (j + 1)) = true := by
  unfold allMay at *
  rw [List.take_add_one, hX]
  simp only [Option.toList_some, List.all_append, hj, List.all_cons, h, List.all_nil, Bool.and_self]

set_option maxHeartbeats 1000000 in
theorem allMayBe_any (x : Cfg) (w : World) (N : Nat) (hi : x.In w N) (hN : N ≤ w.heap.size) :
    Calls Try.prog 39 #[x.v] w fun e w' => e = .returned (.bool (allMay x.cs)) ∧ Keeps (fun _ => False) w w' := by
  obtain ⟨f, mj, kn, rm, ca, cc, cs, pa, pc, ps, ha, hc, hs⟩ := x
  have HO := One.mk' hi hN
  obtain ⟨W, hW⟩ : ∃ W, W = Cfg.laid w ⟨f, mj, kn, rm, ca, cc, cs, pa, pc, ps, ha, hc, hs⟩ := ⟨_, rfl⟩
  obtain ⟨C, hC⟩ : ∃ C, C = w.heap.size := ⟨_, rfl⟩
  rw [← hW, ← hC] at HO
  have HO : Hid (One w ⟨f, mj, kn, rm, ca, cc, cs, pa, pc, ps, ha, hc, hs⟩ C N W) := HO
  obtain ⟨L, hL⟩ : ∃ L, cs.length = L := ⟨_, rfl⟩
  have HL : Hid (cs.length = L) := hL
  have hcc : (L : Int) ≤ cc ∧ (cc : Int) ≤ 9223372036854775807 := by have := hi.clen; unfold maxLen at this; dsimp only at this; omega
  simp only [Cfg.v, Cfg.laid, hL] at hW ⊢
  have c4 : W.cell? ⟨C, 4, none⟩ = some (.slice ca L cc) := by have := HO.out.cfg.cell (i := 4) rfl; rw [← hL]; exact this
  clear hi hN hL
  go_enter Try.func39, Try.ntmps39
  go_upto_region 1 with fail
  rw [← hW, ← hC]
  clear hW hC
  go_wp2
  go_loopw [8] (fun i wr => ∃ j : Nat, j ≤ L ∧ i = .int .i64 j ∧ allMay (cs.take j) = true ∧ One w ⟨f, mj, kn, rm, ca, cc, cs, pa, pc, ps, ha, hc, hs⟩ C N wr) (fun i _ => L - (intOf i).toNat)
  case atStart => exact ⟨0, by omega, rfl, rfl, HO.out⟩
  case round =>
    obtain ⟨j, hj, rfl, hall, hO⟩ := hrel
    clear c4 HO
    by_cases hlt : j < L
    · obtain ⟨X, hX⟩ : ∃ X, cs[j]? = some X := ⟨_, List.getElem?_eq_getElem (by have := HL.out; omega)⟩
      obtain ⟨g, o, e, hc⟩ := hO.cin.core hX
      dsimp only at e
      subst e
      have HX := hO.cin.cin X (List.mem_of_getElem? hX)
      have HC : Hid (Calls Try.prog 51 #[X.v] wr fun e w' => e = .returned (.bool (may X.ws)) ∧ Keeps (fun _ => False) wr w') := mayBe_any X.a X.c X.ws wr HX.seg HX.len
      have HK : Hid (One w ⟨f, mj, kn, rm, some ⟨g, o, none⟩, cc, cs, pa, pc, ps, ha, _, hs⟩ C N wr ∧ cs[j]? = some X ∧ allMay (cs.take j) = true) := ⟨hO, hX, hall⟩
      clear hO hX hall HX
      go_wp2_with fail
      refine HC.out.mono ?_
      rintro e w1 ⟨rfl, hK⟩
      have HO1 : Hid (One w ⟨f, mj, kn, rm, some ⟨g, o, none⟩, cc, cs, pa, pc, ps, ha, _, hs⟩ C N w1) := HK.out.1.kept hK
      clear hK hc
      obtain ⟨b, hb⟩ : ∃ b, may X.ws = b := ⟨_, rfl⟩
      rw [hb]
      have HB : Hid (may X.ws = b) := hb
      clear hb HC
      cases b with
      | false =>
        go_wp2
        go_ret
        rw [allMay_false HK.out.2.1 HB.out]
        exact ⟨rfl, HO1.out.keeps⟩
      | true =>
        go_wp2
        go_roundw
        case rel => exact ⟨j + 1, by omega, by go_num, allMay_take HK.out.2.1 HK.out.2.2 HB.out, HO1.out⟩
        case measure => simp [intOf]; omega
    · obtain rfl : j = L := by omega
      have HK : Hid (One w ⟨f, mj, kn, rm, ca, cc, cs, pa, pc, ps, ha, hc, hs⟩ C N wr ∧ allMay (cs.take j) = true) := ⟨hO, hall⟩
      clear hO hall
      go_wp2
      go_ret
      have := HK.out.2
      rw [List.take_of_length_le (by rw [HL.out]; exact Nat.le_refl _)] at this
      rw [this]
      exact ⟨rfl, HK.out.1.keeps⟩
end Go.Proofs.Ytnkfdmlpjgmckaa
