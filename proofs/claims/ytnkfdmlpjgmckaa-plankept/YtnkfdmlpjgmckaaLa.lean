import Derived.Test.YtnkfdmlpjgmckaaRg
import Derived.Test.YtnkfdmlpjgmckaaSq
import Derived.Test.YtnkfdmlpjgmckaaV
namespace Go.Proofs.Ytnkfdmlpjgmckaa
open Go.RowKit
set_option linter.unusedVariables false
set_option maxRecDepth 6000

set_option maxHeartbeats 1000000 in
theorem rcore_any (x : Cfg) (p : Int) (w : World) (N : Nat) (hi : x.In w N) (hN : N ≤ w.heap.size) :
    Calls Try.prog 22 #[x.v, .int .i64 p] w (CoP w x p) := by
  obtain ⟨W, hW⟩ : ∃ W, W = x.laid w := ⟨_, rfl⟩
  obtain ⟨C, hC⟩ : ∃ C, C = w.heap.size := ⟨_, rfl⟩
  have HO : Hid (One w x C N W) := by rw [hW, hC]; exact One.mk' hi hN
  have hcc : (x.cs.length : Int) ≤ x.cc ∧ (x.cc : Int) ≤ 9223372036854775807 := by have := hi.clen; unfold maxLen at this; omega
  clear hi hN
  unfold Cfg.laid at hW
  go_enter Try.func22, Try.ntmps22
  go_wp2_with fail
  rw [← hW, ← hC]
  clear hW hC
  refine (rpartition_any x p W).mono ?_
  rintro e w1 ⟨rfl, hK⟩
  have HO1 : Hid (One w x C N w1) := HO.out.kept hK
  clear hK HO
  by_cases hp : 0 ≤ p ∧ p < x.ps.length
  · rw [part_true hp]
    have HP : Hid (0 ≤ p ∧ p < x.ps.length) := hp
    clear hp
    go_wp2
    go_loopw [6] (fun i wr => ∃ j : Nat, j ≤ x.cs.length ∧ i = .int .i64 j ∧ (∀ (i : Nat) (Y : Core), i < j → x.cs[i]? = some Y → srv p Y.ws = false) ∧ One w x C N wr) (fun i _ => x.cs.length - (intOf i).toNat)
    case atStart => exact ⟨0, by omega, rfl, fun i Y h => absurd h (Nat.not_lt_zero _), HO1.out⟩
    case round =>
      obtain ⟨k, hk, rfl, hall, hO⟩ := hrel
      clear HO1
      have c4 := hO.cells.2.2.2.2.1
      by_cases hlt : k < x.cs.length
      · obtain ⟨X, hX⟩ : ∃ X, x.cs[k]? = some X := ⟨_, List.getElem?_eq_getElem hlt⟩
        have hlt' : (k : Int) < x.cs.length := by omega
        obtain ⟨wz, hwz⟩ : ∃ wz, wz = wr := ⟨_, rfl⟩
        subst hwz
        obtain ⟨XL, hXL⟩ : ∃ XL, X.ws.length = XL := ⟨_, rfl⟩
        have HK : Hid (One w x C N wz ∧ x.cs[k]? = some X ∧ X.ws.length = XL ∧ (∀ (i : Nat) (Y : Core), i < k → x.cs[i]? = some Y → srv p Y.ws = false)) := ⟨hO, hX, hXL, hall⟩
        have hxc : (XL : Int) ≤ X.c ∧ (X.c : Int) ≤ 9223372036854775807 := by have := (hO.cin.cin X (List.mem_of_getElem? hX)).len; unfold maxLen at this; omega
        clear hO hX hXL hall
        go_wp2
        clear c4
        go_loopw [7] (fun i wr => ∃ j : Nat, j ≤ XL ∧ i = .int .i64 j ∧ srv p (X.ws.take j) = false ∧ One w x C N wr) (fun i _ => XL - (intOf i).toNat)
        case atStart => exact ⟨0, by omega, rfl, rfl, HK.out.1⟩
        case round =>
          obtain ⟨j, hj, rfl, hsv, hO⟩ := hrel
          have c4 := hO.cells.2.2.2.2.1
          obtain ⟨g, o, ha, hc⟩ := hO.cin.core HK.out.2.1
          have hXi := hO.cin.cin X (List.mem_of_getElem? HK.out.2.1)
          have hv : Core.v X = .slice X.a XL X.c := by unfold Core.v; rw [HK.out.2.2.1]
          rw [hv] at hc
          rw [ha] at c4
          have HO3 : Hid (One w x C N wr ∧ srv p (X.ws.take j) = false) := ⟨hO, hsv⟩
          clear hO hv hsv
          by_cases hlj : j < XL
          · obtain ⟨y, hy⟩ : ∃ y, X.ws[j]? = some y := ⟨_, List.getElem?_eq_getElem (by have := HK.out.2.2.1; omega)⟩
            obtain ⟨g3, o3, ha3, hg3⟩ := hXi.seg.at hy
            have y0 := hg3 0 _ rfl
            rw [Nat.add_zero] at y0
            rw [ha3] at hc
            have HY : Hid (X.ws[j]? = some y) := hy
            have hlj' : (j : Int) < XL := by omega
            clear hy hg3 hXi
            by_cases hp : y.p = p
            · have hp' : (y.p == p) = true := by simp [hp]
              go_wp2
              go_ret2
              exact ⟨k, 0, rfl, .inr ⟨HP.out, rfl, .inr ⟨k, X, rfl, HK.out.2.1, srv_true HY.out hp, HK.out.2.2.2⟩⟩, HO3.out.1.keeps⟩
            · have hp' : (y.p == p) = false := by simp [hp]
              go_wp2
              go_roundw
              case rel => exact ⟨j + 1, by omega, by go_num, srv_take HY.out HO3.out.2 hp, HO3.out.1⟩
              case measure => simp [intOf]; omega
          · obtain rfl : j = XL := by omega
            have HN : Hid (∀ (i : Nat) (Y : Core), i < k + 1 → x.cs[i]? = some Y → srv p Y.ws = false) := by
              intro i Y hi hY
              by_cases e : i = k
              · subst e
                have := HK.out.2.1
                rw [hY] at this
                cases this
                have := HO3.out.2
                rw [List.take_of_length_le (by rw [HK.out.2.2.1]; exact Nat.le_refl _)] at this
                exact this
              · exact HK.out.2.2.2 i Y (by omega) hY
            clear hXi
            go_wp2
            go_roundw
            case rel => exact ⟨k + 1, by omega, by go_num, HN.out, HO3.out.1⟩
            case measure => simp [intOf]; omega
      · have hlt' : ¬ (k : Int) < x.cs.length := by omega
        have HK : Hid (One w x C N wr ∧ (∀ (i : Nat) (Y : Core), i < k → x.cs[i]? = some Y → srv p Y.ws = false) ∧ k = x.cs.length) := ⟨hO, hall, by omega⟩
        clear hO hall
        go_wp2
        go_ret2
        refine ⟨-1, 0, rfl, .inr ⟨HP.out, rfl, .inl ⟨rfl, fun i Y hY => HK.out.2.1 i Y ?_ hY⟩⟩, HK.out.1.keeps⟩
        have := (List.getElem?_eq_some_iff.1 hY).1
        have h2 := HK.out.2.2
        omega
  · rw [part_false hp]
    have HP : Hid (¬ (0 ≤ p ∧ p < x.ps.length)) := hp
    clear hp
    go_wp2
    go_ret2
    exact ⟨0, 142, rfl, .inl ⟨HP.out, rfl, rfl⟩, HO1.out.keeps⟩

/-- Two lists of ints that are the same. -/
def ivs (z : Int) : List Value := [.int .i64 z]
set_option maxHeartbeats 1000000 in
theorem sameInts_eq (a1 a2 : Option Addr) (c1 c2 : Nat) (l : List Int) (w : World) (h1 : SegA ivs 1 w a1 l) (h2 : SegA ivs 1 w a2 l) (hl1 : l.length ≤ c1 ∧ c1 ≤ maxLen) (hl2 : l.length ≤ c2 ∧ c2 ≤ maxLen) :
    Calls Try.prog 15 #[.slice a1 l.length c1, .slice a2 l.length c2] w fun e w' => e = .returned (.bool true) ∧ Keeps (fun _ => False) w w' := by
  obtain ⟨L, hL⟩ : ∃ L, l.length = L := ⟨_, rfl⟩
  have HS : Hid (SegA ivs 1 w a1 l ∧ SegA ivs 1 w a2 l ∧ l.length = L) := ⟨h1, h2, hL⟩
  rw [hL] at hl1 hl2 ⊢
  have hc1 : (L : Int) ≤ c1 := by omega
  have hc2 : (L : Int) ≤ c2 := by omega
  have hc3 : (c1 : Int) ≤ 9223372036854775807 := by unfold maxLen at hl1; omega
  clear h1 h2 hL hl1 hl2
  go_enter Try.func15, Try.ntmps15
  go_wp2
  go_loopw [5] (fun i wr => ∃ j : Nat, j ≤ L ∧ i = .int .i64 j ∧ Keeps (fun _ => False) w wr) (fun i _ => L - (intOf i).toNat)
  case atStart => exact ⟨0, by omega, rfl, Keeps.refl _ _⟩
  case round =>
    obtain ⟨j, hj, rfl, hK⟩ := hrel
    by_cases hlt : j < L
    · obtain ⟨y, hy⟩ : ∃ y, l[j]? = some y := ⟨_, List.getElem?_eq_getElem (by have := HS.out.2.2; omega)⟩
      obtain ⟨g1, o1, rfl, hg1⟩ := (HS.out.1.kept hK fun _ _ _ e => e).at hy
      obtain ⟨g2, o2, rfl, hg2⟩ := (HS.out.2.1.kept hK fun _ _ _ e => e).at hy
      have y0 := hg1 0 _ rfl
      have x0 := hg2 0 _ rfl
      simp only [Nat.mul_one, Nat.add_zero] at y0 x0
      have HK : Hid (Keeps (fun _ => False) w wr) := hK
      clear hy hg1 hg2 hK
      go_upto_region 6 with fail
      go_quiet (fail)
      clear y0 x0
      go_wp2
      go_roundw
      case rel => exact ⟨j + 1, by omega, by go_num, HK.out.drewN _⟩
      case measure => simp [intOf]; omega
    · obtain rfl : j = L := by omega
      have HK : Hid (Keeps (fun _ => False) w wr) := hK
      clear hK
      go_wp2
      go_ret
      exact ⟨rfl, HK.out⟩
set_option maxHeartbeats 1000000 in
theorem sameSpans_eq (a1 a2 : Option Addr) (c1 c2 : Nat) (l : List Spn) (w : World) (h1 : SegA Spn.vs 4 w a1 l) (h2 : SegA Spn.vs 4 w a2 l) (hl1 : l.length ≤ c1 ∧ c1 ≤ maxLen) (hl2 : l.length ≤ c2 ∧ c2 ≤ maxLen) :
    Calls Try.prog 19 #[.slice a1 l.length c1, .slice a2 l.length c2] w fun e w' => e = .returned (.bool true) ∧ Keeps (fun _ => False) w w' := by
  obtain ⟨L, hL⟩ : ∃ L, l.length = L := ⟨_, rfl⟩
  have HS : Hid (SegA Spn.vs 4 w a1 l ∧ SegA Spn.vs 4 w a2 l ∧ l.length = L) := ⟨h1, h2, hL⟩
  rw [hL] at hl1 hl2 ⊢
  have hc1 : (L : Int) ≤ c1 := by omega
  have hc2 : (L : Int) ≤ c2 := by omega
  have hc3 : (c1 : Int) ≤ 9223372036854775807 := by unfold maxLen at hl1; omega
  clear h1 h2 hL hl1 hl2
  go_enter Try.func19, Try.ntmps19
  go_wp2
  go_loopw [5] (fun i wr => ∃ j : Nat, j ≤ L ∧ i = .int .i64 j ∧ Keeps (fun _ => False) w wr) (fun i _ => L - (intOf i).toNat)
  case atStart => exact ⟨0, by omega, rfl, Keeps.refl _ _⟩
  case round =>
    obtain ⟨j, hj, rfl, hK⟩ := hrel
    by_cases hlt : j < L
    · obtain ⟨y, hy⟩ : ∃ y, l[j]? = some y := ⟨_, List.getElem?_eq_getElem (by have := HS.out.2.2; omega)⟩
      obtain ⟨g1, o1, rfl, hg1⟩ := (HS.out.1.kept hK fun _ _ _ e => e).at hy
      obtain ⟨g2, o2, rfl, hg2⟩ := (HS.out.2.1.kept hK fun _ _ _ e => e).at hy
      have y0 := hg1 0 _ rfl
      have y1 := hg1 1 _ rfl
      have y2 := hg1 2 _ rfl
      have y3 := hg1 3 _ rfl
      have x0 := hg2 0 _ rfl
      have x1 := hg2 1 _ rfl
      have x2 := hg2 2 _ rfl
      have x3 := hg2 3 _ rfl
      rw [Nat.add_zero] at y0 x0
      have HK : Hid (Keeps (fun _ => False) w wr) := hK
      clear hy hg1 hg2 hK
      go_upto_region 6 with fail
      go_quiet (fail)
      clear y0 x0 y1 y2 y3 x1 x2 x3
      go_wp2
      go_roundw
      case rel => exact ⟨j + 1, by omega, by go_num, HK.out.drewN _⟩
      case measure => simp [intOf]; omega
    · obtain rfl : j = L := by omega
      have HK : Hid (Keeps (fun _ => False) w wr) := hK
      clear hK
      go_wp2
      go_ret
      exact ⟨rfl, HK.out⟩
end Go.Proofs.Ytnkfdmlpjgmckaa
