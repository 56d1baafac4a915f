import Derived.Test.YtfbapgcopidbpaaGreatQd
namespace Go.Proofs.YtfbapgcopidbpaaGreat
open Go.RowKit
set_option linter.unusedVariables false
set_option linter.unusedSimpArgs false
set_option maxRecDepth 6000

structure CfI (w : World) (E : World → Prop) (w' : World) : Prop where
  env : E w'
  keeps : Keeps (fun _ => False) w w'
theorem CfI.kept {w : World} {E : World → Prop} {w' w'' : World} (h : CfI w E w') (hE : ∀ w w', E w → Keeps (fun _ => False) w w' → E w') (hK : Keeps (fun _ => False) w' w'') : CfI w E w'' :=
  ⟨hE _ _ h.env hK, h.keeps.trans hK fun _ _ h => h⟩
def IdxP (b : Bool) (w : World) (e : Ending) (w' : World) : Prop := (∃ z : Int, e = .returned (.int .i64 z) ∧ decide (0 ≤ z) = b) ∧ Keeps (fun _ => False) w w'
theorem any_take_no {α : Type} {xs : List α} {p : α → Bool} {k : Nat} {x : α} (hx : xs[k]? = some x) (h : (xs.take k).any p = false) (hp : p x = false) : (xs.take (k + 1)).any p = false := by
  rw [List.take_add_one, hx, List.any_append, h]
  simp [hp]
theorem any_take_yes {α : Type} {xs : List α} {p : α → Bool} {k : Nat} {x : α} (hx : xs[k]? = some x) (hp : p x = true) : xs.any p = true :=
  List.any_eq_true.2 ⟨x, List.mem_of_getElem? hx, hp⟩

set_option maxHeartbeats 4000000 in
theorem indexFunc_rgn (xs : List Rgn) (a : Option Addr) (cap f : Nat) (bs : Array Value) (E : World → Prop) (p : Rgn → Bool) (hent : ∀ args w, (callFunc f args).run Tryz.prog w = .ok (.enter f args) w)
    (hEk : ∀ w w', E w → Keeps (fun _ => False) w w' → E w') (hS : ∀ w, E w → SegA Rgn.vs 4 w a xs) (hlen : xs.length ≤ cap ∧ cap ≤ maxLen)
    (hC : ∀ x ∈ xs, ∀ w, E w → Calls Tryz.prog f (#[Rgn.v x] ++ bs) w fun e w' => e = .returned (.bool (p x)) ∧ Keeps (fun _ => False) w w') (w : World) (hE : E w) :
    Calls Tryz.prog 176 #[.slice a xs.length cap, .func (.func f) #[] bs] w (IdxP (xs.any p) w) := by
  have HE : Hid (∀ w w', E w → Keeps (fun _ => False) w w' → E w') := hEk
  have HC : Hid (∀ x ∈ xs, ∀ w, E w → Calls Tryz.prog f (#[Rgn.v x] ++ bs) w fun e w' => e = .returned (.bool (p x)) ∧ Keeps (fun _ => False) w w') := hC
  have HS : Hid (∀ w, E w → SegA Rgn.vs 4 w a xs) := hS
  have HO : Hid (CfI w E w) := ⟨hE, Keeps.refl _ _⟩
  obtain ⟨L, hL⟩ : ∃ L, xs.length = L := ⟨_, rfl⟩
  have HL : Hid (xs.length = L) := hL
  have hcc : (L : Int) ≤ cap ∧ (cap : Int) ≤ 9223372036854775807 := by unfold maxLen at hlen; omega
  rw [hL]
  clear hE hEk hS hC hL hlen
  go_enter Tryz.func176, Tryz.ntmps176
  go_wp2
  go_loopw [8] (fun i wr => ∃ j : Nat, j ≤ L ∧ i = .int .i64 j ∧ (xs.take j).any p = false ∧ CfI w E wr) (fun i _ => L - (intOf i).toNat)
  case atStart => exact ⟨0, by omega, rfl, rfl, HO.out⟩
  case round =>
    obtain ⟨k, hk, rfl, hno, hO⟩ := hrel
    by_cases hlt : k < L
    · obtain ⟨X, hX⟩ : ∃ X, xs[k]? = some X := ⟨_, List.getElem?_eq_getElem (by have := HL.out; omega)⟩
      have HCX : Hid (∀ w, E w → Calls Tryz.prog f (#[Rgn.v X] ++ bs) w fun e w' => e = .returned (.bool (p X)) ∧ Keeps (fun _ => False) w w') := HC.out X (List.mem_of_getElem? hX)
      obtain ⟨g, o, ha, hc⟩ := (HS.out _ hO.env).at hX
      have c0 := hc 0 _ rfl
      rw [Nat.add_zero] at c0
      have c1 := hc 1 _ rfl
      have c2 := hc 2 _ rfl
      have c3 := hc 3 _ rfl
      have HK : Hid (CfI w E wr ∧ (xs.take k).any p = false ∧ xs[k]? = some X) := ⟨hO, hno, hX⟩
      clear hno hO hX hc
      subst ha
      go_wp2_with fail
      refine (HCX.out _ HK.out.1.env).mono ?_
      rintro e w1 ⟨rfl, hK⟩
      have HO1 : Hid (CfI w E w1) := HK.out.1.kept HE.out hK
      clear hK c0 c1 c2 c3
      obtain ⟨b, hb⟩ : ∃ b, p X = b := ⟨_, rfl⟩
      have HB : Hid (p X = b) := hb
      rw [hb]
      clear hb
      cases b with
      | false =>
        go_wp2
        go_roundw
        case rel => exact ⟨k + 1, by omega, by go_num, any_take_no HK.out.2.2 HK.out.2.1 HB.out, HO1.out⟩
        case measure => simp [intOf]; omega
      | true =>
        go_wp2
        go_ret
        refine ⟨⟨k, rfl, ?_⟩, HO1.out.keeps⟩
        rw [any_take_yes HK.out.2.2 HB.out]
        simp
    · have hkL : k = L := by omega
      subst hkL
      have HK : Hid (CfI w E wr ∧ (xs.take k).any p = false) := ⟨hO, hno⟩
      clear hO hno
      go_wp2
      go_ret
      refine ⟨⟨-1, rfl, ?_⟩, HK.out.1.keeps⟩
      have := HK.out.2
      rw [List.take_of_length_le (by rw [HL.out]; omega)] at this
      rw [this]
      rfl
theorem containsFunc_rgn (xs : List Rgn) (a : Option Addr) (cap f : Nat) (bs : Array Value) (E : World → Prop) (p : Rgn → Bool) (hent : ∀ args w, (callFunc f args).run Tryz.prog w = .ok (.enter f args) w)
    (hEk : ∀ w w', E w → Keeps (fun _ => False) w w' → E w') (hS : ∀ w, E w → SegA Rgn.vs 4 w a xs) (hlen : xs.length ≤ cap ∧ cap ≤ maxLen)
    (hC : ∀ x ∈ xs, ∀ w, E w → Calls Tryz.prog f (#[Rgn.v x] ++ bs) w fun e w' => e = .returned (.bool (p x)) ∧ Keeps (fun _ => False) w w') (w : World) (hE : E w) :
    Calls Tryz.prog 160 #[.slice a xs.length cap, .func (.func f) #[] bs] w fun e w' => e = .returned (.bool (xs.any p)) ∧ Keeps (fun _ => False) w w' := by
  have HI : Hid (Calls Tryz.prog 176 #[.slice a xs.length cap, .func (.func f) #[] bs] w (IdxP (xs.any p) w)) := indexFunc_rgn xs a cap f bs E p hent hEk hS hlen hC w hE
  obtain ⟨L, hL⟩ : ∃ L, xs.length = L := ⟨_, rfl⟩
  obtain ⟨B, hB⟩ : ∃ B, xs.any p = B := ⟨_, rfl⟩
  rw [hL, hB] at HI
  rw [hL, hB]
  clear hent hEk hS hlen hC hE hL hB
  go_enter Tryz.func160, Tryz.ntmps160
  go_wp2_with fail
  refine HI.out.mono ?_
  rintro e w1 ⟨⟨z, rfl, hz⟩, hK⟩
  have HK : Hid (Keeps (fun _ => False) w w1) := hK
  clear hK HI
  go_wp2
  go_ret
  exact ⟨rfl, HK.out⟩
end Go.Proofs.YtfbapgcopidbpaaGreat
namespace Go.Proofs.YtfbapgcopidbpaaGreat
open Go.RowKit
set_option linter.unusedVariables false
set_option linter.unusedSimpArgs false
set_option maxRecDepth 6000

set_option maxHeartbeats 4000000 in
theorem indexFunc_par (xs : List Par) (a : Option Addr) (cap f : Nat) (bs : Array Value) (E : World → Prop) (p : Par → Bool) (hent : ∀ args w, (callFunc f args).run Tryz.prog w = .ok (.enter f args) w)
    (hEk : ∀ w w', E w → Keeps (fun _ => False) w w' → E w') (hS : ∀ w, E w → SegA Par.vs 8 w a xs) (hlen : xs.length ≤ cap ∧ cap ≤ maxLen)
    (hC : ∀ x ∈ xs, ∀ w, E w → Calls Tryz.prog f (#[Par.v x] ++ bs) w fun e w' => e = .returned (.bool (p x)) ∧ Keeps (fun _ => False) w w') (w : World) (hE : E w) :
    Calls Tryz.prog 175 #[.slice a xs.length cap, .func (.func f) #[] bs] w (IdxP (xs.any p) w) := by
  have HE : Hid (∀ w w', E w → Keeps (fun _ => False) w w' → E w') := hEk
  have HC : Hid (∀ x ∈ xs, ∀ w, E w → Calls Tryz.prog f (#[Par.v x] ++ bs) w fun e w' => e = .returned (.bool (p x)) ∧ Keeps (fun _ => False) w w') := hC
  have HS : Hid (∀ w, E w → SegA Par.vs 8 w a xs) := hS
  have HO : Hid (CfI w E w) := ⟨hE, Keeps.refl _ _⟩
  obtain ⟨L, hL⟩ : ∃ L, xs.length = L := ⟨_, rfl⟩
  have HL : Hid (xs.length = L) := hL
  have hcc : (L : Int) ≤ cap ∧ (cap : Int) ≤ 9223372036854775807 := by unfold maxLen at hlen; omega
  rw [hL]
  clear hE hEk hS hC hL hlen
  go_enter Tryz.func175, Tryz.ntmps175
  go_wp2
  go_loopw [8] (fun i wr => ∃ j : Nat, j ≤ L ∧ i = .int .i64 j ∧ (xs.take j).any p = false ∧ CfI w E wr) (fun i _ => L - (intOf i).toNat)
  case atStart => exact ⟨0, by omega, rfl, rfl, HO.out⟩
  case round =>
    obtain ⟨k, hk, rfl, hno, hO⟩ := hrel
    by_cases hlt : k < L
    · obtain ⟨X, hX⟩ : ∃ X, xs[k]? = some X := ⟨_, List.getElem?_eq_getElem (by have := HL.out; omega)⟩
      have HCX : Hid (∀ w, E w → Calls Tryz.prog f (#[Par.v X] ++ bs) w fun e w' => e = .returned (.bool (p X)) ∧ Keeps (fun _ => False) w w') := HC.out X (List.mem_of_getElem? hX)
      obtain ⟨g, o, ha, hc⟩ := (HS.out _ hO.env).at hX
      have c0 := hc 0 _ rfl
      rw [Nat.add_zero] at c0
      have c1 := hc 1 _ rfl
      have c2 := hc 2 _ rfl
      have c3 := hc 3 _ rfl
      have c4 := hc 4 _ rfl
      have c5 := hc 5 _ rfl
      have c6 := hc 6 _ rfl
      have c7 := hc 7 _ rfl
      obtain ⟨RL, hRL⟩ : ∃ RL, X.rs.length = RL := ⟨_, rfl⟩
      obtain ⟨PL, hPL⟩ : ∃ PL, X.ps.length = PL := ⟨_, rfl⟩
      rw [hRL] at c6
      rw [hPL] at c7
      dsimp only [Par.v] at HCX
      rw [hRL, hPL] at HCX
      clear hRL hPL
      have HK : Hid (CfI w E wr ∧ (xs.take k).any p = false ∧ xs[k]? = some X) := ⟨hO, hno, hX⟩
      clear hno hO hX hc
      subst ha
      go_wp2_with fail
      refine (HCX.out _ HK.out.1.env).mono ?_
      rintro e w1 ⟨rfl, hK⟩
      have HO1 : Hid (CfI w E w1) := HK.out.1.kept HE.out hK
      clear hK c0 c1 c2 c3 c4 c5 c6 c7
      obtain ⟨b, hb⟩ : ∃ b, p X = b := ⟨_, rfl⟩
      have HB : Hid (p X = b) := hb
      rw [hb]
      clear hb
      cases b with
      | false =>
        go_wp2
        go_roundw
        case rel => exact ⟨k + 1, by omega, by go_num, any_take_no HK.out.2.2 HK.out.2.1 HB.out, HO1.out⟩
        case measure => simp [intOf]; omega
      | true =>
        go_wp2
        go_ret
        refine ⟨⟨k, rfl, ?_⟩, HO1.out.keeps⟩
        rw [any_take_yes HK.out.2.2 HB.out]
        simp
    · have hkL : k = L := by omega
      subst hkL
      have HK : Hid (CfI w E wr ∧ (xs.take k).any p = false) := ⟨hO, hno⟩
      clear hO hno
      go_wp2
      go_ret
      refine ⟨⟨-1, rfl, ?_⟩, HK.out.1.keeps⟩
      have := HK.out.2
      rw [List.take_of_length_le (by rw [HL.out]; omega)] at this
      rw [this]
      rfl
theorem containsFunc_par (xs : List Par) (a : Option Addr) (cap f : Nat) (bs : Array Value) (E : World → Prop) (p : Par → Bool) (hent : ∀ args w, (callFunc f args).run Tryz.prog w = .ok (.enter f args) w)
    (hEk : ∀ w w', E w → Keeps (fun _ => False) w w' → E w') (hS : ∀ w, E w → SegA Par.vs 8 w a xs) (hlen : xs.length ≤ cap ∧ cap ≤ maxLen)
    (hC : ∀ x ∈ xs, ∀ w, E w → Calls Tryz.prog f (#[Par.v x] ++ bs) w fun e w' => e = .returned (.bool (p x)) ∧ Keeps (fun _ => False) w w') (w : World) (hE : E w) :
    Calls Tryz.prog 151 #[.slice a xs.length cap, .func (.func f) #[] bs] w fun e w' => e = .returned (.bool (xs.any p)) ∧ Keeps (fun _ => False) w w' := by
  have HI : Hid (Calls Tryz.prog 175 #[.slice a xs.length cap, .func (.func f) #[] bs] w (IdxP (xs.any p) w)) := indexFunc_par xs a cap f bs E p hent hEk hS hlen hC w hE
  obtain ⟨L, hL⟩ : ∃ L, xs.length = L := ⟨_, rfl⟩
  obtain ⟨B, hB⟩ : ∃ B, xs.any p = B := ⟨_, rfl⟩
  rw [hL, hB] at HI
  rw [hL, hB]
  clear hent hEk hS hlen hC hE hL hB
  go_enter Tryz.func151, Tryz.ntmps151
  go_wp2_with fail
  refine HI.out.mono ?_
  rintro e w1 ⟨⟨z, rfl, hz⟩, hK⟩
  have HK : Hid (Keeps (fun _ => False) w w1) := hK
  clear hK HI
  go_wp2
  go_ret
  exact ⟨rfl, HK.out⟩
end Go.Proofs.YtfbapgcopidbpaaGreat
namespace Go.Proofs.YtfbapgcopidbpaaGreat
open Go.RowKit
set_option linter.unusedVariables false
set_option linter.unusedSimpArgs false
set_option maxRecDepth 6000

set_option maxHeartbeats 4000000 in
theorem indexFunc_core (xs : List Core) (a : Option Addr) (cap f : Nat) (bs : Array Value) (E : World → Prop) (p : Core → Bool) (hent : ∀ args w, (callFunc f args).run Tryz.prog w = .ok (.enter f args) w)
    (hEk : ∀ w w', E w → Keeps (fun _ => False) w w' → E w') (hS : ∀ w, E w → SegA Core.vs 1 w a xs) (hlen : xs.length ≤ cap ∧ cap ≤ maxLen)
    (hC : ∀ x ∈ xs, ∀ w, E w → Calls Tryz.prog f (#[Core.v x] ++ bs) w fun e w' => e = .returned (.bool (p x)) ∧ Keeps (fun _ => False) w w') (w : World) (hE : E w) :
    Calls Tryz.prog 182 #[.slice a xs.length cap, .func (.func f) #[] bs] w (IdxP (xs.any p) w) := by
  have HE : Hid (∀ w w', E w → Keeps (fun _ => False) w w' → E w') := hEk
  have HC : Hid (∀ x ∈ xs, ∀ w, E w → Calls Tryz.prog f (#[Core.v x] ++ bs) w fun e w' => e = .returned (.bool (p x)) ∧ Keeps (fun _ => False) w w') := hC
  have HS : Hid (∀ w, E w → SegA Core.vs 1 w a xs) := hS
  have HO : Hid (CfI w E w) := ⟨hE, Keeps.refl _ _⟩
  obtain ⟨L, hL⟩ : ∃ L, xs.length = L := ⟨_, rfl⟩
  have HL : Hid (xs.length = L) := hL
  have hcc : (L : Int) ≤ cap ∧ (cap : Int) ≤ 9223372036854775807 := by unfold maxLen at hlen; omega
  rw [hL]
  clear hE hEk hS hC hL hlen
  go_enter Tryz.func182, Tryz.ntmps182
  go_wp2
  go_loopw [8] (fun i wr => ∃ j : Nat, j ≤ L ∧ i = .int .i64 j ∧ (xs.take j).any p = false ∧ CfI w E wr) (fun i _ => L - (intOf i).toNat)
  case atStart => exact ⟨0, by omega, rfl, rfl, HO.out⟩
  case round =>
    obtain ⟨k, hk, rfl, hno, hO⟩ := hrel
    by_cases hlt : k < L
    · obtain ⟨X, hX⟩ : ∃ X, xs[k]? = some X := ⟨_, List.getElem?_eq_getElem (by have := HL.out; omega)⟩
      have HCX : Hid (∀ w, E w → Calls Tryz.prog f (#[Core.v X] ++ bs) w fun e w' => e = .returned (.bool (p X)) ∧ Keeps (fun _ => False) w w') := HC.out X (List.mem_of_getElem? hX)
      obtain ⟨g, o, ha, hc⟩ := (HS.out _ hO.env).at hX
      have c0 := hc 0 _ rfl
      rw [Nat.mul_one, Nat.add_zero] at c0
      (try dsimp only [Core.vs] at c0)
      obtain ⟨XL, hXL⟩ : ∃ XL, X.ws.length = XL := ⟨_, rfl⟩
      rw [hXL] at c0
      have HXL : Hid (X.ws.length = XL) := hXL
      dsimp only [Core.v] at HCX
      rw [hXL] at HCX
      clear hXL
      have HK : Hid (CfI w E wr ∧ (xs.take k).any p = false ∧ xs[k]? = some X) := ⟨hO, hno, hX⟩
      clear hno hO hX hc
      subst ha
      go_wp2_with fail
      refine (HCX.out _ HK.out.1.env).mono ?_
      rintro e w1 ⟨rfl, hK⟩
      have HO1 : Hid (CfI w E w1) := HK.out.1.kept HE.out hK
      clear hK c0
      obtain ⟨b, hb⟩ : ∃ b, p X = b := ⟨_, rfl⟩
      have HB : Hid (p X = b) := hb
      rw [hb]
      clear hb
      cases b with
      | false =>
        go_wp2
        go_roundw
        case rel => exact ⟨k + 1, by omega, by go_num, any_take_no HK.out.2.2 HK.out.2.1 HB.out, HO1.out⟩
        case measure => simp [intOf]; omega
      | true =>
        go_wp2
        go_ret
        refine ⟨⟨k, rfl, ?_⟩, HO1.out.keeps⟩
        rw [any_take_yes HK.out.2.2 HB.out]
        simp
    · have hkL : k = L := by omega
      subst hkL
      have HK : Hid (CfI w E wr ∧ (xs.take k).any p = false) := ⟨hO, hno⟩
      clear hO hno
      go_wp2
      go_ret
      refine ⟨⟨-1, rfl, ?_⟩, HK.out.1.keeps⟩
      have := HK.out.2
      rw [List.take_of_length_le (by rw [HL.out]; omega)] at this
      rw [this]
      rfl
theorem containsFunc_core (xs : List Core) (a : Option Addr) (cap f : Nat) (bs : Array Value) (E : World → Prop) (p : Core → Bool) (hent : ∀ args w, (callFunc f args).run Tryz.prog w = .ok (.enter f args) w)
    (hEk : ∀ w w', E w → Keeps (fun _ => False) w w' → E w') (hS : ∀ w, E w → SegA Core.vs 1 w a xs) (hlen : xs.length ≤ cap ∧ cap ≤ maxLen)
    (hC : ∀ x ∈ xs, ∀ w, E w → Calls Tryz.prog f (#[Core.v x] ++ bs) w fun e w' => e = .returned (.bool (p x)) ∧ Keeps (fun _ => False) w w') (w : World) (hE : E w) :
    Calls Tryz.prog 177 #[.slice a xs.length cap, .func (.func f) #[] bs] w fun e w' => e = .returned (.bool (xs.any p)) ∧ Keeps (fun _ => False) w w' := by
  have HI : Hid (Calls Tryz.prog 182 #[.slice a xs.length cap, .func (.func f) #[] bs] w (IdxP (xs.any p) w)) := indexFunc_core xs a cap f bs E p hent hEk hS hlen hC w hE
  obtain ⟨L, hL⟩ : ∃ L, xs.length = L := ⟨_, rfl⟩
  obtain ⟨B, hB⟩ : ∃ B, xs.any p = B := ⟨_, rfl⟩
  rw [hL, hB] at HI
  rw [hL, hB]
  clear hent hEk hS hlen hC hE hL hB
  go_enter Tryz.func177, Tryz.ntmps177
  go_wp2_with fail
  refine HI.out.mono ?_
  rintro e w1 ⟨⟨z, rfl, hz⟩, hK⟩
  have HK : Hid (Keeps (fun _ => False) w w1) := hK
  clear hK HI
  go_wp2
  go_ret
  exact ⟨rfl, HK.out⟩
end Go.Proofs.YtfbapgcopidbpaaGreat
namespace Go.Proofs.YtfbapgcopidbpaaGreat
open Go.RowKit
set_option linter.unusedVariables false
set_option linter.unusedSimpArgs false
set_option maxRecDepth 6000

set_option maxHeartbeats 4000000 in
theorem indexFunc_win (xs : List Win) (a : Option Addr) (cap f : Nat) (bs : Array Value) (E : World → Prop) (p : Win → Bool) (hent : ∀ args w, (callFunc f args).run Tryz.prog w = .ok (.enter f args) w)
    (hEk : ∀ w w', E w → Keeps (fun _ => False) w w' → E w') (hS : ∀ w, E w → SegA Win.vs 3 w a xs) (hlen : xs.length ≤ cap ∧ cap ≤ maxLen)
    (hC : ∀ x ∈ xs, ∀ w, E w → Calls Tryz.prog f (#[Win.v x] ++ bs) w fun e w' => e = .returned (.bool (p x)) ∧ Keeps (fun _ => False) w w') (w : World) (hE : E w) :
    Calls Tryz.prog 183 #[.slice a xs.length cap, .func (.func f) #[] bs] w (IdxP (xs.any p) w) := by
  have HE : Hid (∀ w w', E w → Keeps (fun _ => False) w w' → E w') := hEk
  have HC : Hid (∀ x ∈ xs, ∀ w, E w → Calls Tryz.prog f (#[Win.v x] ++ bs) w fun e w' => e = .returned (.bool (p x)) ∧ Keeps (fun _ => False) w w') := hC
  have HS : Hid (∀ w, E w → SegA Win.vs 3 w a xs) := hS
  have HO : Hid (CfI w E w) := ⟨hE, Keeps.refl _ _⟩
  obtain ⟨L, hL⟩ : ∃ L, xs.length = L := ⟨_, rfl⟩
  have HL : Hid (xs.length = L) := hL
  have hcc : (L : Int) ≤ cap ∧ (cap : Int) ≤ 9223372036854775807 := by unfold maxLen at hlen; omega
  rw [hL]
  clear hE hEk hS hC hL hlen
  go_enter Tryz.func183, Tryz.ntmps183
  go_wp2
  go_loopw [8] (fun i wr => ∃ j : Nat, j ≤ L ∧ i = .int .i64 j ∧ (xs.take j).any p = false ∧ CfI w E wr) (fun i _ => L - (intOf i).toNat)
  case atStart => exact ⟨0, by omega, rfl, rfl, HO.out⟩
  case round =>
    obtain ⟨k, hk, rfl, hno, hO⟩ := hrel
    by_cases hlt : k < L
    · obtain ⟨X, hX⟩ : ∃ X, xs[k]? = some X := ⟨_, List.getElem?_eq_getElem (by have := HL.out; omega)⟩
      have HCX : Hid (∀ w, E w → Calls Tryz.prog f (#[Win.v X] ++ bs) w fun e w' => e = .returned (.bool (p X)) ∧ Keeps (fun _ => False) w w') := HC.out X (List.mem_of_getElem? hX)
      obtain ⟨g, o, ha, hc⟩ := (HS.out _ hO.env).at hX
      have c0 := hc 0 _ rfl
      rw [Nat.add_zero] at c0
      have c1 := hc 1 _ rfl
      have c2 := hc 2 _ rfl
      have HK : Hid (CfI w E wr ∧ (xs.take k).any p = false ∧ xs[k]? = some X) := ⟨hO, hno, hX⟩
      clear hno hO hX hc
      subst ha
      go_wp2_with fail
      refine (HCX.out _ HK.out.1.env).mono ?_
      rintro e w1 ⟨rfl, hK⟩
      have HO1 : Hid (CfI w E w1) := HK.out.1.kept HE.out hK
      clear hK c0 c1 c2
      obtain ⟨b, hb⟩ : ∃ b, p X = b := ⟨_, rfl⟩
      have HB : Hid (p X = b) := hb
      rw [hb]
      clear hb
      cases b with
      | false =>
        go_wp2
        go_roundw
        case rel => exact ⟨k + 1, by omega, by go_num, any_take_no HK.out.2.2 HK.out.2.1 HB.out, HO1.out⟩
        case measure => simp [intOf]; omega
      | true =>
        go_wp2
        go_ret
        refine ⟨⟨k, rfl, ?_⟩, HO1.out.keeps⟩
        rw [any_take_yes HK.out.2.2 HB.out]
        simp
    · have hkL : k = L := by omega
      subst hkL
      have HK : Hid (CfI w E wr ∧ (xs.take k).any p = false) := ⟨hO, hno⟩
      clear hO hno
      go_wp2
      go_ret
      refine ⟨⟨-1, rfl, ?_⟩, HK.out.1.keeps⟩
      have := HK.out.2
      rw [List.take_of_length_le (by rw [HL.out]; omega)] at this
      rw [this]
      rfl
theorem containsFunc_win (xs : List Win) (a : Option Addr) (cap f : Nat) (bs : Array Value) (E : World → Prop) (p : Win → Bool) (hent : ∀ args w, (callFunc f args).run Tryz.prog w = .ok (.enter f args) w)
    (hEk : ∀ w w', E w → Keeps (fun _ => False) w w' → E w') (hS : ∀ w, E w → SegA Win.vs 3 w a xs) (hlen : xs.length ≤ cap ∧ cap ≤ maxLen)
    (hC : ∀ x ∈ xs, ∀ w, E w → Calls Tryz.prog f (#[Win.v x] ++ bs) w fun e w' => e = .returned (.bool (p x)) ∧ Keeps (fun _ => False) w w') (w : World) (hE : E w) :
    Calls Tryz.prog 179 #[.slice a xs.length cap, .func (.func f) #[] bs] w fun e w' => e = .returned (.bool (xs.any p)) ∧ Keeps (fun _ => False) w w' := by
  have HI : Hid (Calls Tryz.prog 183 #[.slice a xs.length cap, .func (.func f) #[] bs] w (IdxP (xs.any p) w)) := indexFunc_win xs a cap f bs E p hent hEk hS hlen hC w hE
  obtain ⟨L, hL⟩ : ∃ L, xs.length = L := ⟨_, rfl⟩
  obtain ⟨B, hB⟩ : ∃ B, xs.any p = B := ⟨_, rfl⟩
  rw [hL, hB] at HI
  rw [hL, hB]
  clear hent hEk hS hlen hC hE hL hB
  go_enter Tryz.func179, Tryz.ntmps179
  go_wp2_with fail
  refine HI.out.mono ?_
  rintro e w1 ⟨⟨z, rfl, hz⟩, hK⟩
  have HK : Hid (Keeps (fun _ => False) w w1) := hK
  clear hK HI
  go_wp2
  go_ret
  exact ⟨rfl, HK.out⟩
end Go.Proofs.YtfbapgcopidbpaaGreat
