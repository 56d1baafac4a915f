import Derived.Test.YthepajjbflmchaaI
namespace Go.Proofs.Ythepajjbflmchaa
open Go.RowKit
set_option linter.unusedVariables false

set_option maxRecDepth 20000 in
set_option maxHeartbeats 1000000 in
theorem meets_any (c : Nat) (y : UInt32) (n : Nat) (w : World) (h1 : 1 ≤ c) (hc : c ≤ 4) (hn : n ≤ 1000) :
    Calls Try.prog 7 #[.int .i64 (c : Int), .int .u32 (y.toNat : Int), .int .i64 (n : Int)] w fun e w' => e = .returned (.bool true) ∧ Keeps (fun _ => False) w w' := by
  have HN : Hid (Calls _ _ _ _ _) := mt_new w
  have HC : Hid (1 ≤ c ∧ c ≤ 4) := ⟨h1, hc⟩
  obtain ⟨E, hE⟩ : ∃ E : Nat, E = y.toNat := ⟨_, rfl⟩
  have HE : Hid (E = y.toNat) := hE
  rw [← hE]
  obtain ⟨g, hg⟩ : ∃ g, g = w.heap.size := ⟨_, rfl⟩
  rw [← hg] at HN
  have hc4 : (c : Int) ≤ 4 := by omega
  clear hE hg h1 hc
  obtain ⟨b, hb⟩ : ∃ b, b = g + 1 := ⟨_, rfl⟩
  rw [← hb] at HN
  clear hb
  go_enter Try.func7, Try.ntmps7
  go_wp2_with fail
  refine HN.out.mono ?_
  rintro e w1 ⟨rfl, hk⟩
  have HW := mt_epoch hk y
  rw [← HE.out] at HW
  have HW : Hid (Calls _ _ _ _ _) := HW
  clear hk HN
  go_wp2_with fail
  refine HW.out.mono ?_
  rintro e w2 ⟨rfl, hk⟩
  have HM : Hid (Mt w b g 0 y w2) := hk
  clear hk HW
  go_wp2_with fail
  go_loopw [9] (fun i wr => ∃ j : Nat, j ≤ n ∧ i = .int .i64 (j : Int) ∧ Mt w b g 0 (y + UInt32.ofNat j) wr) (fun i _ => n - (intOf i).toNat)
  case atStart => exact ⟨0, by omega, rfl, by have h := HM.out; simpa using h⟩
  case round =>
    obtain ⟨j, hj, rfl, hM⟩ := hrel
    clear HM
    by_cases hlt : j < n
    · have hlt' : (j : Int) < n := by omega
      obtain ⟨z, hz⟩ : ∃ z, z = y + UInt32.ofNat j := ⟨_, rfl⟩
      have HZ : Hid (z = y + UInt32.ofNat j) := hz
      rw [← hz] at hM
      have HL := mt_look hM (by omega)
      have HM : Hid (Mt w b g 0 z wr) := hM
      obtain ⟨Z, hZ⟩ : ∃ Z : Nat, Z = z.toNat := ⟨_, rfl⟩
      have HZ2 : Hid (Z = z.toNat) := hZ
      rw [← hZ] at HL
      have HL : Hid (Calls _ _ _ _ _) := HL
      clear hM hz hZ
      go_wp2_with fail
      refine HL.out.mono ?_
      rintro e w3 ⟨rfl, hk⟩
      have hM3 : Mt w b g 0 z (w3.alloc (.cells #[.int .i64 ((0 : Nat) : Int), .int .i64 (Z : Int)] 42)) := HM.out.grown (hk.alloc _)
      have hA := Blk.new w3 #[.int .i64 ((0 : Nat) : Int), .int .i64 (Z : Int)] 42
      have hAg : ¬ w3.heap.size = g := by have := HM.out.mm.row.lt; have := hk.size; omega
      obtain ⟨A, hAA⟩ : ∃ A, A = w3.heap.size := ⟨_, rfl⟩
      rw [← hAA] at hA hAg
      have H0 : Hid (Mt w b g 0 z (w3.alloc (.cells #[.int .i64 ((0 : Nat) : Int), .int .i64 (Z : Int)] 42)) ∧ Blk (w3.alloc (.cells #[.int .i64 ((0 : Nat) : Int), .int .i64 (Z : Int)] 42)) A [.int .i64 ((0 : Nat) : Int), .int .i64 (Z : Int)] 42 ∧ ¬ A = g ∧ A = w3.heap.size) := ⟨hM3, hA, hAg, hAA⟩
      clear hM3 hA hAg hk HL HM hAA
      go_wp2_with fail
      rw [← H0.out.2.2.2]
      obtain ⟨wz, hwz⟩ : ∃ wz, wz = wr := ⟨_, rfl⟩
      subst hwz
      go_loopw [12] (fun i wq => ∃ x : Nat, x ≤ c ∧ i = .int .i64 ((x : Int) + 1) ∧ Mt w b g x z wq ∧ Blk wq A [.int .i64 ((0 : Nat) : Int), .int .i64 (Z : Int)] 42) (fun i _ => c + 1 - (intOf i).toNat)
      case atStart => exact ⟨0, by omega, rfl, H0.out.1, H0.out.2.1⟩
      case round =>
        obtain ⟨x, hx, rfl, hM, hA⟩ := hrel
        by_cases hxc : x < c
        · have hxc' : (x : Int) + 1 ≤ (c : Int) := by omega
          have HS : Hid (Calls _ _ _ _ _) := mt_short hM hxc HC.out.2
          have HM : Hid (Mt w b g x z wr ∧ Blk wr A [.int .i64 ((0 : Nat) : Int), .int .i64 (Z : Int)] 42) := ⟨hM, hA⟩
          clear hM hA
          go_wp2_with fail
          refine HS.out.mono ?_
          rintro e w4 ⟨rfl, hk⟩
          have HM4 : Hid (Mt w b g x z w4 ∧ Blk w4 A [.int .i64 ((0 : Nat) : Int), .int .i64 (Z : Int)] 42) := ⟨HM.out.1.grown hk, HM.out.2.kept hk (fun e => e)⟩
          have HS2 : Hid (Calls _ _ _ _ _) := mt_come HM4.out.1 hxc HC.out.2
          clear hk HM HS
          go_wp2_with fail
          refine HS2.out.mono ?_
          rintro e w5 ⟨rfl, hM5, hk⟩
          have HM5 : Hid (Mt w b g (x + 1) z w5 ∧ Blk w5 A [.int .i64 ((0 : Nat) : Int), .int .i64 (Z : Int)] 42) := ⟨hM5, HM4.out.2.kept hk H0.out.2.2.1⟩
          obtain ⟨q, hq⟩ : ∃ q : Bool, q = ((x : Int) + 1 == (c : Int)) := ⟨_, rfl⟩
          rw [← hq]
          have hq2 : ((x : Int) + 1 == (c : Int)) = q := hq.symm
          clear hM5 hk HM4 HS2 hq
          go_wp2
          go_roundw
          case rel => exact ⟨x + 1, by omega, by go_num, HM5.out.1, HM5.out.2⟩
          case measure => simp [intOf]; omega
        · obtain rfl : x = c := by omega
          have hxc' : ¬ ((x : Int) + 1 ≤ (x : Int)) := by omega
          have HS : Hid (Calls _ _ _ _ _) := mt_full hM HC.out.1 HC.out.2
          have HM : Hid (Mt w b g x z wr ∧ Blk wr A [.int .i64 ((0 : Nat) : Int), .int .i64 (Z : Int)] 42) := ⟨hM, hA⟩
          clear hM hA
          go_wp2_with fail
          refine HS.out.mono ?_
          rintro e w4 ⟨rfl, hk⟩
          have HM4 : Hid (Mt w b g x z w4 ∧ Blk w4 A [.int .i64 ((0 : Nat) : Int), .int .i64 (Z : Int)] 42) := ⟨HM.out.1.grown hk, HM.out.2.kept hk (fun e => e)⟩
          have HL := mt_look HM4.out.1 HC.out.2
          rw [← HZ2.out] at HL
          have HL : Hid (Calls _ _ _ _ _) := HL
          clear hk HM HS
          go_wp2_with fail
          refine HL.out.mono ?_
          rintro e w5 ⟨rfl, hk⟩
          have HM5 : Hid (Mt w b g x z (w5.alloc (.cells #[.int .i64 (x : Int), .int .i64 (Z : Int)] 42)) ∧ Blk w5 A [.int .i64 ((0 : Nat) : Int), .int .i64 (Z : Int)] 42) := ⟨HM4.out.1.grown (hk.alloc _), HM4.out.2.kept hk (fun e => e)⟩
          have a0 := HM5.out.2.cell (i := 1) rfl
          have a1 := HM5.out.2.lt
          have HO : Hid (Calls _ _ _ _ _) := mt_open HM5.out.1 HC.out.1 HC.out.2
          clear hk HM4 HL
          go_wp2_with fail
          refine HO.out.mono ?_
          rintro e w6 ⟨rfl, hM6, hk⟩
          have HL := mt_look hM6 (by omega)
          obtain ⟨U, hU⟩ : ∃ U : Nat, U = (z + 1).toNat := ⟨_, rfl⟩
          rw [← hU] at HL
          have HU : Hid (U = (z + 1).toNat) := hU
          have HM6 : Hid (Mt w b g 0 (z + 1) w6) := hM6
          have HL : Hid (Calls _ _ _ _ _) := HL
          clear hk HM5 HO a0 a1 hM6 hU
          go_wp2_with fail
          refine HL.out.mono ?_
          rintro e w7 ⟨rfl, hk⟩
          have HM7 : Hid (Mt w b g 0 (z + 1) (w7.alloc (.cells #[.int .i64 ((0 : Nat) : Int), .int .i64 (U : Int)] 42))) := HM6.out.grown (hk.alloc _)
          have hU2 : ((E : Int) + (j : Int) + 1) % 4294967296 = (U : Int) := by
            rw [HU.out, HZ.out, HE.out, UInt32.toNat_add, UInt32.toNat_add, UInt32.toNat_ofNat']
            have : (1 : UInt32).toNat = 1 := rfl
            omega
          clear hk HM6 HL
          go_wp2_with fail
          go_roundw
          case rel =>
            have e : y + UInt32.ofNat (j + 1) = z + 1 := by
              rw [HZ.out, UInt32.add_assoc]
              congr 1
              apply UInt32.toNat_inj.1
              simp
            exact ⟨j + 1, by omega, by go_num, by rw [e]; exact HM7.out⟩
          case measure => simp [intOf]; omega
    · obtain rfl : j = n := by omega
      have hlt' : ¬ ((j : Int) < (j : Int)) := by omega
      obtain ⟨z, hz⟩ : ∃ z, z = y + UInt32.ofNat j := ⟨_, rfl⟩
      rw [← hz] at hM
      have HM : Hid (Mt w b g 0 z wr) := hM
      clear hM hz
      go_wp2_with fail
      obtain ⟨wz, hwz⟩ : ∃ wz, wz = wr := ⟨_, rfl⟩
      subst hwz
      go_loopw [21] (fun i wq => ∃ q : Nat, q ≤ 16 ∧ i = .int .i64 (q : Int) ∧ Mt w b g 0 z wq) (fun i _ => 16 - (intOf i).toNat)
      case atStart => exact ⟨0, by omega, rfl, HM.out⟩
      case round =>
        clear HM
        obtain ⟨q, hq, rfl, hM⟩ := hrel
        have HM : Hid (Mt w b g 0 z wr) := hM
        by_cases hq2 : q < 16
        · have HR : Hid (Calls _ _ _ _ _) := mt_read hM q hq2
          have hq3 : (q : Int) < 16 := by omega
          clear hM
          go_wp2_with fail
          refine HR.out.mono ?_
          rintro e w4 ⟨⟨v, hv, rfl⟩, hw⟩
          obtain rfl := hw.symm
          clear hw HR
          by_cases h34 : q = 3 ∨ q = 4
          · have hb : ((q : Int) != 3 && (q : Int) != 4) = false := by rcases h34 with rfl | rfl <;> rfl
            clear hv
            rcases h34 with rfl | rfl
            · go_wp2
              go_roundw
              case rel => exact ⟨4, by omega, rfl, HM.out⟩
              case measure => simp [intOf]
            · go_wp2
              go_roundw
              case rel => exact ⟨5, by omega, rfl, HM.out⟩
              case measure => simp [intOf]
          · obtain rfl := hv (by omega) (by omega)
            have h3 : ((q : Int) != 3) = true := by simp; omega
            have h4 : ((q : Int) != 4) = true := by simp; omega
            clear hv h34
            go_wp2
            go_roundw
            case rel => exact ⟨q + 1, by omega, by go_num, HM.out⟩
            case measure => simp [intOf]; omega
        · obtain rfl : q = 16 := by omega
          clear hM
          go_wp2
          go_ret
          exact ⟨rfl, HM.out.k⟩

end Go.Proofs.Ythepajjbflmchaa
