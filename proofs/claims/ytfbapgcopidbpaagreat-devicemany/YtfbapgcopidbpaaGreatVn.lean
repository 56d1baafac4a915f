import Derived.Test.YtfbapgcopidbpaaGreatVm
namespace Go.Proofs.YtfbapgcopidbpaaGreat
open Go.RowKit Go.Shelf
set_option linter.unusedVariables false
set_option maxRecDepth 8000
set_option linter.unusedSimpArgs false
def VsP (w : World) (e : Ending) (w' : World) : Prop := (e = .returned (.bool true) ∨ e = .returned (.bool false)) ∧ Keeps (fun _ => False) w w'
set_option maxHeartbeats 2000000 in
theorem vast_any (x : Cfg) (w : World) (N : Nat) (hi : x.In w N) (hN : N ≤ w.heap.size) : Calls Tryz.prog 14 #[x.v] w (VsP w) := by
 obtain ⟨W, hW⟩ : ∃ W, W = x.laid w := ⟨_, rfl⟩
 obtain ⟨C, hC⟩ : ∃ C, C = w.heap.size := ⟨_, rfl⟩
 have HO : Hid (One w x C N W) := by rw [hW, hC]; exact One.mk' hi hN
 obtain ⟨NC, hNC⟩ : ∃ n, x.cs.length = n := ⟨_, rfl⟩
 obtain ⟨NP, hNP⟩ : ∃ n, x.ps.length = n := ⟨_, rfl⟩
 obtain ⟨NH, hNH⟩ : ∃ n, x.hs.length = n := ⟨_, rfl⟩
 have HN : Hid (x.cs.length = NC ∧ x.ps.length = NP ∧ x.hs.length = NH) := ⟨hNC, hNP, hNH⟩
 have hcc : (NC : Int) ≤ x.cc ∧ (x.cc : Int) ≤ 9223372036854775807 := by have := hi.clen; unfold maxLen at this; omega
 have hpc : (NP : Int) ≤ x.pc ∧ (x.pc : Int) ≤ 9223372036854775807 := by have := hi.plen; unfold maxLen at this; omega
 obtain ⟨S1, hS1⟩ : ∃ S, IntKind.i64.wrap ((NC : Int) + NP) = S := ⟨_, rfl⟩
 obtain ⟨S2, hS2⟩ : ∃ S, IntKind.i64.wrap (S1 + (NH : Int)) = S := ⟨_, rfl⟩
 clear hi hN hNC hNP hNH
 unfold Cfg.laid at hW
 go_enter Tryz.func14, Tryz.ntmps14
 go_upto_region 1 with fail
 rw [← hW, ← hC]
 clear hW hC
 obtain ⟨q0, q1, q2, q3, q4, q5, q6⟩ := HO.out.cells
 rw [HN.out.1] at q4
 rw [HN.out.2.1] at q5
 rw [HN.out.2.2] at q6
 have HF : Hid (Keeps (fun _ => False) w W) := HO.out.keeps
 clear q0 q1 q2 q3
 go_wp2_with fail
 clear hS1 hS2
 go_loopw [3, 4] (fun l i wr => ∃ (j : Nat) (lv : Int), j ≤ NC ∧ i = .int .i64 j ∧ l = .int .i64 lv ∧ W = wr) (fun _ i _ => NC - (intOf i).toNat)
 case atStart => exact ⟨0, S2, by omega, rfl, rfl, rfl⟩
 case round =>
  obtain ⟨j, lv, hj, rfl, rfl, rfl⟩ := hrel
  by_cases hgo : j < NC ∧ lv ≤ 2147483647
  ·
   obtain ⟨hlt, hlv⟩ := hgo
   obtain ⟨c, hc⟩ : ∃ c, x.cs[j]? = some c := ⟨_, List.getElem?_eq_getElem (by have := HN.out.1; omega)⟩
   have hci := HO.out.cin.cin c (List.mem_of_getElem? hc)
   obtain ⟨g, o, ha, hg⟩ := HO.out.cin.cseg.at hc
   have r0 := hg 0 _ rfl
   rw [Nat.mul_one, Nat.add_zero] at r0
   rw [ha] at q4
   obtain ⟨wl, hwl⟩ : ∃ n, c.ws.length = n := ⟨_, rfl⟩
   rw [hwl] at r0
   have hwc : (wl : Int) ≤ c.c ∧ (c.c : Int) ≤ 9223372036854775807 := by have := hci.len; unfold maxLen at this; omega
   have hlt' : (j : Int) < NC := by omega
   obtain ⟨S3, hS3⟩ : ∃ S, IntKind.i64.wrap (lv + (wl : Int)) = S := ⟨_, rfl⟩
   clear hg hci hc hwl ha
   go_wp2
   go_roundw
   case rel => exact ⟨j + 1, S3, by omega, by go_num, rfl, trivial⟩
   case measure => simp [intOf]; omega
  ·
   by_cases hlt : j < NC
   ·
    have hlv : 2147483647 < lv := by have : ¬ lv ≤ 2147483647 := fun h => hgo ⟨hlt, h⟩; omega
    have hlt' : (j : Int) < NC := by omega
    have hnl : ¬ lv ≤ 2147483647 := by omega
    clear hgo
    go_wp2
    clear q4 q5 q6
    go_loopw [3, 5] (fun l i wr => ∃ (j : Nat) (lv : Int), j ≤ NP ∧ i = .int .i64 j ∧ l = .int .i64 lv ∧ Keeps (fun _ => False) W wr) (fun _ i _ => NP - (intOf i).toNat)
    case atStart => exact ⟨0, lv, by omega, rfl, rfl, Keeps.refl _ _⟩
    case round =>
     obtain ⟨k, lw, hk, rfl, rfl, hK⟩ := hrel
     have hO := HO.out.kept hK
     have q5 := hO.cells.2.2.2.2.2.1
     rw [HN.out.2.1] at q5
     have HK : Hid (Keeps (fun _ => False) W wr) := hK
     by_cases hlk : k < NP
     ·
      have hlk' : (k : Int) < NP := by omega
      by_cases hlw : lw ≤ 2147483647
      ·
       obtain ⟨X, hX⟩ : ∃ X, x.ps[k]? = some X := ⟨_, List.getElem?_eq_getElem (by have := HN.out.2.1; omega)⟩
       have hXi := hO.cin.pin X (List.mem_of_getElem? hX)
       obtain ⟨g, o, ha, hc⟩ := hO.cin.par hX
       have p6 := hc 6 _ rfl
       have p7 := hc 7 _ rfl
       rw [ha] at q5
       obtain ⟨rl, hrl⟩ : ∃ n, X.rs.length = n := ⟨_, rfl⟩
       obtain ⟨pl, hpl⟩ : ∃ n, X.ps.length = n := ⟨_, rfl⟩
       rw [hrl] at p6
       rw [hpl] at p7
       obtain ⟨S3, hS3⟩ : ∃ S, IntKind.i64.wrap (lw + (rl : Int)) = S := ⟨_, rfl⟩
       obtain ⟨S4, hS4⟩ : ∃ S, IntKind.i64.wrap (S3 + (pl : Int)) = S := ⟨_, rfl⟩
       clear hO hX hXi hc hrl hpl hK ha
       go_upto_region 9 with fail
       go_still Tryz.mixed
       go_wp2
       go_roundw
       case rel => exact ⟨k + 1, S4, by omega, by go_num, rfl, HK.out.drew⟩
       case measure => simp [intOf]; omega
      ·
       have hlw' : 2147483647 < lw := by omega
       clear hO hK
       go_wp2
       go_ret
       exact ⟨.inl rfl, HF.out.trans HK.out fun _ _ h => h⟩
     ·
      obtain rfl : k = NP := by omega
      clear hO hK
      by_cases hlw : 2147483647 < lw
      ·
       go_wp2
       go_ret
       exact ⟨.inl rfl, HF.out.trans HK.out fun _ _ h => h⟩
      ·
       go_wp2
       go_ret
       exact ⟨.inr rfl, HF.out.trans HK.out fun _ _ h => h⟩
   ·
    obtain rfl : j = NC := by omega
    clear hgo
    go_wp2
    clear q4 q5 q6
    go_loopw [3, 5] (fun l i wr => ∃ (j : Nat) (lv : Int), j ≤ NP ∧ i = .int .i64 j ∧ l = .int .i64 lv ∧ Keeps (fun _ => False) W wr) (fun _ i _ => NP - (intOf i).toNat)
    case atStart => exact ⟨0, lv, by omega, rfl, rfl, Keeps.refl _ _⟩
    case round =>
     obtain ⟨k, lw, hk, rfl, rfl, hK⟩ := hrel
     have hO := HO.out.kept hK
     have q5 := hO.cells.2.2.2.2.2.1
     rw [HN.out.2.1] at q5
     have HK : Hid (Keeps (fun _ => False) W wr) := hK
     by_cases hlk : k < NP
     ·
      have hlk' : (k : Int) < NP := by omega
      by_cases hlw : lw ≤ 2147483647
      ·
       obtain ⟨X, hX⟩ : ∃ X, x.ps[k]? = some X := ⟨_, List.getElem?_eq_getElem (by have := HN.out.2.1; omega)⟩
       have hXi := hO.cin.pin X (List.mem_of_getElem? hX)
       obtain ⟨g, o, ha, hc⟩ := hO.cin.par hX
       have p6 := hc 6 _ rfl
       have p7 := hc 7 _ rfl
       rw [ha] at q5
       obtain ⟨rl, hrl⟩ : ∃ n, X.rs.length = n := ⟨_, rfl⟩
       obtain ⟨pl, hpl⟩ : ∃ n, X.ps.length = n := ⟨_, rfl⟩
       rw [hrl] at p6
       rw [hpl] at p7
       obtain ⟨S3, hS3⟩ : ∃ S, IntKind.i64.wrap (lw + (rl : Int)) = S := ⟨_, rfl⟩
       obtain ⟨S4, hS4⟩ : ∃ S, IntKind.i64.wrap (S3 + (pl : Int)) = S := ⟨_, rfl⟩
       clear hO hX hXi hc hrl hpl hK ha
       go_upto_region 9 with fail
       go_still Tryz.mixed
       go_wp2
       go_roundw
       case rel => exact ⟨k + 1, S4, by omega, by go_num, rfl, HK.out.drew⟩
       case measure => simp [intOf]; omega
      ·
       have hlw' : 2147483647 < lw := by omega
       clear hO hK
       go_wp2
       go_ret
       exact ⟨.inl rfl, HF.out.trans HK.out fun _ _ h => h⟩
     ·
      obtain rfl : k = NP := by omega
      clear hO hK
      by_cases hlw : 2147483647 < lw
      ·
       go_wp2
       go_ret
       exact ⟨.inl rfl, HF.out.trans HK.out fun _ _ h => h⟩
      ·
       go_wp2
       go_ret
       exact ⟨.inr rfl, HF.out.trans HK.out fun _ _ h => h⟩
end Go.Proofs.YtfbapgcopidbpaaGreat
