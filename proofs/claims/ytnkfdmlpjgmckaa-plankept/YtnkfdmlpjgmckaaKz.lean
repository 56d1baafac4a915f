import Derived.Test.YtnkfdmlpjgmckaaKy
import Derived.Test.YtnkfdmlpjgmckaaT
namespace Go.Proofs.Ytnkfdmlpjgmckaa
open Go.RowKit
set_option linter.unusedVariables false
set_option maxRecDepth 6000

theorem tot_ge {cs : List Core} {X : Core} (h : X ∈ cs) : X.ws.length ≤ tot cs cs.length := by
  obtain ⟨j, hj⟩ := List.getElem?_of_mem h
  have h1 := tot_succ hj
  have h2 := (List.getElem?_eq_some_iff.1 hj).1
  have h3 := tot_le (cs := cs) (i := j + 1) (j := cs.length) (by omega)
  omega
def VastQ (w : World) (x : Cfg) (e : Ending) (w' : World) : Prop := ∃ b, e = .returned (.bool b) ∧ Keeps (fun _ => False) w w' ∧ (b = false → Small x → tot x.cs x.cs.length ≤ 2147483647 ∧ Bnd x)
def CntQ (x : Cfg) (i : Nat) (V : Int) : Prop := I64 V ∧ (Small x → 0 ≤ V ∧ V ≤ 4611686018427387904 ∧ (V ≤ 2147483647 → tot x.cs x.cs.length ≤ 2147483647 ∧ x.cs.length ≤ 2147483647 ∧ x.ps.length ≤ 2147483647 ∧ x.hs.length ≤ 2147483647 ∧ ∀ j P, j < i → x.ps[j]? = some P → P.rs.length ≤ 2147483647 ∧ P.ps.length ≤ 2147483647))
theorem Cnt.turnQ {x : Cfg} {j : Nat} {V : Int} (h : Cnt x j V) (hj : j = x.cs.length ∨ 2147483647 < V) : CntQ x 0 V := by
  refine ⟨h.1, fun hs => ?_⟩
  have h1 := h.2 hs
  refine ⟨by omega, h1.2, fun hV => ?_⟩
  rcases hj with rfl | hj
  · exact ⟨by omega, by omega, by omega, by omega, fun j P hj => by omega⟩
  · omega
theorem CntQ.step {x : Cfg} {j : Nat} {V : Int} {P : Par} (h : CntQ x j V) (hP : x.ps[j]? = some P) (hV : V ≤ 2147483647) : CntQ x (j + 1) (IntKind.i64.wrap (IntKind.i64.wrap (V + P.rs.length) + P.ps.length)) := by
  refine ⟨wrap_I64 _, fun hs => ?_⟩
  have h1 := h.2 hs
  have h2 := hs.2.2 P (List.mem_of_getElem? hP)
  have e1 : IntKind.i64.wrap (V + P.rs.length) = V + P.rs.length := by rw [IntKind.wrap_i64]; omega
  have e2 : IntKind.i64.wrap (V + P.rs.length + P.ps.length) = V + P.rs.length + P.ps.length := by rw [IntKind.wrap_i64]; omega
  rw [e1, e2]
  refine ⟨by omega, by omega, fun hW => ?_⟩
  obtain ⟨a, b, c, d, e⟩ := h1.2.2 hV
  refine ⟨a, b, c, d, fun i Q hi hQ => ?_⟩
  by_cases hij : i < j
  · exact e i Q hij hQ
  · obtain rfl : i = j := by omega
    rw [hP] at hQ
    cases hQ
    omega
theorem CntQ.bnd {x : Cfg} {V : Int} (h : CntQ x x.ps.length V) (hs : Small x) (hV : V ≤ 2147483647) : tot x.cs x.cs.length ≤ 2147483647 ∧ Bnd x := by
  obtain ⟨a, b, c, d, e⟩ := (h.2 hs).2.2 hV
  exact ⟨a, b, c, d, fun X hX => Nat.le_trans (tot_ge hX) a, fun P hP => by obtain ⟨j, hj⟩ := List.getElem?_of_mem hP; exact (e j P (List.getElem?_eq_some_iff.1 hj).1 hj).1, fun P hP => by obtain ⟨j, hj⟩ := List.getElem?_of_mem hP; exact (e j P (List.getElem?_eq_some_iff.1 hj).1 hj).2⟩

theorem CntQ.bndi {x : Cfg} {i : Nat} {V : Int} (h : CntQ x i V) (hi : i = x.ps.length) (hs : Small x) (hV : V ≤ 2147483647) : tot x.cs x.cs.length ≤ 2147483647 ∧ Bnd x := by
  subst hi
  exact h.bnd hs hV

set_option maxHeartbeats 2000000 in
theorem vastQ_any (x : Cfg) (w : World) (N : Nat) (hi : x.In w N) (hN : N ≤ w.heap.size) :
    Calls Try.prog 10 #[x.v] w (VastQ w x) := by
  obtain ⟨W, hW⟩ : ∃ W, W = x.laid w := ⟨_, rfl⟩
  obtain ⟨C, hC⟩ : ∃ C, C = w.heap.size := ⟨_, rfl⟩
  have HO : Hid (One w x C N W) := by rw [hW, hC]; exact One.mk' hi hN
  have hcc : (x.cs.length : Int) ≤ x.cc ∧ (x.cc : Int) ≤ 9223372036854775807 := by have := hi.clen; unfold maxLen at this; omega
  have hpc : (x.ps.length : Int) ≤ x.pc ∧ (x.pc : Int) ≤ 9223372036854775807 := by have := hi.plen; unfold maxLen at this; omega
  obtain ⟨V0, hV0⟩ : ∃ V, IntKind.i64.wrap (IntKind.i64.wrap ((x.cs.length : Int) + x.ps.length) + x.hs.length) = V := ⟨_, rfl⟩
  have HV : Hid (Cnt x 0 V0) := by rw [← hV0]; exact Cnt.start x
  obtain ⟨V1, hV1⟩ : ∃ V, IntKind.i64.wrap ((x.cs.length : Int) + x.ps.length) = V := ⟨_, rfl⟩
  rw [hV1] at hV0
  clear hi hN
  unfold Cfg.laid at hW
  go_enter Try.func10, Try.ntmps10
  go_upto_region 2 with fail
  rw [← hW, ← hC]
  clear hW hC hV0 hV1
  go_wp2
  go_loopw [3, 4] (fun z i wr => ∃ (j : Nat) (V : Int), j ≤ x.cs.length ∧ i = .int .i64 j ∧ z = .int .i64 V ∧ Cnt x j V ∧ One w x C N wr) (fun _ i _ => x.cs.length - (intOf i).toNat)
  case atStart => exact ⟨0, V0, by omega, rfl, rfl, HV.out, HO.out⟩
  case round =>
    obtain ⟨j, V, hj, rfl, rfl, hCn, hO⟩ := hrel
    clear HO HV
    have c4 := hO.cells.2.2.2.2.1
    have HK : Hid (One w x C N wr ∧ Cnt x j V) := ⟨hO, hCn⟩
    clear hO hCn
    by_cases hlt : (j : Int) < x.cs.length ∧ V ≤ 2147483647
    · obtain ⟨hl1, hl2⟩ := hlt
      have hl3 : decide (V ≤ 2147483647) = true := by simp [hl2]
      obtain ⟨X, hX⟩ : ∃ X, x.cs[j]? = some X := ⟨_, List.getElem?_eq_getElem (by omega)⟩
      obtain ⟨g, o, ha, hc⟩ := HK.out.1.cin.core hX
      have HN : Hid (Cnt x (j + 1) (IntKind.i64.wrap (V + X.ws.length))) := HK.out.2.step hX hl2
      obtain ⟨V', hV'⟩ : ∃ V', IntKind.i64.wrap (V + X.ws.length) = V' := ⟨_, rfl⟩
      rw [hV'] at HN
      clear hX
      rw [ha] at c4
      go_wp2
      go_roundw
      case rel => exact ⟨j + 1, V', by omega, by go_num, rfl, HN.out, HK.out.1⟩
      case measure => simp [intOf]; omega
    · have HT : Hid (CntQ x 0 V) := HK.out.2.turnQ (by omega)
      by_cases hl1 : (j : Int) < x.cs.length
      · have hl3 : decide (V ≤ 2147483647) = false := by simp; omega
        clear hlt
        go_wp2
        go_loopw [3, 5] (fun z i wr => ∃ (j : Nat) (V : Int), j ≤ x.ps.length ∧ i = .int .i64 j ∧ z = .int .i64 V ∧ CntQ x j V ∧ One w x C N wr) (fun _ i _ => x.ps.length - (intOf i).toNat)
        case atStart => exact ⟨0, V, by omega, rfl, rfl, HT.out, HK.out.1⟩
        case round =>
          obtain ⟨i, V2, hj, rfl, rfl, hCn, hO⟩ := hrel
          clear HK HT c4
          have c5 := hO.cells.2.2.2.2.2.1
          have HK : Hid (One w x C N wr ∧ CntQ x i V2) := ⟨hO, hCn⟩
          clear hO hCn
          by_cases hl1 : (i : Int) < x.ps.length
          · by_cases hl2 : V2 ≤ 2147483647
            · have hl3 : decide (V2 ≤ 2147483647) = true := by simp [hl2]
              obtain ⟨P, hP⟩ : ∃ P, x.ps[i]? = some P := ⟨_, List.getElem?_eq_getElem (by omega)⟩
              obtain ⟨g, o, ha, hg⟩ := HK.out.1.cin.pseg.at hP
              have p6 := hg 6 _ rfl
              have p7 := hg 7 _ rfl
              have HN : Hid (CntQ x (i + 1) (IntKind.i64.wrap (IntKind.i64.wrap (V2 + P.rs.length) + P.ps.length))) := HK.out.2.step hP hl2
              obtain ⟨V', hV'⟩ : ∃ V', IntKind.i64.wrap (V2 + P.rs.length) = V' := ⟨_, rfl⟩
              rw [hV'] at HN
              obtain ⟨V3, hV3⟩ : ∃ V3, IntKind.i64.wrap (V' + P.ps.length) = V3 := ⟨_, rfl⟩
              rw [hV3] at HN
              clear hP hg
              rw [ha] at c5
              go_upto_region 9 with fail
              go_quiet (fail)
              clear p6 p7 c5
              go_wp2
              go_roundw
              case rel => exact ⟨i + 1, V3, by omega, by go_num, rfl, HN.out, HK.out.1.kept ((Keeps.refl _ _).drewN _)⟩
              case measure => simp [intOf]; omega
            · have hl3 : decide (V2 ≤ 2147483647) = false := by simp [hl2]
              have hl4 : decide (2147483647 < V2) = true := by simp; omega
              go_wp2
              go_ret
              exact ⟨true, rfl, HK.out.1.keeps, fun h => by cases h⟩
          · by_cases hl2 : V2 ≤ 2147483647
            · have hl4 : decide (2147483647 < V2) = false := by simp; omega
              go_wp2
              go_ret
              exact ⟨false, rfl, HK.out.1.keeps, fun _ hs => HK.out.2.bndi (by omega) hs hl2⟩
            · have hl4 : decide (2147483647 < V2) = true := by simp; omega
              go_wp2
              go_ret
              exact ⟨true, rfl, HK.out.1.keeps, fun h => by cases h⟩
      · clear hlt
        go_wp2
        go_loopw [3, 5] (fun z i wr => ∃ (j : Nat) (V : Int), j ≤ x.ps.length ∧ i = .int .i64 j ∧ z = .int .i64 V ∧ CntQ x j V ∧ One w x C N wr) (fun _ i _ => x.ps.length - (intOf i).toNat)
        case atStart => exact ⟨0, V, by omega, rfl, rfl, HT.out, HK.out.1⟩
        case round =>
          obtain ⟨i, V2, hj, rfl, rfl, hCn, hO⟩ := hrel
          clear HK HT c4
          have c5 := hO.cells.2.2.2.2.2.1
          have HK : Hid (One w x C N wr ∧ CntQ x i V2) := ⟨hO, hCn⟩
          clear hO hCn
          by_cases hl1 : (i : Int) < x.ps.length
          · by_cases hl2 : V2 ≤ 2147483647
            · have hl3 : decide (V2 ≤ 2147483647) = true := by simp [hl2]
              obtain ⟨P, hP⟩ : ∃ P, x.ps[i]? = some P := ⟨_, List.getElem?_eq_getElem (by omega)⟩
              obtain ⟨g, o, ha, hg⟩ := HK.out.1.cin.pseg.at hP
              have p6 := hg 6 _ rfl
              have p7 := hg 7 _ rfl
              have HN : Hid (CntQ x (i + 1) (IntKind.i64.wrap (IntKind.i64.wrap (V2 + P.rs.length) + P.ps.length))) := HK.out.2.step hP hl2
              obtain ⟨V', hV'⟩ : ∃ V', IntKind.i64.wrap (V2 + P.rs.length) = V' := ⟨_, rfl⟩
              rw [hV'] at HN
              obtain ⟨V3, hV3⟩ : ∃ V3, IntKind.i64.wrap (V' + P.ps.length) = V3 := ⟨_, rfl⟩
              rw [hV3] at HN
              clear hP hg
              rw [ha] at c5
              go_upto_region 9 with fail
              go_quiet (fail)
              clear p6 p7 c5
              go_wp2
              go_roundw
              case rel => exact ⟨i + 1, V3, by omega, by go_num, rfl, HN.out, HK.out.1.kept ((Keeps.refl _ _).drewN _)⟩
              case measure => simp [intOf]; omega
            · have hl3 : decide (V2 ≤ 2147483647) = false := by simp [hl2]
              have hl4 : decide (2147483647 < V2) = true := by simp; omega
              go_wp2
              go_ret
              exact ⟨true, rfl, HK.out.1.keeps, fun h => by cases h⟩
          · by_cases hl2 : V2 ≤ 2147483647
            · have hl4 : decide (2147483647 < V2) = false := by simp; omega
              go_wp2
              go_ret
              exact ⟨false, rfl, HK.out.1.keeps, fun _ hs => HK.out.2.bndi (by omega) hs hl2⟩
            · have hl4 : decide (2147483647 < V2) = true := by simp; omega
              go_wp2
              go_ret
              exact ⟨true, rfl, HK.out.1.keeps, fun h => by cases h⟩
end Go.Proofs.Ytnkfdmlpjgmckaa
