import Derived.Test.YthaoopaafdgioaaKc
namespace Go.Proofs.Ythaoopaafdgioaa
open Go.RowKit
set_option linter.unusedVariables false
set_option linter.unusedSimpArgs false
set_option maxRecDepth 8000

def nwT (i k : Nat) : List Value := [.int .i64 (1000 * (i : Int) + k)]
def nwD (i k : Nat) : List Value := [.int .i64 (1000 * (i : Int) + k), .int .i64 0, .int .i64 0]
theorem Try.info38 : (Try.prog.info? 38).map (fun i => (i.zero, i.size, i.bytes)) = some (some (.slice none 0 0), 1, 24) := by kernel_rfl
theorem Try.info57 : (Try.prog.info? 57).map (fun i => (i.zero, i.size, i.bytes)) = some (some (.slice none 0 0), 1, 24) := by kernel_rfl
theorem own_slice {w : World} {e : TypeId} {s n : Nat} {v : Value} {xs : List Value} (h : w.ownsRow 0 e s v n xs) : ∃ a cap, v = .slice a n cap ∧ n ≤ cap ∧ cap ≤ maxLen := by
  rcases h.2 with ⟨h2, h3⟩ | ⟨g, cap, cur, h2, _, _, h4, h5, _⟩
  · exact ⟨none, 0, by rw [h2, h3], by omega, by unfold maxLen; omega⟩
  · exact ⟨_, cap, h2, h4, h5⟩
theorem own_one {w : World} {e : TypeId} {s n : Nat} {v : Value} {xs : List Value} (h : w.ownsRow 0 e s v n xs) : v.oneCell' = true := by
  obtain ⟨a, cap, e, _⟩ := own_slice h
  rw [e]; rfl
/-- The blocks of all lists within. -/
def InB (L H : Nat) (F : Nat → PP) (G : Nat → CP) (b : Nat) : Prop := (∃ i, i < L ∧ (F i).tv.ownBlock = some b) ∨ ∃ i, i < H ∧ (G i).dv.ownBlock = some b

set_option maxHeartbeats 16000000 in
theorem grown_any (A En : Int) (a1 a2 : Option Addr) (L H : Nat) (F : Nat → PP) (G : Nat → CP) (lt ld : Nat → Nat) (XT XD : Nat → List Value) (of og : Nat → Nat) (hb : L ≤ 8 ∧ H ≤ 16) (hlt : ∀ i, i < L → lt i ≤ 1000) (hld : ∀ i, i < H → ld i ≤ 1000)
    (of0 : of 0 = 0) (ofs : ∀ i, i < L → of (i + 1) = of i + lt i) (og0 : og 0 = of L) (ogs : ∀ i, i < H → og (i + 1) = og i + ld i)
    (ofb : ∀ i, of i ≤ 1000000) (ogb : ∀ i, og i ≤ 1000000)
    (hXT : ∀ i, i < L → ∀ k, k < lt i → (XT i)[k]? = some (.int .i64 (-((of i + k + 1 : Nat) : Int)))) (hXD : ∀ i, i < H → ∀ k, k < ld i → (XD i)[k * 3]? = some (.int .i64 (-((og i + k + 1 : Nat) : Int)))) (w : World)
    (hP : ∀ i, i < L → ∃ b1, a1 = some ⟨b1, 0, none⟩ ∧ Blk w b1 (row5 (fun i => (F i).vs) L) 55) (hH : ∀ i, i < H → ∃ b2, a2 = some ⟨b2, 0, none⟩ ∧ Blk w b2 (row5 (fun i => (G i).vs) H) 59)
    (hT : ∀ i, i < L → w.ownsRow 0 3 1 (F i).tv (lt i) (XT i)) (hD : ∀ i, i < H → w.ownsRow 0 63 3 (G i).dv (ld i) (XD i)) (pF : PwF L F) (pG : PwG H G) :
    Calls Try.prog 27 #[.agg #[.int .i64 A, .slice a1 L L, .slice a2 H H, .int .i64 En]] w fun e w' => e = .returned (.bool true) ∧ Keeps (InB L H F G) w w' := by
  obtain ⟨W, hW⟩ : ∃ W, W = w.alloc (.cells #[.int .i64 A, .slice a1 L L, .slice a2 H H, .int .i64 En] 30) := ⟨_, rfl⟩
  obtain ⟨C, hC⟩ : ∃ C, C = w.heap.size := ⟨_, rfl⟩
  obtain ⟨M, hM⟩ : ∃ M : Nat, M = 17 := ⟨_, rfl⟩
  have HM : Hid (M = 17) := hM
  have kW : Keeps (fun _ => False) w W := by rw [hW]; exact (Keeps.refl _ _).alloc _
  have HO : Hid (Keeps (fun _ => False) w W ∧ (∀ i, i < L → W.ownsRow 0 3 1 (F i).tv (lt i) (XT i)) ∧ (∀ i, i < H → W.ownsRow 0 63 3 (G i).dv (ld i) (XD i))) :=
    ⟨kW, fun i hi => owns_kept (hT i hi) kW fun _ _ h => h, fun i hi => owns_kept (hD i hi) kW fun _ _ h => h⟩
  have HPW : Hid (PwU L (fun i => (F i).tv) ∧ PwU H (fun i => (G i).dv)) := ⟨pF, pG⟩
  have HCL : Hid (∀ w', Keeps (InB L H F G) W w' → Blk w' C [.int .i64 A, .slice a1 L L, .slice a2 H H, .int .i64 En] 30 ∧ (∀ i, i < L → ∃ b1, a1 = some ⟨b1, 0, none⟩ ∧ w'.cell? ⟨b1, i * 5 + 4, none⟩ = some (F i).tv) ∧ (∀ i, i < H → ∃ b2, a2 = some ⟨b2, 0, none⟩ ∧ w'.cell? ⟨b2, i * 5 + 4, none⟩ = some (G i).dv)) := fun w' hK => by
    have hBC : Blk W C [.int .i64 A, .slice a1 L L, .slice a2 H H, .int .i64 En] 30 := by rw [hW, hC]; exact Blk.new _ _ _
    have ne : ∀ {b : Nat} {cs : List Value} {t : TypeId}, Blk W b cs t → (3 : TypeId) ≠ t → (63 : TypeId) ≠ t → ¬ InB L H F G b := fun hB h3 h63 hI => by
      rcases hI with ⟨i, hi, e⟩ | ⟨i, hi, e⟩
      · exact own_blk_ne (HO.out.2.1 i hi) hB h3 e
      · exact own_blk_ne (HO.out.2.2 i hi) hB h63 e
    refine ⟨hBC.kept hK (ne hBC (by decide) (by decide)), fun i hi => ?_, fun i hi => ?_⟩
    · obtain ⟨b, e, hB⟩ := hP i hi
      have hB1 := hB.kept kW fun h => h
      exact ⟨b, e, (hB1.kept hK (ne hB1 (by decide) (by decide))).cell (by rw [row5_get (fun i => PP.vs5 _) hi (by omega)]; rfl)⟩
    · obtain ⟨b, e, hB⟩ := hH i hi
      have hB1 := hB.kept kW fun h => h
      exact ⟨b, e, (hB1.kept hK (ne hB1 (by decide) (by decide))).cell (by rw [row5_get (fun i => CP.vs5 _) hi (by omega)]; rfl)⟩
  have HX : Hid ((∀ i, i < L → lt i ≤ 1000) ∧ (∀ i, i < H → ld i ≤ 1000) ∧ of 0 = 0 ∧ (∀ i, i < L → of (i + 1) = of i + lt i) ∧ og 0 = of L ∧ (∀ i, i < H → og (i + 1) = og i + ld i) ∧ (∀ i, of i ≤ 1000000) ∧ (∀ i, og i ≤ 1000000)) := ⟨hlt, hld, of0, ofs, og0, ogs, ofb, ogb⟩
  have HXX : Hid ((∀ i, i < L → ∀ k, k < lt i → (XT i)[k]? = some (.int .i64 (-((of i + k + 1 : Nat) : Int)))) ∧ (∀ i, i < H → ∀ k, k < ld i → (XD i)[k * 3]? = some (.int .i64 (-((og i + k + 1 : Nat) : Int))))) := ⟨hXT, hXD⟩
  have hL8 : (L : Int) ≤ 8 := by omega
  have hH16 : (H : Int) ≤ 16 := by omega
  have hb1 := hb.1
  have hb2 := hb.2
  clear hb hP hH hT hD pF pG hlt hld of0 ofs og0 ogs ofb ogb hXT hXD kW hM
  go_enter Try.func27, Try.ntmps27
  go_upto_region 1 with fail
  rw [← hW, ← hC]
  clear hW hC
  have s1 := (HCL.out W (Keeps.refl _ _)).1.cell (i := 1) rfl
  go_wp2
  clear s1

  go_loopw [3, 23] (fun tv i wr => ∃ (j : Nat) (V : Nat → Value), j ≤ L ∧ i = .int .i64 j ∧ GA W 3 38 1 L M (fun i => (F i).tv) lt XT nwT j V tv wr) (fun _ i _ => L - (intOf i).toNat)
  case atStart => exact ⟨0, _, by omega, rfl, GA.start HO.out.2.1⟩
  case round =>
    obtain ⟨j, V, hj, rfl, hG⟩ := hrel
    by_cases hltj : j < L
    · have hK : Keeps (InB L H F G) W wr := hG.kp.mono fun b _ ⟨i, hi, e⟩ => .inl ⟨i, hi, e⟩
      obtain ⟨hBC, hc1, hc2⟩ := HCL.out wr hK
      have l1 := hBC.cell (i := 1) rfl
      obtain ⟨bb, ha1, r4⟩ := hc1 j hltj
      obtain ⟨Wj, hWj⟩ : ∃ Wj, Wj = wr := ⟨_, rfl⟩
      subst hWj
      have HG : Hid (GA W 3 38 1 L M (fun i => (F i).tv) lt XT nwT j V u3 Wj ∧ j < L) := ⟨hG, hltj⟩
      have hltj' : (j : Int) < L := by omega
      have hwj : IntKind.i64.wrap (1000 * (j : Int)) = 1000 * (j : Int) := by rw [IntKind.wrap_i64]; omega
      have HA1 : Hid (a1 = some ⟨bb, 0, none⟩) := ha1
      rw [ha1] at l1
      clear hBC hc1 hc2 hK hG ha1
      go_wp2
      clear l1 r4
      go_loopw [5, 32] (fun v i wr => ∃ k : Nat, k ≤ M ∧ i = .int .i64 k ∧ Apd Wj 3 1 (F j).tv (lt j) (XT j) (nwT j) k v wr) (fun _ i _ => M - (intOf i).toNat)
      case atStart => exact ⟨0, by omega, rfl, Apd.start _ (HG.out.1.old j HG.out.2)⟩
      case round =>
        obtain ⟨k, hk, rfl, hA⟩ := hrel
        by_cases hltk : k < M
        · have hltk' : (k : Int) < 17 := by have := HM.out; omega
          obtain ⟨cv, hcv⟩ : ∃ cv, 1000 * (j : Int) + (k : Int) = cv := ⟨_, rfl⟩
          have wcv : IntKind.i64.wrap (1000 * (j : Int) + (k : Int)) = cv := by rw [IntKind.wrap_i64]; omega
          have hll := HX.out.1 j HG.out.2
          obtain ⟨v', W', happ, hA'⟩ := hA.step (HG.out.1.old j HG.out.2) 38 (.int .i64 0) 8 Try.underlying38 Try.info3 rfl (by omega) (by omega) #[.int .i64 cv] (by rw [← hcv]; rfl) rfl (by unfold nwT; exact fun u hu => by simp only [List.mem_cons, List.not_mem_nil, or_false] at hu; rcases hu with rfl; rfl) (by have := HM.out; omega)
          have HAP : Hid (∀ ty, (Builtin.append_ #[38, 38] ty #[u5, .slice (some ⟨wr.heap.size, 0, none⟩) 1 1]).run Try.prog (wr.alloc (.cells #[.int .i64 cv] 3)) = .ok v' W') := happ
          have HN : Hid (Apd Wj 3 1 (F j).tv (lt j) (XT j) (nwT j) (k + 1) v' W') := hA'
          clear happ hA hA' hll hcv
          go_wp2_with (at_builtin; go_must (refine wpList_append_run rfl (.tmp 35) (.tmp 40) 38 38 rfl u5 (.slice (some ⟨wr.heap.size, 0, none⟩) 1 1) v' W' rfl rfl HAP.out ?_; refine Hid.out ?_))
          unfold Hid
          clear HAP
          go_wp2
          go_roundw
          case rel => exact ⟨k + 1, by omega, by go_num, HN.out⟩
          case measure => simp [intOf]; omega
        · obtain rfl : M = k := by omega
          have hM1 : ¬ (M : Int) < 17 := by have := HM.out; omega
          obtain ⟨tv', w2, happ, V', hG2⟩ := HG.out.1.step HO.out.2.1 HPW.out.1 HG.out.2 hA 87 (by decide) Try.underlying87 Try.info38 (by omega) (own_one hA.own)
          obtain ⟨va, vcap, hv, _, _⟩ := own_slice hA.own
          subst hv
          have HAP : Hid (∀ ty, (Builtin.append_ #[87, 87] ty #[u3, .slice (some ⟨wr.heap.size, 0, none⟩) 1 1]).run Try.prog (wr.alloc (.cells #[.slice va (lt j + M) vcap] 38)) = .ok tv' w2) := happ
          have HN : Hid (GA W 3 38 1 L M (fun i => (F i).tv) lt XT nwT (j + 1) V' tv' w2) := hG2
          clear happ hA hG2 hk hltk
          go_wp2_with (at_builtin; go_must (refine wpList_append_run rfl (.tmp 43) (.tmp 45) 87 87 rfl u3 (.slice (some ⟨wr.heap.size, 0, none⟩) 1 1) tv' w2 rfl rfl HAP.out ?_; refine Hid.out ?_))
          unfold Hid
          clear HAP
          go_wp2
          go_roundw
          case rel => exact ⟨j + 1, V', by have := HG.out.2; omega, by go_num, HN.out⟩
          case measure => have := HG.out.2; simp [intOf]; omega
    · obtain rfl : L = j := by omega
      obtain ⟨WB, hWB⟩ : ∃ WB, WB = wr := ⟨_, rfl⟩
      subst hWB
      have HA : Hid (GA W 3 38 1 L M (fun i => (F i).tv) lt XT nwT L V u3 WB) := hG
      have kA : Keeps (InB L H F G) W WB := hG.kp.mono fun b _ ⟨i, hi, e⟩ => .inl ⟨i, hi, e⟩
      have HDB : Hid (Keeps (InB L H F G) W WB ∧ ∀ i, i < H → WB.ownsRow 0 63 3 (G i).dv (ld i) (XD i)) := ⟨kA, fun i hi => owns_kept (HO.out.2.2 i hi) hG.kp fun k hk ⟨m, hm, e⟩ => own_ne (HO.out.2.1 m hm) (HO.out.2.2 i hi) (by decide) e hk⟩
      have l2 := (HCL.out WB kA).1.cell (i := 2) rfl
      clear hG kA hj hltj
      go_wp2
      clear l2
      go_loopw [7, 51] (fun tv i wr => ∃ (j : Nat) (V2 : Nat → Value), j ≤ H ∧ i = .int .i64 j ∧ GA WB 63 57 3 H M (fun i => (G i).dv) ld XD nwD j V2 tv wr) (fun _ i _ => H - (intOf i).toNat)
      case atStart => exact ⟨0, _, by omega, rfl, GA.start HDB.out.2⟩
      case round =>
        obtain ⟨j, V2, hj, rfl, hG⟩ := hrel
        by_cases hltj : j < H
        · have hK : Keeps (InB L H F G) W wr := HDB.out.1.trans (hG.kp.mono fun b _ ⟨i, hi, e⟩ => .inr ⟨i, hi, e⟩) fun _ _ e => e
          obtain ⟨hBC, hc1, hc2⟩ := HCL.out wr hK
          have l1 := hBC.cell (i := 2) rfl
          obtain ⟨bb, ha1, r4⟩ := hc2 j hltj
          obtain ⟨Wj, hWj⟩ : ∃ Wj, Wj = wr := ⟨_, rfl⟩
          subst hWj
          have HG : Hid (GA WB 63 57 3 H M (fun i => (G i).dv) ld XD nwD j V2 u7 Wj ∧ j < H) := ⟨hG, hltj⟩
          have hltj' : (j : Int) < H := by omega
          have hwj : IntKind.i64.wrap (1000 * (j : Int)) = 1000 * (j : Int) := by rw [IntKind.wrap_i64]; omega
          have HA1 : Hid (a2 = some ⟨bb, 0, none⟩) := ha1
          rw [ha1] at l1
          clear hBC hc1 hc2 hK hG ha1
          go_wp2
          clear l1 r4
          go_loopw [9, 60] (fun v i wr => ∃ k : Nat, k ≤ M ∧ i = .int .i64 k ∧ Apd Wj 63 3 (G j).dv (ld j) (XD j) (nwD j) k v wr) (fun _ i _ => M - (intOf i).toNat)
          case atStart => exact ⟨0, by omega, rfl, Apd.start _ (HG.out.1.old j HG.out.2)⟩
          case round =>
            obtain ⟨k, hk, rfl, hA⟩ := hrel
            by_cases hltk : k < M
            · have hltk' : (k : Int) < 17 := by have := HM.out; omega
              obtain ⟨cv, hcv⟩ : ∃ cv, 1000 * (j : Int) + (k : Int) = cv := ⟨_, rfl⟩
              have wcv : IntKind.i64.wrap (1000 * (j : Int) + (k : Int)) = cv := by rw [IntKind.wrap_i64]; omega
              have hll := HX.out.2.1 j HG.out.2
              obtain ⟨v', W', happ, hA'⟩ := hA.step (HG.out.1.old j HG.out.2) 57 (.agg #[.int .i64 0, .int .i64 0, .int .i64 0]) 24 Try.underlying57 Try.info63 rfl (by omega) (by omega) #[.int .i64 cv, .int .i64 0, .int .i64 0] (by rw [← hcv]; rfl) rfl (by unfold nwD; exact fun u hu => by simp only [List.mem_cons, List.not_mem_nil, or_false] at hu; rcases hu with rfl | rfl | rfl <;> rfl) (by have := HM.out; omega)
              have HAP : Hid (∀ ty, (Builtin.append_ #[57, 57] ty #[u9, .slice (some ⟨wr.heap.size, 0, none⟩) 1 1]).run Try.prog (wr.alloc (.cells #[.int .i64 cv, .int .i64 0, .int .i64 0] 63)) = .ok v' W') := happ
              have HN : Hid (Apd Wj 63 3 (G j).dv (ld j) (XD j) (nwD j) (k + 1) v' W') := hA'
              clear happ hA hA' hll hcv
              go_wp2_with (at_builtin; go_must (refine wpList_append_run rfl (.tmp 63) (.tmp 69) 57 57 rfl u9 (.slice (some ⟨wr.heap.size, 0, none⟩) 1 1) v' W' rfl rfl HAP.out ?_; refine Hid.out ?_))
              unfold Hid
              clear HAP
              go_wp2
              go_roundw
              case rel => exact ⟨k + 1, by omega, by go_num, HN.out⟩
              case measure => simp [intOf]; omega
            · obtain rfl : M = k := by omega
              have hM1 : ¬ (M : Int) < 17 := by have := HM.out; omega
              obtain ⟨tv', w2, happ, V', hG2⟩ := HG.out.1.step HDB.out.2 HPW.out.2 HG.out.2 hA 88 (by decide) Try.underlying88 Try.info57 (by omega) (own_one hA.own)
              obtain ⟨va, vcap, hv, _, _⟩ := own_slice hA.own
              subst hv
              have HAP : Hid (∀ ty, (Builtin.append_ #[88, 88] ty #[u7, .slice (some ⟨wr.heap.size, 0, none⟩) 1 1]).run Try.prog (wr.alloc (.cells #[.slice va (ld j + M) vcap] 57)) = .ok tv' w2) := happ
              have HN : Hid (GA WB 63 57 3 H M (fun i => (G i).dv) ld XD nwD (j + 1) V' tv' w2) := hG2
              clear happ hA hG2 hk hltk
              go_wp2_with (at_builtin; go_must (refine wpList_append_run rfl (.tmp 72) (.tmp 74) 88 88 rfl u7 (.slice (some ⟨wr.heap.size, 0, none⟩) 1 1) tv' w2 rfl rfl HAP.out ?_; refine Hid.out ?_))
              unfold Hid
              clear HAP
              go_wp2
              go_roundw
              case rel => exact ⟨j + 1, V', by have := HG.out.2; omega, by go_num, HN.out⟩
              case measure => have := HG.out.2; simp [intOf]; omega
        · obtain rfl : H = j := by omega
          obtain ⟨WC, hWC⟩ : ∃ WC, WC = wr := ⟨_, rfl⟩
          subst hWC
          have kB : Keeps (InB L H F G) WB WC := hG.kp.mono fun b _ ⟨i, hi, e⟩ => .inr ⟨i, hi, e⟩
          have kC : Keeps (InB L H F G) W WC := HDB.out.1.trans kB fun _ _ e => e
          have hA3 := HA.out.kept hG.kp fun k hS => ?hk
          case hk =>
            obtain ⟨i, hi, e⟩ := hS
            exact ⟨fun hu hk => own_ne (HDB.out.2 i hi) hu (by decide) e hk, fun hk => own_ne (HDB.out.2 i hi) HA.out.tab (by decide) e hk⟩
          have HC3 : Hid (((∀ i, i < L → WC.ownsRow 0 3 1 (F i).tv (lt i) (XT i)) ∧ (∀ i, i < L → WC.ownsRow 0 3 1 (V i) (lt i + M) (XT i ++ apN (nwT i) M)) ∧ WC.ownsRow 0 38 1 u3 L ((List.range L).map V)) ∧
            ((∀ i, i < H → WC.ownsRow 0 63 3 (G i).dv (ld i) (XD i)) ∧ (∀ i, i < H → WC.ownsRow 0 63 3 (V2 i) (ld i + M) (XD i ++ apN (nwD i) M)) ∧ WC.ownsRow 0 57 1 u7 H ((List.range H).map V2)) ∧ Keeps (InB L H F G) W WC) := ⟨hA3, ⟨hG.old, hG.new, hG.tab⟩, kC⟩
          clear hG kB kC hA3 hj hltj HA HDB
          have l1 := (HCL.out WC HC3.out.2.2).1.cell (i := 1) rfl
          go_wp2
          clear l1
          go_loopw [11, 80] (fun n i wr => ∃ j : Nat, j ≤ L ∧ i = .int .i64 j ∧ n = .int .i64 ((of j : Nat) : Int) ∧ WC = wr) (fun _ i _ => L - (intOf i).toNat)
          case atStart => exact ⟨0, by omega, rfl, by rw [HX.out.2.2.1]; rfl, rfl⟩
          case round =>
            obtain ⟨j, hj, rfl, rfl, rfl⟩ := hrel
            by_cases hltj : j < L
            · obtain ⟨hBC, hc1, hc2⟩ := HCL.out WC HC3.out.2.2
              have l1 := hBC.cell (i := 1) rfl
              obtain ⟨bb, ha1, r4⟩ := hc1 j hltj
              have HA1 : Hid (a1 = some ⟨bb, 0, none⟩) := ha1
              rw [ha1] at l1
              have oU := HC3.out.1.1 j hltj
              have oV := HC3.out.1.2.1 j hltj
              have oT := HC3.out.1.2.2
              obtain ⟨tl, htl⟩ : ∃ tl, lt j = tl := ⟨_, rfl⟩
              obtain ⟨fj, hfj⟩ : ∃ fj, of j = fj := ⟨_, rfl⟩
              have hfb := HX.out.2.2.2.2.2.2.1 j
              have hfs := HX.out.2.2.2.1 j hltj
              have hXX := HXX.out.1 j hltj
              have hXl := oU.1
              have hll := HX.out.1 j hltj
              rw [hfj] at hfb hfs hXX ⊢
              rw [htl] at oU oV hfs hXX hXl hll
              obtain ⟨ta, tcap, hU, htc1, htc2⟩ := own_slice oU
              rw [hU] at r4
              obtain ⟨gv, vcap, hV, hvc1, hvc2⟩ := own_form oV (by have := HM.out; omega)
              obtain ⟨gt, xcap, hT, hxc1, hxc2⟩ := own_form oT (by omega)
              unfold maxLen at htc2 hvc2 hxc2
              have x1 : WC.cell? ⟨gt, j, none⟩ = some (.slice (some ⟨gv, 0, none⟩) (tl + M) vcap) := by
                rw [hT] at oT
                rw [← hV]
                exact own_cell oT (by rw [List.getElem?_map, List.getElem?_range hltj]; rfl)
              have HV : Hid (∀ k, k < M → WC.cell? ⟨gv, tl + k, none⟩ = some (.int .i64 (1000 * (j : Int) + k))) := fun k hk => by
                rw [hV] at oV
                refine own_cell oV ?_
                rw [List.getElem?_append_right (by rw [hXl]; omega), hXl, show tl + k - tl * 1 = k * 1 by omega, apN_get (s := 1) (fun _ => rfl) hk (by omega)]
                rfl
              have HU : Hid (∀ k, k < tl → ∃ g, ta = some ⟨g, 0, none⟩ ∧ WC.cell? ⟨g, k, none⟩ = some (.int .i64 (-((fj + k + 1 : Nat) : Int)))) := fun k hk => by
                obtain ⟨g, c2, hU2, _, _⟩ := own_form oU (by omega)
                rw [hU2] at hU oU
                injection hU with q1 q2 q3
                exact ⟨g, q1.symm, own_cell oU (hXX k hk)⟩
              have HFS : Hid (of (j + 1) = fj + tl ∧ j < L ∧ fj ≤ 1000000 ∧ tl ≤ 1000) := ⟨hfs, hltj, hfb, hll⟩
              have HTV : Hid (u3 = .slice (some ⟨gt, 0, none⟩) L xcap) := hT
              have hltj' : (j : Int) < L := by omega
              have hxc : (L : Int) ≤ xcap ∧ (xcap : Int) ≤ 9223372036854775807 := by omega
              have htc : (tl : Int) ≤ tcap ∧ (tcap : Int) ≤ 9223372036854775807 := by omega
              have hvc : ((tl + M : Nat) : Int) ≤ vcap ∧ (vcap : Int) ≤ 9223372036854775807 := by omega
              have hwj : IntKind.i64.wrap (1000 * (j : Int)) = 1000 * (j : Int) := by rw [IntKind.wrap_i64]; omega
              subst hT
              clear hBC hc1 hc2 ha1 oU oV oT htl hfj hXX hXl hU hV HTV htc1 htc2 hvc1 hvc2 hxc1 hxc2 hfb hfs hll
              go_wp2
              go_loopw [11, 91] (fun n i wr => ∃ k : Nat, k ≤ tl ∧ i = .int .i64 k ∧ n = .int .i64 ((fj + k : Nat) : Int) ∧ WC = wr) (fun _ i _ => tl - (intOf i).toNat)
              case atStart => exact ⟨0, by omega, rfl, rfl, rfl⟩
              case round =>
                obtain ⟨k, hk, rfl, rfl, rfl⟩ := hrel
                by_cases hltk : k < tl
                · obtain ⟨g, hg, y1⟩ := HU.out k hltk
                  have hltk' : (k : Int) < tl := by omega
                  obtain ⟨nv, hnv⟩ : ∃ nv : Int, ((fj + k + 1 : Nat) : Int) = nv := ⟨_, rfl⟩
                  rw [hnv] at y1
                  obtain ⟨n0, hn0⟩ : ∃ n0 : Int, ((fj + k : Nat) : Int) = n0 := ⟨_, rfl⟩
                  rw [hn0]
                  have w1 : IntKind.i64.wrap (n0 + 1) = nv := by rw [IntKind.wrap_i64]; have := HFS.out; omega
                  have w2 : IntKind.i64.wrap (-nv) = -nv := by rw [IntKind.wrap_i64]; have := HFS.out; omega
                  have HNV : Hid (((fj + k + 1 : Nat) : Int) = nv ∧ k < tl) := ⟨hnv, hltk⟩
                  subst hg
                  clear hnv hn0 hk hltk
                  go_wp2
                  go_roundw
                  case rel => exact ⟨k + 1, by have := HNV.out.2; omega, by go_num, by rw [← HNV.out.1]; rfl, trivial⟩
                  case measure => have := HNV.out.2; simp [intOf]; omega
                · obtain rfl : tl = k := by omega
                  clear hk hltk
                  go_wp2
                  go_loopw [104] (fun i wr => ∃ k : Nat, k ≤ M ∧ i = .int .i64 k ∧ WC = wr) (fun i _ => M - (intOf i).toNat)
                  case atStart => exact ⟨0, by omega, rfl, rfl⟩
                  case round =>
                    obtain ⟨k, hk, rfl, rfl⟩ := hrel
                    by_cases hltk : k < M
                    · have y1 := HV.out k hltk
                      have hltk' : (k : Int) < 17 := by have := HM.out; omega
                      have hltM : (k : Int) < M := by omega
                      obtain ⟨cv, hcv⟩ : ∃ cv, 1000 * (j : Int) + (k : Int) = cv := ⟨_, rfl⟩
                      rw [hcv] at y1
                      have wcv : IntKind.i64.wrap (1000 * (j : Int) + (k : Int)) = cv := by rw [IntKind.wrap_i64]; omega
                      have wix : IntKind.i64.wrap ((tl : Int) + (k : Int)) = ((tl + k : Nat) : Int) := by rw [IntKind.wrap_i64]; have := HFS.out; omega
                      clear hcv
                      go_wp2
                      go_roundw
                      case rel => exact ⟨k + 1, by omega, by go_num, trivial⟩
                      case measure => simp [intOf]; omega
                    · obtain rfl : M = k := by omega
                      have hM1 : ¬ (M : Int) < 17 := by have := HM.out; omega
                      clear hk hltk
                      go_wp2
                      go_roundw
                      case rel => exact ⟨j + 1, by have := HFS.out; omega, by go_num, by rw [HFS.out.1], trivial⟩
                      case measure => have := HFS.out; simp [intOf]; omega
            · obtain rfl : L = j := by omega
              have l2 := (HCL.out WC HC3.out.2.2).1.cell (i := 2) rfl
              clear hj hltj
              go_wp2
              clear l2
              go_loopw [11, 127] (fun n i wr => ∃ j : Nat, j ≤ H ∧ i = .int .i64 j ∧ n = .int .i64 ((og j : Nat) : Int) ∧ WC = wr) (fun _ i _ => H - (intOf i).toNat)
              case atStart => exact ⟨0, by omega, rfl, by rw [HX.out.2.2.2.2.1], rfl⟩
              case round =>
                obtain ⟨j, hj, rfl, rfl, rfl⟩ := hrel
                by_cases hltj : j < H
                · obtain ⟨hBC, hc1, hc2⟩ := HCL.out WC HC3.out.2.2
                  have l1 := hBC.cell (i := 2) rfl
                  obtain ⟨bb, ha1, r4⟩ := hc2 j hltj
                  have HA1 : Hid (a2 = some ⟨bb, 0, none⟩) := ha1
                  rw [ha1] at l1
                  have oU := HC3.out.2.1.1 j hltj
                  have oV := HC3.out.2.1.2.1 j hltj
                  have oT := HC3.out.2.1.2.2
                  obtain ⟨tl, htl⟩ : ∃ tl, ld j = tl := ⟨_, rfl⟩
                  obtain ⟨fj, hfj⟩ : ∃ fj, og j = fj := ⟨_, rfl⟩
                  have hfb := HX.out.2.2.2.2.2.2.2 j
                  have hfs := HX.out.2.2.2.2.2.1 j hltj
                  have hXX := HXX.out.2 j hltj
                  have hXl := oU.1
                  have hll := HX.out.2.1 j hltj
                  rw [hfj] at hfb hfs hXX ⊢
                  rw [htl] at oU oV hfs hXX hXl hll
                  obtain ⟨ta, tcap, hU, htc1, htc2⟩ := own_slice oU
                  rw [hU] at r4
                  obtain ⟨gv, vcap, hV, hvc1, hvc2⟩ := own_form oV (by have := HM.out; omega)
                  obtain ⟨gt, xcap, hT, hxc1, hxc2⟩ := own_form oT (by omega)
                  unfold maxLen at htc2 hvc2 hxc2
                  have x1 : WC.cell? ⟨gt, j, none⟩ = some (.slice (some ⟨gv, 0, none⟩) (tl + M) vcap) := by
                    rw [hT] at oT
                    rw [← hV]
                    exact own_cell oT (by rw [List.getElem?_map, List.getElem?_range hltj]; rfl)
                  have HV : Hid (∀ k, k < M → WC.cell? ⟨gv, (tl + k) * 3, none⟩ = some (.int .i64 (1000 * (j : Int) + k))) := fun k hk => by
                    rw [hV] at oV
                    refine own_cell oV ?_
                    rw [List.getElem?_append_right (by rw [hXl]; omega), hXl, show (tl + k) * 3 - tl * 3 = k * 3 by omega, apN_get (s := 3) (fun _ => rfl) hk (by omega)]
                    rfl
                  have HU : Hid (∀ k, k < tl → ∃ g, ta = some ⟨g, 0, none⟩ ∧ WC.cell? ⟨g, k * 3, none⟩ = some (.int .i64 (-((fj + k + 1 : Nat) : Int)))) := fun k hk => by
                    obtain ⟨g, c2, hU2, _, _⟩ := own_form oU (by omega)
                    rw [hU2] at hU oU
                    injection hU with q1 q2 q3
                    exact ⟨g, q1.symm, own_cell oU (hXX k hk)⟩
                  have HFS : Hid (og (j + 1) = fj + tl ∧ j < H ∧ fj ≤ 1000000 ∧ tl ≤ 1000) := ⟨hfs, hltj, hfb, hll⟩
                  have HTV : Hid (u7 = .slice (some ⟨gt, 0, none⟩) H xcap) := hT
                  have hltj' : (j : Int) < H := by omega
                  have hxc : (H : Int) ≤ xcap ∧ (xcap : Int) ≤ 9223372036854775807 := by omega
                  have htc : (tl : Int) ≤ tcap ∧ (tcap : Int) ≤ 9223372036854775807 := by omega
                  have hvc : ((tl + M : Nat) : Int) ≤ vcap ∧ (vcap : Int) ≤ 9223372036854775807 := by omega
                  have hwj : IntKind.i64.wrap (1000 * (j : Int)) = 1000 * (j : Int) := by rw [IntKind.wrap_i64]; omega
                  subst hT
                  clear hBC hc1 hc2 ha1 oU oV oT htl hfj hXX hXl hU hV HTV htc1 htc2 hvc1 hvc2 hxc1 hxc2 hfb hfs hll
                  go_wp2
                  go_loopw [11, 138] (fun n i wr => ∃ k : Nat, k ≤ tl ∧ i = .int .i64 k ∧ n = .int .i64 ((fj + k : Nat) : Int) ∧ WC = wr) (fun _ i _ => tl - (intOf i).toNat)
                  case atStart => exact ⟨0, by omega, rfl, rfl, rfl⟩
                  case round =>
                    obtain ⟨k, hk, rfl, rfl, rfl⟩ := hrel
                    by_cases hltk : k < tl
                    · obtain ⟨g, hg, y1⟩ := HU.out k hltk
                      have hltk' : (k : Int) < tl := by omega
                      obtain ⟨nv, hnv⟩ : ∃ nv : Int, ((fj + k + 1 : Nat) : Int) = nv := ⟨_, rfl⟩
                      rw [hnv] at y1
                      obtain ⟨n0, hn0⟩ : ∃ n0 : Int, ((fj + k : Nat) : Int) = n0 := ⟨_, rfl⟩
                      rw [hn0]
                      have w1 : IntKind.i64.wrap (n0 + 1) = nv := by rw [IntKind.wrap_i64]; have := HFS.out; omega
                      have w2 : IntKind.i64.wrap (-nv) = -nv := by rw [IntKind.wrap_i64]; have := HFS.out; omega
                      have HNV : Hid (((fj + k + 1 : Nat) : Int) = nv ∧ k < tl) := ⟨hnv, hltk⟩
                      subst hg
                      clear hnv hn0 hk hltk
                      go_wp2
                      go_roundw
                      case rel => exact ⟨k + 1, by have := HNV.out.2; omega, by go_num, by rw [← HNV.out.1]; rfl, trivial⟩
                      case measure => have := HNV.out.2; simp [intOf]; omega
                    · obtain rfl : tl = k := by omega
                      clear hk hltk
                      go_wp2
                      go_loopw [152] (fun i wr => ∃ k : Nat, k ≤ M ∧ i = .int .i64 k ∧ WC = wr) (fun i _ => M - (intOf i).toNat)
                      case atStart => exact ⟨0, by omega, rfl, rfl⟩
                      case round =>
                        obtain ⟨k, hk, rfl, rfl⟩ := hrel
                        by_cases hltk : k < M
                        · have y1 := HV.out k hltk
                          have hltk' : (k : Int) < 17 := by have := HM.out; omega
                          have hltM : (k : Int) < M := by omega
                          obtain ⟨cv, hcv⟩ : ∃ cv, 1000 * (j : Int) + (k : Int) = cv := ⟨_, rfl⟩
                          rw [hcv] at y1
                          have wcv : IntKind.i64.wrap (1000 * (j : Int) + (k : Int)) = cv := by rw [IntKind.wrap_i64]; omega
                          have wix : IntKind.i64.wrap ((tl : Int) + (k : Int)) = ((tl + k : Nat) : Int) := by rw [IntKind.wrap_i64]; have := HFS.out; omega
                          clear hcv
                          go_wp2
                          go_roundw
                          case rel => exact ⟨k + 1, by omega, by go_num, trivial⟩
                          case measure => simp [intOf]; omega
                        · obtain rfl : M = k := by omega
                          have hM1 : ¬ (M : Int) < 17 := by have := HM.out; omega
                          clear hk hltk
                          go_wp2
                          go_roundw
                          case rel => exact ⟨j + 1, by have := HFS.out; omega, by go_num, by rw [HFS.out.1], trivial⟩
                          case measure => have := HFS.out; simp [intOf]; omega
                · obtain rfl : H = j := by omega
                  clear hj hltj
                  have HF : Hid (Keeps (InB L H F G) w WC) := (HO.out.1.mono fun _ _ e => e.elim).trans HC3.out.2.2 fun _ _ e => e
                  go_wp2
                  go_ret
                  exact ⟨rfl, HF.out⟩
end Go.Proofs.Ythaoopaafdgioaa
