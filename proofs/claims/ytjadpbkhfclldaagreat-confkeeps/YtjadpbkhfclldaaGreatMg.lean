import Derived.Test.YtjadpbkhfclldaaGreatMt
namespace Go.Proofs.YtjadpbkhfclldaaGreat
open Go.RowKit Gw
set_option linter.unusedVariables false
set_option linter.unusedSimpArgs false
set_option maxRecDepth 8000

theorem Tryz.in51 : (Tryz.prog.info? 51).map (fun i => (i.zero, i.size, i.bytes)) = some (some (.agg #[.int .i64 0, .int .i64 0, .int .i64 0]), 3, 24) := by kernel_rfl
theorem Tryz.in53 : (Tryz.prog.info? 53).map (fun i => (i.zero, i.size, i.bytes)) = some (some (.agg #[.int .i64 0, .int .i64 0, .int .i64 0, .int .i64 0]), 4, 32) := by kernel_rfl
theorem Tryz.in55 : (Tryz.prog.info? 55).map (fun i => (i.zero, i.size, i.bytes)) = some (some (.agg #[.int .i64 0, .bool false]), 2, 16) := by kernel_rfl
theorem Tryz.in57 : (Tryz.prog.info? 57).map (fun i => (i.zero, i.size, i.bytes)) = some (some (.agg #[.int .i64 0, .int .i64 0, .int .i64 0]), 3, 24) := by kernel_rfl
theorem Tryz.in43 : (Tryz.prog.info? 43).map (fun i => (i.zero, i.size, i.bytes)) = some (some (.slice none 0 0), 1, 24) := by kernel_rfl
theorem Tryz.in44 : (Tryz.prog.info? 44).map (fun i => (i.zero, i.size, i.bytes)) = some (some (.slice none 0 0), 1, 24) := by kernel_rfl
theorem Tryz.in45 : (Tryz.prog.info? 45).map (fun i => (i.zero, i.size, i.bytes)) = some (some (.slice none 0 0), 1, 24) := by kernel_rfl
theorem Tryz.in47 : (Tryz.prog.info? 47).map (fun i => (i.zero, i.size, i.bytes)) = some (some (.agg #[.string { data := #[] }, .int .i64 0, .int .i64 0, .int .i64 0, .int .i64 0, .int .i64 0, .slice none 0 0, .slice none 0 0]), 8, 104) := by kernel_rfl

set_option maxHeartbeats 16000000 in
/-- bulkheadref11.Grown. -/
theorem grown_any (x : Cfg) (w : World) (lo : Nat) (hL : x.LstsR w lo) (hb : Bnd x) :
    Calls Tryz.prog 30 #[x.v] w fun e w' => e = .returned (.bool true) ∧ Keeps x.B w w' := by
  obtain ⟨W0, hW0⟩ : ∃ W0, W0 = x.laid w := ⟨_, rfl⟩
  obtain ⟨C, hC⟩ : ∃ C, C = w.heap.size := ⟨_, rfl⟩
  have HB : Hid (Bnd x) := hb
  have k0 : Keeps (fun _ => False) w W0 := by rw [hW0]; exact (Keeps.refl _ w).alloc _
  have HL : Hid (x.LstsR W0 lo ∧ Blk W0 C x.vs 26 ∧ Keeps (fun _ => False) w W0 ∧ (∀ k, x.B k → k < w.heap.size) ∧ C = w.heap.size ∧ W0.heap.size = w.heap.size + 1) :=
    ⟨hL.kept k0 fun _ e => e.elim, by rw [hW0, hC]; exact Blk.new _ _ _, k0, fun k hk => (hL.rangeB hk).2, hC, by rw [hW0]; simp [Cfg.laid]⟩
  have hin : x.In W0 W0.heap.size := by
    have h := HL.out.1.lsts
    exact ⟨h.cs.seg, fun hn y hy => h.cs.blk hn y hy, h.cs.len, fun y hy => Core.Ok.in (h.cs.ok y hy), h.ps.seg, fun hn y hy => h.ps.blk hn y hy, h.ps.len, fun y hy => Par.Ok.in (h.ps.ok y hy),
      h.hs.seg, fun hn y hy => h.hs.blk hn y hy, h.hs.len, h.hs.ok, h.ns⟩
  have HCC := Hid.mkm (CopiedR_any x W0 W0.heap.size hin (Nat.le_refl _) HB.out)
  have q0 := HL.out.2.1.cell (i := 0) rfl
  have q1 := HL.out.2.1.cell (i := 1) rfl
  have q2 := HL.out.2.1.cell (i := 2) rfl
  have q3 := HL.out.2.1.cell (i := 3) rfl
  have q4 := HL.out.2.1.cell (i := 4) rfl
  have q5 := HL.out.2.1.cell (i := 5) rfl
  have q6 := HL.out.2.1.cell (i := 6) rfl
  clear hL hb k0 hin
  unfold Cfg.laid at hW0
  go_enter Tryz.func30, Tryz.ntmps30
  go_wp2_with fail
  rw [← hW0, ← hC]
  clear hW0 hC
  refine HCC.out.mono ?_
  rintro e w2 ⟨O, lo2, rfl, hF, hCQ, hlo2, hK2⟩
  obtain ⟨y, hy⟩ : ∃ y, y = cfgO x O := ⟨_, rfl⟩
  obtain ⟨A, hA⟩ : ∃ A, A = w2.heap.size := ⟨_, rfl⟩
  obtain ⟨W, hW⟩ : ∃ W, W = w2.alloc (.cells y.vs.toArray 26) := ⟨_, rfl⟩
  obtain ⟨NC, hNC⟩ : ∃ n, x.cs.length = n := ⟨_, rfl⟩
  obtain ⟨NP, hNP⟩ : ∃ n, x.ps.length = n := ⟨_, rfl⟩
  obtain ⟨NH, hNH⟩ : ∃ n, x.hs.length = n := ⟨_, rfl⟩
  have HN : Hid (x.cs.length = NC ∧ x.ps.length = NP ∧ x.hs.length = NH) := ⟨hNC, hNP, hNH⟩
  obtain ⟨M, hM⟩ : ∃ M : Nat, M = 17 := ⟨_, rfl⟩
  have HM : Hid (M = 17) := hM
  have HBB : Hid (NC ≤ 2147483647 ∧ NP ≤ 2147483647 ∧ NH ≤ 2147483647 ∧ (∀ i, LW x i ≤ 2147483647) ∧ (∀ i, LR x i ≤ 2147483647) ∧ (∀ i, LP x i ≤ 2147483647)) := by
    refine ⟨by rw [← hNC]; exact HB.out.cs, by rw [← hNP]; exact HB.out.ps, by rw [← hNH]; exact HB.out.hs, fun i => ?_, fun i => ?_, fun i => ?_⟩
    · unfold LW wsO
      cases h : x.cs[i]? with
      | none => simp
      | some X => exact HB.out.ws X (List.mem_of_getElem? h)
    · unfold LR rsO
      cases h : x.ps[i]? with
      | none => simp
      | some X => exact HB.out.rs X (List.mem_of_getElem? h)
    · unfold LP psO
      cases h : x.ps[i]? with
      | none => simp
      | some X => exact HB.out.qs X (List.mem_of_getElem? h)
  have kW : Keeps (fun _ => False) W0 W := by rw [hW]; exact hK2.alloc _
  have HLW : Hid (x.LstsR W lo ∧ Keeps (fun _ => False) w W ∧ w.heap.size ≤ lo2 ∧ C = w.heap.size ∧ w.heap.size < W.heap.size ∧ y = cfgO x O ∧ CQ x x.cs.length x.ps.length x.hs O ∧ x.In W0 W0.heap.size) := by
    have h := HL.out.1.lsts
    exact ⟨HL.out.1.kept kW fun _ e => e.elim, HL.out.2.2.1.trans kW fun _ _ e => e, by have := HL.out.2.2.2.2.2; omega, HL.out.2.2.2.2.1, by have := HL.out.2.2.2.2.2; have := kW.size; omega, hy, hCQ,
      h.cs.seg, fun hn y hy => h.cs.blk hn y hy, h.cs.len, fun y hy => Core.Ok.in (h.cs.ok y hy), h.ps.seg, fun hn y hy => h.ps.blk hn y hy, h.ps.len, fun y hy => Par.Ok.in (h.ps.ok y hy),
      h.hs.seg, fun hn y hy => h.hs.blk hn y hy, h.hs.len, h.hs.ok, h.ns⟩
  have HXB : Hid (∀ k, x.B k → k < w.heap.size) := HL.out.2.2.2.1
  have HLA : Hid (w.heap.size ≤ A) := by
    have h1 := HL.out.2.2.2.2.2
    have h2 := hK2.size
    rw [hA]
    exact Nat.le_trans (by omega) h2
  have HGS : Hid (∀ w', Keeps (fun k => InW x k ∨ InP x k) W w' → GS x w C A y O lo2 w') := by
    intro w' hk
    have hSB : ∀ k, InW x k ∨ InP x k → x.B k := fun k h => h.elim InW.B InP.B
    have bC : Blk W C x.vs 26 := HL.out.2.1.kept kW fun e => e
    have bA : Blk W A y.vs 26 := by rw [hW, hA]; exact Blk.new _ _ _
    have fW : FamO lo2 W O := by rw [hW]; exact hF.kept ((Keeps.refl (fun _ => False) w2).alloc _) fun _ _ _ _ e => e
    have ne : ∀ {e : TypeId} {s n : Nat} {v : Value} {xs : List Value}, W.ownsRow 0 e s v n xs → e ≠ 51 → e ≠ 53 → e ≠ 55 → ∀ k, v.ownBlock = some k → ¬ (InW x k ∨ InP x k) := by
      intro e s n v xs ho h1 h2 h3 k hv hI
      rcases hI with ⟨i, hi, e⟩ | ⟨i, hi, e | e⟩
      · exact own_ne ((rows_w HLW.out.1).1 i hi) ho h1.symm e hv
      · exact own_ne ((rows_r HLW.out.1).1 i hi) ho h2.symm e hv
      · exact own_ne ((rows_p HLW.out.1).1 i hi) ho h3.symm e hv
    have o1 : W.ownsRow 0 43 1 (.slice x.ca x.cs.length x.cc) x.cs.length (x.cs.flatMap Core.vs) := HLW.out.1.cs.own
    have o2 : W.ownsRow 0 47 8 (.slice x.pa x.ps.length x.pc) x.ps.length (x.ps.flatMap Par.vs) := HLW.out.1.ps.own
    have o3 : W.ownsRow 0 57 3 (.slice x.ha x.hs.length x.hc) x.hs.length (x.hs.flatMap Chn.vs) := HLW.out.1.hs.own
    have r1 := owns_kept o1 hk (ne o1 (by decide) (by decide) (by decide))
    have r2 := owns_kept o2 hk (ne o2 (by decide) (by decide) (by decide))
    obtain ⟨hh1, hh2⟩ := heads (lo := lo) r1 r2
    refine ⟨bC.kept hk fun hI => ?_, bA.kept hk fun hI => ?_, fW.keptLo hk fun k hI => ?_, r1, r2, owns_kept o3 hk (ne o3 (by decide) (by decide) (by decide)), hh1, hh2⟩
    · have := HXB.out C (hSB C hI); have := HLW.out.2.2.2.1; omega
    · have := HXB.out A (hSB A hI); have := hK2.size; have := HL.out.2.2.2.2.2; omega
    · have := HXB.out k (hSB k hI); have := HLW.out.2.2.1; omega
  rw [hy.symm]
  clear hF hCQ hlo2 hK2 hy kW q0 q1 q2 q3 q4 q5 q6 HCC HL hNC hNP hNH hM
  have q4 := (HGS.out W (Keeps.refl _ _)).cells.1
  rw [HN.out.1] at q4
  go_upto_region 3 with fail
  rw [← hW, ← hA]
  clear hW hA
  go_wp2
  clear q4
  go_loopw [4, 32] (fun tv i wr => ∃ (j : Nat) (V : Nat → Value), j ≤ NC ∧ i = .int .i64 j ∧ GB W 51 43 3 NC M (UW x) (LW x) (XW x) nwW j 0 V (UW x j) tv wr ∧ Keeps (InW x) W wr) (fun _ i _ => NC - (intOf i).toNat)
  case atStart =>
    have h := rows_w HLW.out.1
    rw [HN.out.1] at h
    exact ⟨0, UW x, by omega, rfl, GB.start h.1 h.2, Keeps.refl _ _⟩
  case round =>
    obtain ⟨j, V, hj, rfl, hG, hK⟩ := hrel
    by_cases hlt : j < NC
    · obtain ⟨X, hX⟩ : ∃ X, x.cs[j]? = some X := ⟨_, List.getElem?_eq_getElem (by have := HN.out.1; omega)⟩
      have hGS := HGS.out wr (hK.mono fun _ _ h => .inl h)
      obtain ⟨q4, _, _⟩ := hGS.cells
      obtain ⟨g, hg, c0⟩ := hGS.hc j X hX
      rw [HN.out.1, hg] at q4
      obtain ⟨wl, hwl⟩ : ∃ n, X.ws.length = n := ⟨_, rfl⟩
      rw [hwl] at c0
      have hlen := HLW.out.1.cs.len
      unfold maxLen at hlen
      have hjl : (j : Int) < NC := by omega
      have hcc : (NC : Int) ≤ x.cc ∧ (x.cc : Int) ≤ 9223372036854775807 := by have := HN.out.1; omega
      have hjw : IntKind.i64.wrap (-(j : Int)) = -(j : Int) := by rw [IntKind.wrap_i64]; have := HBB.out.1; omega
      have HU : Hid (UW x j = .slice X.a wl X.c ∧ j < NC ∧ LW x j ≤ 2147483647) := ⟨by rw [UW_some hX, hwl], hlt, HBB.out.2.2.2.1 j⟩
      have HG : Hid (GB W 51 43 3 NC M (UW x) (LW x) (XW x) nwW j 0 V (UW x j) u4 wr ∧ Keeps (InW x) W wr) := ⟨hG, hK⟩
      clear hG hK hj hlt hGS hg hX hwl hlen
      go_wp2
      clear q4 c0 hcc
      go_loopw [6, 40] (fun v i wr => ∃ k : Nat, k ≤ M ∧ i = .int .i64 k ∧ GB W 51 43 3 NC M (UW x) (LW x) (XW x) nwW j k V v u4 wr ∧ Keeps (InW x) W wr) (fun _ i _ => M - (intOf i).toNat)
      case atStart => exact ⟨0, by omega, rfl, by rw [← HU.out.1]; exact HG.out.1, HG.out.2⟩
      case round =>
        obtain ⟨k, hk, rfl, hG, hK⟩ := hrel
        by_cases hltk : k < M
        · have hltk' : (k : Int) < 17 := by have := HM.out; omega
          have hkw : IntKind.i64.wrap (-(k : Int)) = -(k : Int) := by rw [IntKind.wrap_i64]; omega
          obtain ⟨v', W', happ, hG', hKv, hv1⟩ := hG.step HU.out.2.1 (by decide) 43 (.agg #[.int .i64 0, .int .i64 0, .int .i64 0]) 24 Tryz.underlying43 Tryz.in51 rfl (by omega) (by omega) #[.int .i64 (-(j : Int)), .int .i64 (-(k : Int)), .int .i64 (-1)] rfl rfl
            (by unfold nwW; exact fun u hu => by simp only [List.mem_cons, List.not_mem_nil, or_false] at hu; rcases hu with rfl | rfl | rfl <;> rfl) (by have := HU.out.2.2; omega)
          have hK' : Keeps (InW x) W W' := hK.trans hKv fun b hb e => by
            rcases hG.curB HU.out.2.1 e.symm with h | h
            · exact ⟨j, by rw [HN.out.1]; exact HU.out.2.1, h⟩
            · omega
          have HAP : Hid (∀ ty, (Builtin.append_ #[43, 43] ty #[u6, .slice (some ⟨wr.heap.size, 0, none⟩) 1 1]).run Tryz.prog (wr.alloc (.cells #[.int .i64 (-(j : Int)), .int .i64 (-(k : Int)), .int .i64 (-1)] 51)) = .ok v' W') := happ
          have HNX : Hid (GB W 51 43 3 NC M (UW x) (LW x) (XW x) nwW j (k + 1) V v' u4 W' ∧ Keeps (InW x) W W') := ⟨hG', hK'⟩
          clear happ hG' hKv hK' hG hK
          go_wp2_with (at_builtin; go_must (refine wpList_append_run rfl (.tmp 43) (.tmp 49) 43 43 rfl u6 (.slice (some ⟨wr.heap.size, 0, none⟩) 1 1) v' W' rfl rfl HAP.out ?_; refine Hid.out ?_))
          unfold Hid
          clear HAP
          go_wp2
          go_roundw
          case rel => exact ⟨k + 1, by omega, by go_num, HNX.out⟩
          case measure => simp [intOf]; omega
        · obtain rfl : M = k := by omega
          have hM1 : ¬ (M : Int) < 17 := by have := HM.out; omega
          obtain ⟨tv', w3, happ, hG2, hKt, htv1⟩ := hG.next HU.out.2.1 22 (by decide) Tryz.underlying22 Tryz.in43 (by have := HBB.out.1; omega)
          obtain ⟨va, vcap, hv, _, _⟩ := own_slice (hG.cur HU.out.2.1)
          have hK' : Keeps (InW x) W w3 := hK.trans hKt fun b hb e => by have := hG.tbl b e.symm; omega
          subst hv
          have HAP : Hid (∀ ty, (Builtin.append_ #[22, 22] ty #[u4, .slice (some ⟨wr.heap.size, 0, none⟩) 1 1]).run Tryz.prog (wr.alloc (.cells #[.slice va (LW x j + M) vcap] 43)) = .ok tv' w3) := happ
          have HNX : Hid ((∃ V', GB W 51 43 3 NC M (UW x) (LW x) (XW x) nwW (j + 1) 0 V' (UW x (j + 1)) tv' w3) ∧ Keeps (InW x) W w3) := ⟨hG2, hK'⟩
          have hnb : (NC : Int) ≤ 2147483647 := by have := HBB.out.1; omega
          clear happ hG hG2 hK hK' hKt hk hltk
          go_wp2_with (at_builtin; go_must (refine wpList_append_run rfl (.tmp 52) (.tmp 54) 22 22 rfl u4 (.slice (some ⟨wr.heap.size, 0, none⟩) 1 1) tv' w3 rfl rfl HAP.out ?_; refine Hid.out ?_))
          unfold Hid
          clear HAP
          go_wp2
          go_roundw
          case rel =>
            obtain ⟨⟨V', h1⟩, h2⟩ := HNX.out
            exact ⟨j + 1, V', HU.out.2.1, by go_num, h1, h2⟩
          case measure => have := HU.out.2.1; simp [intOf]; omega
    · obtain rfl : NC = j := by omega
      obtain ⟨WB, hWB⟩ : ∃ WB, WB = wr := ⟨_, rfl⟩
      subst hWB
      have HA : Hid (GB W 51 43 3 NC M (UW x) (LW x) (XW x) nwW NC 0 V (UW x NC) u4 WB ∧ Keeps (InW x) W WB) := ⟨hG, hK⟩
      have HRP : Hid (((∀ i, i < NP → WB.ownsRow 0 53 4 (UR x i) (LR x i) (XR x i)) ∧ PwU NP (UR x)) ∧ ((∀ i, i < NP → WB.ownsRow 0 55 2 (UP x i) (LP x i) (XP x i)) ∧ PwU NP (UP x))) := by
        have h1 := rows_r HLW.out.1
        have h2 := rows_p HLW.out.1
        rw [HN.out.2.1] at h1 h2
        have hw := (rows_w HLW.out.1).1
        exact ⟨⟨fun i hi => owns_kept (h1.1 i hi) hK fun k hk ⟨m, hm, e⟩ => own_ne (hw m hm) (h1.1 i hi) (by decide) e hk, h1.2⟩, fun i hi => owns_kept (h2.1 i hi) hK fun k hk ⟨m, hm, e⟩ => own_ne (hw m hm) (h2.1 i hi) (by decide) e hk, h2.2⟩
      have q5 := (HGS.out WB (hK.mono fun _ _ h => .inl h)).cells.2.1
      rw [HN.out.2.1] at q5
      clear hG hK hj hlt
      go_wp2
      clear q5
      go_loopw [8, 9, 60] (fun t8 t9 i wr => ∃ (j : Nat) (V2 V3 : Nat → Value), j ≤ NP ∧ i = .int .i64 j ∧ GB WB 53 44 4 NP M (UR x) (LR x) (XR x) nwR j 0 V2 (UR x j) t8 wr ∧ GB WB 55 45 2 NP M (UP x) (LP x) (XP x) nwP j 0 V3 (UP x j) t9 wr ∧ Keeps (InP x) WB wr) (fun _ _ i _ => NP - (intOf i).toNat)
      case atStart => exact ⟨0, UR x, UP x, by omega, rfl, GB.start HRP.out.1.1 HRP.out.1.2, GB.start HRP.out.2.1 HRP.out.2.2, Keeps.refl _ _⟩
      case round =>
        obtain ⟨j, V2, V3, hj, rfl, hG2, hG3, hK⟩ := hrel
        by_cases hlt : j < NP
        · obtain ⟨P, hP⟩ : ∃ X, x.ps[j]? = some X := ⟨_, List.getElem?_eq_getElem (by have := HN.out.2.1; omega)⟩
          have hGS := HGS.out wr ((HA.out.2.mono fun _ _ h => .inl h).trans hK fun _ _ h => .inr h)
          obtain ⟨_, q5, _⟩ := hGS.cells
          obtain ⟨g, hg, hc⟩ := hGS.hp j P hP
          rw [HN.out.2.1, hg] at q5
          obtain ⟨rl, hrl⟩ : ∃ n, P.rs.length = n := ⟨_, rfl⟩
          obtain ⟨pl, hpl⟩ : ∃ n, P.ps.length = n := ⟨_, rfl⟩
          have p6 := hc 6 _ rfl
          have p7 := hc 7 _ rfl
          rw [hrl] at p6
          rw [hpl] at p7
          have hlen := HLW.out.1.ps.len
          unfold maxLen at hlen
          have hjl : (j : Int) < NP := by omega
          have hcc : (NP : Int) ≤ x.pc ∧ (x.pc : Int) ≤ 9223372036854775807 := by have := HN.out.2.1; omega
          have hjw : IntKind.i64.wrap (-(j : Int)) = -(j : Int) := by rw [IntKind.wrap_i64]; have := HBB.out.2.1; omega
          have hjw2 : IntKind.i64.wrap (-100 * (j : Int)) = -100 * (j : Int) := by rw [IntKind.wrap_i64]; have := HBB.out.2.1; omega
          have HU : Hid (UR x j = .slice P.ra rl P.rc ∧ UP x j = .slice P.pa pl P.pc ∧ j < NP ∧ LR x j ≤ 2147483647 ∧ LP x j ≤ 2147483647 ∧ NP ≤ 2147483647) := ⟨by rw [UR_some hP, hrl], by rw [UP_some hP, hpl], hlt, HBB.out.2.2.2.2.1 j, HBB.out.2.2.2.2.2 j, HBB.out.2.1⟩
          have HG : Hid (GB WB 53 44 4 NP M (UR x) (LR x) (XR x) nwR j 0 V2 (UR x j) u8 wr ∧ GB WB 55 45 2 NP M (UP x) (LP x) (XP x) nwP j 0 V3 (UP x j) u9 wr ∧ Keeps (InP x) WB wr) := ⟨hG2, hG3, hK⟩
          clear hG2 hG3 hK hj hlt hGS hg hP hrl hpl hlen hc
          go_wp2
          clear q5 p6 p7 hcc
          go_loopw [11, 12, 75] (fun v2 v3 i wr => ∃ k : Nat, k ≤ M ∧ i = .int .i64 k ∧ GB WB 53 44 4 NP M (UR x) (LR x) (XR x) nwR j k V2 v2 u8 wr ∧ GB WB 55 45 2 NP M (UP x) (LP x) (XP x) nwP j k V3 v3 u9 wr ∧ Keeps (InP x) WB wr) (fun _ _ i _ => M - (intOf i).toNat)
          case atStart => exact ⟨0, by omega, rfl, by rw [← HU.out.1]; exact HG.out.1, by rw [← HU.out.2.1]; exact HG.out.2.1, HG.out.2.2⟩
          case round =>
            obtain ⟨k, hk, rfl, hG2, hG3, hK⟩ := hrel
            by_cases hltk : k < M
            · have hltk' : (k : Int) < 17 := by have := HM.out; omega
              have hkw : IntKind.i64.wrap (-(k : Int)) = -(k : Int) := by rw [IntKind.wrap_i64]; omega
              have hjk : IntKind.i64.wrap (-100 * (j : Int) - (k : Int)) = -100 * (j : Int) - (k : Int) := by rw [IntKind.wrap_i64]; have := HU.out; omega
              obtain ⟨v', W', happ, hG2', hKv, hv1⟩ := hG2.step HU.out.2.2.1 (by decide) 44 (.agg #[.int .i64 0, .int .i64 0, .int .i64 0, .int .i64 0]) 32 Tryz.underlying44 Tryz.in53 rfl (by omega) (by omega) #[.int .i64 (-(j : Int)), .int .i64 (-(k : Int)), .int .i64 (-2), .int .i64 0] rfl rfl
                (by unfold nwR; exact fun u hu => by simp only [List.mem_cons, List.not_mem_nil, or_false] at hu; rcases hu with rfl | rfl | rfl | rfl <;> rfl) (by have := HU.out.2.2.2.1; omega)
              have hG3' := hG3.other (hG2.cur HU.out.2.2.1) (by decide) (by decide) hKv
              obtain ⟨v'', W'', happ2, hG3'', hKv2, hv2⟩ := hG3'.step HU.out.2.2.1 (by decide) 45 (.agg #[.int .i64 0, .bool false]) 16 Tryz.underlying45 Tryz.in55 rfl (by omega) (by omega) #[.int .i64 (-100 * (j : Int) - (k : Int)), .bool false] rfl rfl
                (by unfold nwP; exact fun u hu => by simp only [List.mem_cons, List.not_mem_nil, or_false] at hu; rcases hu with rfl | rfl <;> rfl) (by have := HU.out.2.2.2.2.1; omega)
              have hG2'' := hG2'.other (hG3'.cur HU.out.2.2.1) (by decide) (by decide) hKv2
              have hK' : Keeps (InP x) WB W'' := (hK.trans hKv fun b hb e => by
                rcases hG2.curB HU.out.2.2.1 e.symm with h | h
                · exact ⟨j, by rw [HN.out.2.1]; exact HU.out.2.2.1, .inl h⟩
                · omega).trans hKv2 fun b hb e => by
                rcases hG3.curB HU.out.2.2.1 e.symm with h | h
                · exact ⟨j, by rw [HN.out.2.1]; exact HU.out.2.2.1, .inr h⟩
                · omega
              have HAP : Hid (∀ ty, (Builtin.append_ #[44, 44] ty #[u11, .slice (some ⟨wr.heap.size, 0, none⟩) 1 1]).run Tryz.prog (wr.alloc (.cells #[.int .i64 (-(j : Int)), .int .i64 (-(k : Int)), .int .i64 (-2), .int .i64 0] 53)) = .ok v' W') := happ
              have HAP2 : Hid (∀ ty, (Builtin.append_ #[45, 45] ty #[u12, .slice (some ⟨W'.heap.size, 0, none⟩) 1 1]).run Tryz.prog (W'.alloc (.cells #[.int .i64 (-100 * (j : Int) - (k : Int)), .bool false] 55)) = .ok v'' W'') := happ2
              have HNX : Hid (GB WB 53 44 4 NP M (UR x) (LR x) (XR x) nwR j (k + 1) V2 v' u8 W'' ∧ GB WB 55 45 2 NP M (UP x) (LP x) (XP x) nwP j (k + 1) V3 v'' u9 W'' ∧ Keeps (InP x) WB W'') := ⟨hG2'', hG3'', hK'⟩
              clear happ happ2 hG2' hG3' hG2'' hG3'' hKv hKv2 hK' hG2 hG3 hK
              go_wp2_with (at_builtin; go_must (refine wpList_append_run rfl (.tmp 78) (.tmp 84) 44 44 rfl u11 (.slice (some ⟨wr.heap.size, 0, none⟩) 1 1) v' W' rfl rfl HAP.out ?_; refine Hid.out ?_))
              unfold Hid
              clear HAP
              go_wp2_with (at_builtin; go_must (refine wpList_append_run rfl (.tmp 86) (.tmp 92) 45 45 rfl u12 (.slice (some ⟨W'.heap.size, 0, none⟩) 1 1) v'' W'' rfl rfl HAP2.out ?_; refine Hid.out ?_))
              unfold Hid
              clear HAP2
              go_wp2
              go_roundw
              case rel => exact ⟨k + 1, by omega, by go_num, HNX.out⟩
              case measure => simp [intOf]; omega
            · obtain rfl : M = k := by omega
              have hM1 : ¬ (M : Int) < 17 := by have := HM.out; omega
              obtain ⟨tv', w3, happ, ⟨V2', hG2'⟩, hKt, htv1⟩ := hG2.next HU.out.2.2.1 33 (by decide) Tryz.underlying33 Tryz.in44 (by have := HU.out; omega)
              have hG3' := hG3.other hG2.tab (by decide) (by decide) hKt
              obtain ⟨tv3, w4, happ2, ⟨V3', hG3''⟩, hKt2, htv3⟩ := hG3'.next HU.out.2.2.1 34 (by decide) Tryz.underlying34 Tryz.in45 (by have := HU.out; omega)
              have hG2'' := hG2'.other hG3'.tab (by decide) (by decide) hKt2
              obtain ⟨va, vcap, hv, _, _⟩ := own_slice (hG2.cur HU.out.2.2.1)
              obtain ⟨vb, vcap2, hv3, _, _⟩ := own_slice (hG3.cur HU.out.2.2.1)
              have hK' : Keeps (InP x) WB w4 := (hK.trans hKt fun b hb e => by have := hG2.tbl b e.symm; omega).trans hKt2 fun b hb e => by have := hG3.tbl b e.symm; omega
              subst hv hv3
              have HAP : Hid (∀ ty, (Builtin.append_ #[33, 33] ty #[u8, .slice (some ⟨wr.heap.size, 0, none⟩) 1 1]).run Tryz.prog (wr.alloc (.cells #[.slice va (LR x j + M) vcap] 44)) = .ok tv' w3) := happ
              have HAP2 : Hid (∀ ty, (Builtin.append_ #[34, 34] ty #[u9, .slice (some ⟨w3.heap.size, 0, none⟩) 1 1]).run Tryz.prog (w3.alloc (.cells #[.slice vb (LP x j + M) vcap2] 45)) = .ok tv3 w4) := happ2
              have HNX : Hid (GB WB 53 44 4 NP M (UR x) (LR x) (XR x) nwR (j + 1) 0 V2' (UR x (j + 1)) tv' w4 ∧ GB WB 55 45 2 NP M (UP x) (LP x) (XP x) nwP (j + 1) 0 V3' (UP x (j + 1)) tv3 w4 ∧ Keeps (InP x) WB w4) := ⟨hG2'', hG3'', hK'⟩
              have hnb : (NP : Int) ≤ 2147483647 := by have := HU.out; omega
              clear happ happ2 hG2' hG3' hG2'' hG3'' hKt hKt2 hK' hG2 hG3 hK hk hltk
              go_wp2_with (at_builtin; go_must (refine wpList_append_run rfl (.tmp 95) (.tmp 97) 33 33 rfl u8 (.slice (some ⟨wr.heap.size, 0, none⟩) 1 1) tv' w3 rfl rfl HAP.out ?_; refine Hid.out ?_))
              unfold Hid
              clear HAP
              go_wp2_with (at_builtin; go_must (refine wpList_append_run rfl (.tmp 99) (.tmp 101) 34 34 rfl u9 (.slice (some ⟨w3.heap.size, 0, none⟩) 1 1) tv3 w4 rfl rfl HAP2.out ?_; refine Hid.out ?_))
              unfold Hid
              clear HAP2
              go_wp2
              go_roundw
              case rel => exact ⟨j + 1, V2', V3', HU.out.2.2.1, by go_num, HNX.out⟩
              case measure => have := HU.out.2.2.1; simp [intOf]; omega
        · obtain rfl : NP = j := by omega
          obtain ⟨WC, hWC⟩ : ∃ WC, WC = wr := ⟨_, rfl⟩
          subst hWC
          have kA : Keeps (fun k => InW x k ∨ InP x k) W WC := (HA.out.2.mono fun _ _ h => .inl h).trans hK fun _ _ h => .inr h
          have HG : Hid (GB WB 53 44 4 NP M (UR x) (LR x) (XR x) nwR NP 0 V2 (UR x NP) u8 WC ∧ GB WB 55 45 2 NP M (UP x) (LP x) (XP x) nwP NP 0 V3 (UP x NP) u9 WC ∧ Keeps (InP x) WB WC ∧ Keeps (fun k => InW x k ∨ InP x k) W WC ∧ GS x w C A y O lo2 WC) := ⟨hG2, hG3, hK, kA, HGS.out WC kA⟩
          obtain ⟨ho1, ho2, ho3⟩ : WC.ownsRow 0 43 1 (.slice x.ca x.cs.length x.cc) x.cs.length (x.cs.flatMap Core.vs) ∧ WC.ownsRow 0 47 8 (.slice x.pa x.ps.length x.pc) x.ps.length (x.ps.flatMap Par.vs) ∧ WC.ownsRow 0 57 3 (.slice x.ha x.hs.length x.hc) x.hs.length (x.hs.flatMap Chn.vs) := ⟨HG.out.2.2.2.2.o1, HG.out.2.2.2.2.o2, HG.out.2.2.2.2.o3⟩
          rw [HN.out.1] at ho1
          rw [HN.out.2.1] at ho2
          rw [HN.out.2.2] at ho3
          have p1 : ∀ u : Value, PwU 1 (fun _ => u) := fun u i j hi hj hne => by omega
          have HS0 : Hid (GB WC 57 3 3 1 M (fun _ => .slice x.ha NH x.hc) (fun _ => NH) (fun _ => x.hs.flatMap Chn.vs) nwH 0 0 (fun _ => .slice x.ha NH x.hc) (.slice x.ha NH x.hc) (.slice none 0 0) WC ∧ GB WC 43 3 1 1 M (fun _ => .slice x.ca NC x.cc) (fun _ => NC) (fun _ => x.cs.flatMap Core.vs) nwC 0 0 (fun _ => .slice x.ca NC x.cc) (.slice x.ca NC x.cc) (.slice none 0 0) WC ∧
            GB WC 47 3 8 1 M (fun _ => .slice x.pa NP x.pc) (fun _ => NP) (fun _ => x.ps.flatMap Par.vs) nwQ 0 0 (fun _ => .slice x.pa NP x.pc) (.slice x.pa NP x.pc) (.slice none 0 0) WC) :=
            ⟨GB.start (fun _ _ => ho3) (p1 _), GB.start (fun _ _ => ho1) (p1 _), GB.start (fun _ _ => ho2) (p1 _)⟩
          obtain ⟨q4, q5, q6⟩ := HG.out.2.2.2.2.cells
          rw [HN.out.1] at q4
          rw [HN.out.2.1] at q5
          rw [HN.out.2.2] at q6
          clear hG2 hG3 hK kA hj hlt ho1 ho2 ho3 p1
          go_wp2
          clear q4 q5 q6
          go_loopw [14, 15, 16, 110] (fun t14 t15 t16 i wr => ∃ k : Nat, k ≤ M ∧ i = .int .i64 k ∧ GB WC 57 3 3 1 M (fun _ => .slice x.ha NH x.hc) (fun _ => NH) (fun _ => x.hs.flatMap Chn.vs) nwH 0 k (fun _ => .slice x.ha NH x.hc) t14 (.slice none 0 0) wr ∧
            GB WC 43 3 1 1 M (fun _ => .slice x.ca NC x.cc) (fun _ => NC) (fun _ => x.cs.flatMap Core.vs) nwC 0 k (fun _ => .slice x.ca NC x.cc) t15 (.slice none 0 0) wr ∧ GB WC 47 3 8 1 M (fun _ => .slice x.pa NP x.pc) (fun _ => NP) (fun _ => x.ps.flatMap Par.vs) nwQ 0 k (fun _ => .slice x.pa NP x.pc) t16 (.slice none 0 0) wr ∧ Keeps (OutB x) WC wr) (fun _ _ _ i _ => M - (intOf i).toNat)
          case atStart => exact ⟨0, by omega, rfl, HS0.out.1, HS0.out.2.1, HS0.out.2.2, Keeps.refl _ _⟩
          case round =>
            obtain ⟨k, hk, rfl, gH, gC, gQ, hK⟩ := hrel
            by_cases hltk : k < M
            · have hltk' : (k : Int) < 17 := by have := HM.out; omega
              have hkw : IntKind.i64.wrap (-(k : Int)) = -(k : Int) := by rw [IntKind.wrap_i64]; omega
              obtain ⟨v1, W1, happ1, gH1, hK1, _⟩ := gH.step (by omega) (by decide) 24 (.agg #[.int .i64 0, .int .i64 0, .int .i64 0]) 24 Tryz.underlying24 Tryz.in57 rfl (by omega) (by omega) #[.int .i64 (-(k : Int)), .int .i64 (-3), .int .i64 0] rfl rfl
                (by unfold nwH; exact fun u hu => by simp only [List.mem_cons, List.not_mem_nil, or_false] at hu; rcases hu with rfl | rfl | rfl <;> rfl) (by have := HBB.out; omega)
              have gC1 := gC.other (gH.cur (by omega)) (by decide) (by decide) hK1
              have gQ1 := gQ.other (gH.cur (by omega)) (by decide) (by decide) hK1
              obtain ⟨v2, W2, happ2, gC2, hK2, _⟩ := gC1.step (by omega) (by decide) 22 (.slice none 0 0) 24 Tryz.underlying22 Tryz.in43 rfl (by omega) (by omega) #[.slice none 0 0] rfl rfl
                (by unfold nwC; exact fun u hu => by simp only [List.mem_cons, List.not_mem_nil, or_false] at hu; rcases hu with rfl; rfl) (by have := HBB.out; omega)
              have gH2 := gH1.other (gC1.cur (by omega)) (by decide) (by decide) hK2
              have gQ2 := gQ1.other (gC1.cur (by omega)) (by decide) (by decide) hK2
              obtain ⟨v3, W3, happ3, gQ3, hK3, _⟩ := gQ2.step (by omega) (by decide) 23 (.agg #[.string { data := #[] }, .int .i64 0, .int .i64 0, .int .i64 0, .int .i64 0, .int .i64 0, .slice none 0 0, .slice none 0 0]) 104 Tryz.underlying23 Tryz.in47 rfl (by omega) (by omega) #[.string { data := #[] }, .int .i64 (-(k : Int)), .int .i64 0, .int .i64 0, .int .i64 0, .int .i64 0, .slice none 0 0, .slice none 0 0] rfl rfl
                (by unfold nwQ; exact fun u hu => by simp only [List.mem_cons, List.not_mem_nil, or_false] at hu; rcases hu with rfl | rfl | rfl | rfl | rfl | rfl | rfl | rfl <;> rfl) (by have := HBB.out; omega)
              have gH3 := gH2.other (gQ2.cur (by omega)) (by decide) (by decide) hK3
              have gC3 := gC2.other (gQ2.cur (by omega)) (by decide) (by decide) hK3
              have hK' : Keeps (OutB x) WC W3 := ((hK.trans hK1 fun b hb e => by
                rcases gH.curB (by omega) e.symm with h | h
                · exact .inr (.inr (bk_mem.2 h))
                · omega).trans hK2 fun b hb e => by
                rcases gC.curB (by omega) e.symm with h | h
                · exact .inl (bk_mem.2 h)
                · omega).trans hK3 fun b hb e => by
                rcases gQ.curB (by omega) e.symm with h | h
                · exact .inr (.inl (bk_mem.2 h))
                · omega
              have HAP : Hid (∀ ty, (Builtin.append_ #[24, 24] ty #[u14, .slice (some ⟨wr.heap.size, 0, none⟩) 1 1]).run Tryz.prog (wr.alloc (.cells #[.int .i64 (-(k : Int)), .int .i64 (-3), .int .i64 0] 57)) = .ok v1 W1) := happ1
              have HAP2 : Hid (∀ ty, (Builtin.append_ #[22, 22] ty #[u15, .slice (some ⟨W1.heap.size, 0, none⟩) 1 1]).run Tryz.prog (W1.alloc (.cells #[.slice none 0 0] 43)) = .ok v2 W2) := happ2
              have HAP3 : Hid (∀ ty, (Builtin.append_ #[23, 23] ty #[u16, .slice (some ⟨W2.heap.size, 0, none⟩) 1 1]).run Tryz.prog (W2.alloc (.cells #[.string { data := #[] }, .int .i64 (-(k : Int)), .int .i64 0, .int .i64 0, .int .i64 0, .int .i64 0, .slice none 0 0, .slice none 0 0] 47)) = .ok v3 W3) := happ3
              have HNX := Hid.mkm (And.intro gH3 (And.intro gC3 (And.intro gQ3 hK')))
              clear happ1 happ2 happ3 gH gC gQ hK gH1 gC1 gQ1 gH2 gC2 gQ2 gH3 gC3 gQ3 hK1 hK2 hK3 hK'
              go_wp2_with (at_builtin; go_must (refine wpList_append_run rfl (.tmp 113) (.tmp 117) 24 24 rfl u14 (.slice (some ⟨wr.heap.size, 0, none⟩) 1 1) v1 W1 rfl rfl HAP.out ?_; refine Hid.out ?_))
              unfold Hid
              clear HAP
              go_wp2_with (at_builtin; go_must (refine wpList_append_run rfl (.tmp 119) (.tmp 120) 22 22 rfl u15 (.slice (some ⟨W1.heap.size, 0, none⟩) 1 1) v2 W2 rfl rfl HAP2.out ?_; refine Hid.out ?_))
              unfold Hid
              clear HAP2
              go_wp2_with (at_builtin; go_must (refine wpList_append_run rfl (.tmp 122) (.tmp 126) 23 23 rfl u16 (.slice (some ⟨W2.heap.size, 0, none⟩) 1 1) v3 W3 rfl rfl HAP3.out ?_; refine Hid.out ?_))
              unfold Hid
              clear HAP3
              go_wp2
              go_roundw
              case rel => exact ⟨k + 1, by omega, by go_num, HNX.out⟩
              case measure => simp [intOf]; omega
            · obtain rfl : M = k := by omega
              have hM1 : ¬ (M : Int) < 17 := by have := HM.out; omega
              obtain ⟨WD, hWD⟩ : ∃ WD, WD = wr := ⟨_, rfl⟩
              subst hWD
              have hsz1 : w.heap.size ≤ W.heap.size := by have := HLW.out.2.2.2.2.1; omega
              have hsz2 : W.heap.size ≤ WB.heap.size := HA.out.2.size
              have kOut : ∀ {e : TypeId} {s n : Nat} {v : Value} {xs : List Value}, WC.ownsRow 0 e s v n xs → (∀ b, v.ownBlock = some b → ¬ OutB x b) → WD.ownsRow 0 e s v n xs := fun ho hn => owns_kept ho hK hn
              have nW : ∀ {e : TypeId} {s n : Nat} {v : Value} {xs : List Value}, WB.ownsRow 0 e s v n xs → e ≠ 53 → e ≠ 55 → WC.ownsRow 0 e s v n xs := by
                intro e s n v xs ho h1 h2
                refine owns_kept ho HG.out.2.2.1 fun b hb hI => ?_
                obtain ⟨m, hm, hI | hI⟩ := hI
                · rw [HN.out.2.1] at hm; exact own_ne (HRP.out.1.1 m hm) ho h1.symm hI hb
                · rw [HN.out.2.1] at hm; exact own_ne (HRP.out.2.1 m hm) ho h2.symm hI hb
              have fW : ∀ i, i < NC → WD.ownsRow 0 51 3 (UW x i) (LW x i) (XW x i) := fun i hi => kOut (nW (HA.out.1.old i hi) (by decide) (by decide)) fun b hb => out_w HLW.out.1 ⟨i, by rw [HN.out.1]; exact hi, hb⟩
              have fR : ∀ i, i < NP → WD.ownsRow 0 53 4 (UR x i) (LR x i) (XR x i) := fun i hi => kOut (HG.out.1.old i hi) fun b hb => out_p HLW.out.1 ⟨i, by rw [HN.out.2.1]; exact hi, .inl hb⟩
              have fP : ∀ i, i < NP → WD.ownsRow 0 55 2 (UP x i) (LP x i) (XP x i) := fun i hi => kOut (HG.out.2.1.old i hi) fun b hb => out_p HLW.out.1 ⟨i, by rw [HN.out.2.1]; exact hi, .inr hb⟩
              have nO : ∀ b, W.heap.size ≤ b → ¬ OutB x b := fun b hb ho => by have := HXB.out b ho.B; omega
              have gW : ∀ i, i < NC → WD.ownsRow 0 51 3 (V i) (LW x i + M) (XW x i ++ apN (nwW i) M) := fun i hi => kOut (nW (HA.out.1.new i hi) (by decide) (by decide)) fun b hb => by
                rcases HA.out.1.blk i hi with e | ⟨c, e, hc⟩
                · rw [e] at hb; exact out_w HLW.out.1 ⟨i, by rw [HN.out.1]; exact hi, hb⟩
                · rw [e] at hb; cases hb; exact nO b hc
              have tW : WD.ownsRow 0 43 1 u4 NC ((List.range NC).map V) := kOut (nW HA.out.1.tab (by decide) (by decide)) fun b hb => nO b (HA.out.1.tbl b hb)
              have gR : ∀ i, i < NP → WD.ownsRow 0 53 4 (V2 i) (LR x i + M) (XR x i ++ apN (nwR i) M) := fun i hi => kOut (HG.out.1.new i hi) fun b hb => by
                rcases HG.out.1.blk i hi with e | ⟨c, e, hc⟩
                · rw [e] at hb; exact out_p HLW.out.1 ⟨i, by rw [HN.out.2.1]; exact hi, .inl hb⟩
                · rw [e] at hb; cases hb; exact nO b (by omega)
              have tR : WD.ownsRow 0 44 1 u8 NP ((List.range NP).map V2) := kOut HG.out.1.tab fun b hb => nO b (by have := HG.out.1.tbl b hb; omega)
              have gP : ∀ i, i < NP → WD.ownsRow 0 55 2 (V3 i) (LP x i + M) (XP x i ++ apN (nwP i) M) := fun i hi => kOut (HG.out.2.1.new i hi) fun b hb => by
                rcases HG.out.2.1.blk i hi with e | ⟨c, e, hc⟩
                · rw [e] at hb; exact out_p HLW.out.1 ⟨i, by rw [HN.out.2.1]; exact hi, .inr hb⟩
                · rw [e] at hb; cases hb; exact nO b (by omega)
              have tP : WD.ownsRow 0 45 1 u9 NP ((List.range NP).map V3) := kOut HG.out.2.1.tab fun b hb => nO b (by have := HG.out.2.1.tbl b hb; omega)
              have hfam : FamO lo2 WD O := HG.out.2.2.2.2.fam.keptLo hK fun b hb => by have := HXB.out b hb.B; have := HLW.out.2.2.1; omega
              have hyin : y.In WD WD.heap.size := by rw [HLW.out.2.2.2.2.2.1]; exact (HLW.out.2.2.2.2.2.2.1.beg hfam).in HLW.out.2.2.2.2.2.2.2
              have hxok : x.Ok WD := by
                have o1 := gC.old 0 (by omega)
                have o2 := gQ.old 0 (by omega)
                have o3 := gH.old 0 (by omega)
                refine ok_rows HLW.out.1 ?_ ?_ ?_ ?_ ?_ ?_
                · rw [HN.out.1]; exact o1
                · rw [HN.out.2.1]; exact o2
                · rw [HN.out.2.2]; exact o3
                · rw [HN.out.1]; exact fW
                · rw [HN.out.2.1]; exact fR
                · rw [HN.out.2.1]; exact fP
              have bC : Blk WD C x.vs 26 := HG.out.2.2.2.2.bx.kept hK fun hb => by have := HXB.out C hb.B; have := HLW.out.2.2.2.1; omega
              have bA : Blk WD A y.vs 26 := HG.out.2.2.2.2.by'.kept hK fun hb => by have := HXB.out A hb.B; have := (HGS.out W (Keeps.refl _ _)).fam.siz; have := HG.out.2.2.2.2.by'.lt; have := HLW.out.2.2.1; have := HLA.out; omega
              have kAll : Keeps x.B w WD := ((HLW.out.2.1.mono fun _ _ e => e.elim).trans HG.out.2.2.2.1 fun b _ hb => hb.elim InW.B InP.B).trans hK fun b _ hb => hb.B
              obtain ⟨a1, c1, e1, _, _⟩ := own_slice (gH.cur (by omega))
              obtain ⟨a2, c2, e2, _, _⟩ := own_slice (gC.cur (by omega))
              obtain ⟨a3, c3, e3, _, _⟩ := own_slice (gQ.cur (by omega))
              have HD : Hid (x.Ok WD ∧ y.In WD WD.heap.size ∧ x.pure = y.pure ∧ Blk WD C x.vs 26 ∧ Blk WD A y.vs 26 ∧ Keeps x.B w WD) := ⟨hxok, hyin, by rw [HLW.out.2.2.2.2.2.1]; exact (cfgO_pure x O).symm, bC, bA, kAll⟩
              have HDW : Hid ((∀ i, i < NC → WD.ownsRow 0 51 3 (V i) (LW x i + M) (XW x i ++ apN (nwW i) M)) ∧ WD.ownsRow 0 43 1 u4 NC ((List.range NC).map V)) := ⟨gW, tW⟩
              have HDR : Hid ((∀ i, i < NP → WD.ownsRow 0 53 4 (V2 i) (LR x i + M) (XR x i ++ apN (nwR i) M)) ∧ WD.ownsRow 0 44 1 u8 NP ((List.range NP).map V2)) := ⟨gR, tR⟩
              have HDP : Hid ((∀ i, i < NP → WD.ownsRow 0 55 2 (V3 i) (LP x i + M) (XP x i ++ apN (nwP i) M)) ∧ WD.ownsRow 0 45 1 u9 NP ((List.range NP).map V3)) := ⟨gP, tP⟩
              subst e1 e2 e3
              clear gH gC gQ hK hk hltk hsz1 hsz2 kOut nW fW fR fP nO gW tW gR tR gP tP hfam hyin hxok bC bA kAll HS0 HG HA HRP
              have q0 := HD.out.2.2.2.1.cell (i := 0) rfl
              have q1 := HD.out.2.2.2.1.cell (i := 1) rfl
              have q2 := HD.out.2.2.2.1.cell (i := 2) rfl
              have q3 := HD.out.2.2.2.1.cell (i := 3) rfl
              have q4 := HD.out.2.2.2.1.cell (i := 4) rfl
              have q5 := HD.out.2.2.2.1.cell (i := 5) rfl
              have q6 := HD.out.2.2.2.1.cell (i := 6) rfl
              have r0 := HD.out.2.2.2.2.1.cell (i := 0) rfl
              have r1 := HD.out.2.2.2.2.1.cell (i := 1) rfl
              have r2 := HD.out.2.2.2.2.1.cell (i := 2) rfl
              have r3 := HD.out.2.2.2.2.1.cell (i := 3) rfl
              have r4 := HD.out.2.2.2.2.1.cell (i := 4) rfl
              have r5 := HD.out.2.2.2.2.1.cell (i := 5) rfl
              have r6 := HD.out.2.2.2.2.1.cell (i := 6) rfl
              have HCS := Hid.mkm (same_eq x y WD HD.out.2.2.1 HD.out.1 HD.out.2.1.ok)
              go_wp2_with fail
              refine HCS.out.mono ?_
              rintro e w5 ⟨rfl, hK5⟩
              have HK5 := Hid.mkm hK5
              obtain ⟨tg, tcap, hu4, _, _⟩ := own_slice HDW.out.2
              obtain ⟨tg8, tcap8, hu8, _, _⟩ := own_slice HDR.out.2
              obtain ⟨tg9, tcap9, hu9, _, _⟩ := own_slice HDP.out.2
              have HT4 : Hid (u4 = .slice tg NC tcap ∧ u8 = .slice tg8 NP tcap8 ∧ u9 = .slice tg9 NP tcap9) := ⟨hu4, hu8, hu9⟩
              subst hu4 hu8 hu9
              clear hK5 HCS q0 q1 q2 q3 q4 q5 q6 r0 r1 r2 r3 r4 r5 r6 hM1
              go_wp2
              go_loopw [135] (fun i wr => ∃ j : Nat, j ≤ NC ∧ i = .int .i64 j ∧ Keeps (fun _ => False) WD wr) (fun i _ => NC - (intOf i).toNat)
              case atStart => exact ⟨0, by omega, rfl, HK5.out⟩
              case round =>
                obtain ⟨j, hj, rfl, hK⟩ := hrel
                by_cases hlt : j < NC
                · obtain ⟨X, hX⟩ : ∃ X, x.cs[j]? = some X := ⟨_, List.getElem?_eq_getElem (by have := HN.out.1; omega)⟩
                  obtain ⟨Y, hY, hxy⟩ := map_at Core.ws (congrArg PCfg.cs HD.out.2.2.1 : x.cs.map Core.ws = y.cs.map Core.ws) hX
                  obtain ⟨g, o, hg, c0⟩ := HD.out.2.1.core hY
                  obtain ⟨tl, htl⟩ : ∃ tl, LW x j = tl := ⟨_, rfl⟩
                  have hYl : Y.ws.length = tl := by rw [← hxy, ← htl]; unfold LW; rw [wsO_some hX]
                  replace c0 : WD.cell? ⟨g, o + j, none⟩ = some (.slice Y.a Y.ws.length Y.c) := c0
                  rw [hYl] at c0
                  have r4 := HD.out.2.2.2.2.1.cell (i := 4) rfl
                  rw [hg] at r4
                  obtain ⟨YN, hYN⟩ : ∃ n, y.cs.length = n := ⟨_, rfl⟩
                  rw [hYN] at r4
                  have oV := HDW.out.1 j hlt
                  have oT := HDW.out.2
                  have hXl := (HDW.out.1 j hlt).1
                  rw [htl] at oV
                  obtain ⟨gv, vcap, hV, hvc1, hvc2⟩ := own_form oV (by have := HM.out; omega)
                  obtain ⟨gt, hgt⟩ := own_addr oT (by omega)
                  obtain ⟨hxc1, hxc2⟩ : NC ≤ tcap ∧ tcap ≤ maxLen := by
                    obtain ⟨_, _, e9, h1, h2⟩ := own_slice oT
                    injection e9 with _ _ e9
                    rw [e9]; exact ⟨h1, h2⟩
                  have hcy := HD.out.2.1.clen
                  have hjy : j < y.cs.length := (List.getElem?_eq_some_iff.1 hY).1
                  have hYc := (HD.out.2.1.cin Y (List.mem_of_getElem? hY)).len
                  unfold maxLen at hvc2 hxc2 hcy hYc
                  rw [hgt] at oT
                  have x1 : WD.cell? ⟨gt, j, none⟩ = some (.slice (some ⟨gv, 0, none⟩) (tl + M) vcap) := by
                    rw [← hV]
                    exact own_cell oT (by rw [List.getElem?_map, List.getElem?_range hlt]; rfl)
                  have HV : Hid (∀ k, k < M → ∀ i, i < 3 → WD.cell? ⟨gv, (tl + k) * 3 + i, none⟩ = (nwW j k)[i]?) := fun k hk i hi => by
                    rw [hV] at oV
                    have hXW : (XW x j).length = tl * 3 := by rw [← htl]; unfold XW LW; exact flat_len eWin (wsO x j)
                    obtain ⟨u, hu⟩ : ∃ u, (nwW j k)[i]? = some u := ⟨_, List.getElem?_eq_getElem (by unfold nwW; simp; omega)⟩
                    rw [hu]
                    refine own_cell oV ?_
                    rw [List.getElem?_append_right (by rw [hXW]; omega), hXW, show (tl + k) * 3 + i - tl * 3 = k * 3 + i by omega, apN_get (s := 3) (fun _ _ => rfl) hk hi, hu]
                  have hjl : (j : Int) < NC := by omega
                  have hjYN : (j : Int) < YN := by rw [← hYN]; omega
                  have hcc : (YN : Int) ≤ y.cc ∧ (y.cc : Int) ≤ 9223372036854775807 := by rw [← hYN]; omega
                  have htc : (NC : Int) ≤ tcap ∧ (tcap : Int) ≤ 9223372036854775807 := by omega
                  have hvc : ((tl + M : Nat) : Int) ≤ vcap ∧ (vcap : Int) ≤ 9223372036854775807 := by omega
                  have htlb : (tl : Int) ≤ 2147483647 := by rw [← htl]; have := HBB.out.2.2.2.1 j; omega
                  have hjw : IntKind.i64.wrap (-(j : Int)) = -(j : Int) := by rw [IntKind.wrap_i64]; have := HBB.out.1; omega
                  have HJ : Hid (j < NC ∧ NC ≤ 2147483647 ∧ tg = some ⟨gt, 0, none⟩) := ⟨hlt, HBB.out.1, hgt⟩
                  have r4' := cell_kept r4 hK fun e => e
                  have c0' := cell_kept c0 hK fun e => e
                  have x1' := cell_kept x1 hK fun e => e
                  have HKr := Hid.mkm hK
                  have HX1 := Hid.mkm x1
                  clear r4 c0 x1 hK hj hlt hX hY hxy hg htl hYl hYN oV oT hXl hV hvc1 hvc2 hxc1 hxc2 hcy hjy hYc
                  subst hgt
                  go_wp2
                  clear r4' c0' x1' hcc
                  go_loopw [144] (fun i wr => ∃ k : Nat, k ≤ M ∧ i = .int .i64 k ∧ Keeps (fun _ => False) WD wr) (fun i _ => M - (intOf i).toNat)
                  case atStart => exact ⟨0, by omega, rfl, HKr.out⟩
                  case round =>
                    obtain ⟨k, hk, rfl, hK⟩ := hrel
                    by_cases hltk : k < M
                    · have hltk' : (k : Int) < 17 := by have := HM.out; omega
                      have hkw : IntKind.i64.wrap (-(k : Int)) = -(k : Int) := by rw [IntKind.wrap_i64]; omega
                      obtain ⟨ix, hix⟩ : ∃ ix, tl + k = ix := ⟨_, rfl⟩
                      have wix : IntKind.i64.wrap ((tl : Int) + (k : Int)) = (ix : Int) := by rw [IntKind.wrap_i64]; omega
                      obtain ⟨W6, hW6⟩ : ∃ W6, W6 = wr.alloc (.cells #[.int .i64 (-(j : Int)), .int .i64 (-(k : Int)), .int .i64 (-1)] 51) := ⟨_, rfl⟩
                      obtain ⟨E, hE⟩ : ∃ E, E = wr.heap.size := ⟨_, rfl⟩
                      have hK6 : Keeps (fun _ => False) WD W6 := by rw [hW6]; exact hK.alloc _
                      have hBE : Blk W6 E [.int .i64 (-(j : Int)), .int .i64 (-(k : Int)), .int .i64 (-1)] 51 := by rw [hW6, hE]; exact Blk.new _ _ _
                      have b0 := hBE.cell (i := 0) rfl
                      have b1 := hBE.cell (i := 1) rfl
                      have b2 := hBE.cell (i := 2) rfl
                      have y0 := cell_kept (HV.out k hltk 0 (by omega)) hK6 fun e => e
                      have y1 := cell_kept (HV.out k hltk 1 (by omega)) hK6 fun e => e
                      have y2 := cell_kept (HV.out k hltk 2 (by omega)) hK6 fun e => e
                      rw [hix] at y0 y1 y2
                      rw [Nat.add_zero] at y0
                      have z1 := cell_kept HX1.out hK6 fun e => e
                      have hr1 : W6.rangeAt gv (ix * 3) [.int .i64 (-(j : Int)), .int .i64 (-(k : Int)), .int .i64 (-1)] := by
                        intro q v hv
                        have hq : q < 3 := (List.getElem?_eq_some_iff.1 hv).1
                        have := HV.out k hltk q hq
                        rw [hix] at this
                        exact (cell_kept (this.trans hv) hK6 fun e => e)
                      have hr2 : W6.rangeAt E 0 [.int .i64 (-(j : Int)), .int .i64 (-(k : Int)), .int .i64 (-1)] := by
                        intro q v hv
                        rw [Nat.zero_add]
                        exact hBE.cell hv
                      have hixl : (ix : Int) < ((tl + M : Nat) : Int) := by omega
                      have HN6 : Hid (Keeps (fun _ => False) WD W6.drew) := hK6.drew
                      clear hK hK6 hBE hk b0 b1 b2 y0 y1 y2
                      go_upto_region 50 with fail
                      rw [← hW6, ← hE]
                      clear hW6 hE
                      go_wp2_with fail
                      refine wp_region_held_drew (S := (fun w' => w'.cell? ⟨gt, j, none⟩ = some (.slice (some ⟨gv, 0, none⟩) (tl + M) vcap) ∧ w'.rangeAt gv (ix * 3) [.int .i64 (-(j : Int)), .int .i64 (-(k : Int)), .int .i64 (-1)] ∧ w'.rangeAt E 0 [.int .i64 (-(j : Int)), .int .i64 (-(k : Int)), .int .i64 (-1)])) Tryz.mixd ⟨z1, hr1, hr2⟩ (fun hHeld => ?_)
                      simp only [List.size_toArray, List.length_cons, List.length_nil, Nat.reduceAdd, Array.replicate_succ, Array.replicate_zero, List.push_toArray, List.append_toArray, List.nil_append, List.cons_append]
                      refine tk 0 (.slice (some ⟨gt, 0, none⟩) NC tcap) hHeld ?_
                      simp only [Act.put, List.setIfInBounds_toArray, List.set_cons_zero, List.set_cons_succ]
                      refine tk 1 (.int .i64 (j : Int)) hHeld ?_
                      simp only [Act.put, List.setIfInBounds_toArray, List.set_cons_zero, List.set_cons_succ]
                      refine tk 2 (.pointer (some ⟨gt, j, none⟩)) hHeld ?_
                      simp only [Act.put, List.setIfInBounds_toArray, List.set_cons_zero, List.set_cons_succ]
                      refine tk 3 (.slice (some ⟨gv, 0, none⟩) (tl + M) vcap) hHeld ?_
                      simp only [Act.put, List.setIfInBounds_toArray, List.set_cons_zero, List.set_cons_succ]
                      refine tk 4 (.int .i64 (tl : Int)) hHeld ?_
                      simp only [Act.put, List.setIfInBounds_toArray, List.set_cons_zero, List.set_cons_succ]
                      refine tk 5 (.int .i64 (k : Int)) hHeld ?_
                      simp only [Act.put, List.setIfInBounds_toArray, List.set_cons_zero, List.set_cons_succ]
                      refine tk 6 (.int .i64 (ix : Int)) hHeld ?_
                      simp only [Act.put, List.setIfInBounds_toArray, List.set_cons_zero, List.set_cons_succ]
                      refine tk 7 (.pointer (some ⟨gv, ix * 3, none⟩)) hHeld ?_
                      simp only [Act.put, List.setIfInBounds_toArray, List.set_cons_zero, List.set_cons_succ]
                      refine tlR 8 (x := .tmp 159) (b := gv) (o := ix * 3) (cs := [.int .i64 (-(j : Int)), .int .i64 (-(k : Int)), .int .i64 (-1)]) (fun w' h => h.2.1) Tryz.underlying51 rfl size51R hHeld ?_
                      simp only [Act.put, List.setIfInBounds_toArray, List.set_cons_zero, List.set_cons_succ]
                      refine tlR 9 (x := .tmp 21) (b := E) (o := 0) (cs := [.int .i64 (-(j : Int)), .int .i64 (-(k : Int)), .int .i64 (-1)]) (fun w' h => h.2.2) Tryz.underlying51 rfl size51R hHeld ?_
                      simp only [Act.put, List.setIfInBounds_toArray, List.set_cons_zero, List.set_cons_succ]
                      refine tcmpR 10 (op := .neq) (ty := 51) (t2 := 51) (x := .tmp 160) (y := .tmp 161) (neq51 _ _ _) guard51 hHeld ?_
                      simp only [Act.put, List.setIfInBounds_toArray, List.set_cons_zero, List.set_cons_succ]
                      refine wpAnyH_done (by kernel_rfl) ?_ _
                      clear hHeld
                      go_wp2
                      go_roundw
                      case rel => exact ⟨k + 1, by omega, by go_num, HN6.out⟩
                      case measure => simp [intOf]; omega
                    · obtain rfl : M = k := by omega
                      have hM1 : ¬ (M : Int) < 17 := by have := HM.out; omega
                      have HN6 : Hid (Keeps (fun _ => False) WD wr) := hK
                      have hnb : (NC : Int) ≤ 2147483647 := by have := HJ.out; omega
                      clear hK hk hltk
                      go_wp2
                      go_roundw
                      case rel => exact ⟨j + 1, HJ.out.1, by go_num, HN6.out⟩
                      case measure => have := HJ.out.1; simp [intOf]; omega
                · obtain rfl : NC = j := by omega
                  have HKr := Hid.mkm hK
                  clear hK hj hlt
                  go_wp2
                  go_loopw [167] (fun i wr => ∃ j : Nat, j ≤ NP ∧ i = .int .i64 j ∧ Keeps (fun _ => False) WD wr) (fun i _ => NP - (intOf i).toNat)
                  case atStart => exact ⟨0, by omega, rfl, HKr.out⟩
                  case round =>
                    clear HKr
                    obtain ⟨j, hj, rfl, hK⟩ := hrel
                    by_cases hlt : j < NP
                    · obtain ⟨X, hX⟩ : ∃ X, x.ps[j]? = some X := ⟨_, List.getElem?_eq_getElem (by have := HN.out.2.1; omega)⟩
                      obtain ⟨Y, hY, hxy⟩ := map_at Par.pure (congrArg PCfg.ps HD.out.2.2.1 : x.ps.map Par.pure = y.ps.map Par.pure) hX
                      obtain ⟨g, o, hg, hc⟩ := HD.out.2.1.par hY
                      obtain ⟨rl, hrl⟩ : ∃ tl, LR x j = tl := ⟨_, rfl⟩
                      obtain ⟨pl, hpl⟩ : ∃ tl, LP x j = tl := ⟨_, rfl⟩
                      have hYl : Y.rs.length = rl := by rw [← hrl]; unfold LR; rw [rsO_some hX]; exact (congrArg List.length (congrArg PPar.rs hxy : X.rs = Y.rs)).symm
                      have hYp : Y.ps.length = pl := by rw [← hpl]; unfold LP; rw [psO_some hX]; exact (congrArg List.length (congrArg PPar.ps hxy : X.ps = Y.ps)).symm
                      have p6 : WD.cell? ⟨g, o + j * 8 + 6, none⟩ = some (.slice Y.ra Y.rs.length Y.rc) := hc 6 _ rfl
                      have p7 : WD.cell? ⟨g, o + j * 8 + 7, none⟩ = some (.slice Y.pa Y.ps.length Y.pc) := hc 7 _ rfl
                      rw [hYl] at p6
                      rw [hYp] at p7
                      have r5 := HD.out.2.2.2.2.1.cell (i := 5) rfl
                      rw [hg] at r5
                      obtain ⟨YN, hYN⟩ : ∃ n, y.ps.length = n := ⟨_, rfl⟩
                      rw [hYN] at r5
                      have oV := HDR.out.1 j hlt
                      have oT := HDR.out.2
                      have oV3 := HDP.out.1 j hlt
                      have oT3 := HDP.out.2
                      rw [hrl] at oV
                      rw [hpl] at oV3
                      obtain ⟨gv, vcap, hV, hvc1, hvc2⟩ := own_form oV (by have := HM.out; omega)
                      obtain ⟨gp, pcap, hV3, hpc1, hpc2⟩ := own_form oV3 (by have := HM.out; omega)
                      obtain ⟨gt, hgt⟩ := own_addr oT (by omega)
                      obtain ⟨gt9, hgt9⟩ := own_addr oT3 (by omega)
                      obtain ⟨hxc1, hxc2⟩ : NP ≤ tcap8 ∧ tcap8 ≤ maxLen := by
                        obtain ⟨_, _, e9, h1, h2⟩ := own_slice oT
                        injection e9 with _ _ e9
                        rw [e9]; exact ⟨h1, h2⟩
                      obtain ⟨hxc3, hxc4⟩ : NP ≤ tcap9 ∧ tcap9 ≤ maxLen := by
                        obtain ⟨_, _, e9, h1, h2⟩ := own_slice oT3
                        injection e9 with _ _ e9
                        rw [e9]; exact ⟨h1, h2⟩
                      have hcy := HD.out.2.1.plen
                      have hjy : j < y.ps.length := (List.getElem?_eq_some_iff.1 hY).1
                      have hYc := (HD.out.2.1.pin Y (List.mem_of_getElem? hY)).rlen
                      have hYc2 := (HD.out.2.1.pin Y (List.mem_of_getElem? hY)).plen
                      unfold maxLen at hvc2 hpc2 hxc2 hxc4 hcy hYc hYc2
                      rw [hgt] at oT
                      rw [hgt9] at oT3
                      have x1 : WD.cell? ⟨gt, j, none⟩ = some (.slice (some ⟨gv, 0, none⟩) (rl + M) vcap) := by
                        rw [← hV]
                        exact own_cell oT (by rw [List.getElem?_map, List.getElem?_range hlt]; rfl)
                      have x2 : WD.cell? ⟨gt9, j, none⟩ = some (.slice (some ⟨gp, 0, none⟩) (pl + M) pcap) := by
                        rw [← hV3]
                        exact own_cell oT3 (by rw [List.getElem?_map, List.getElem?_range hlt]; rfl)
                      have HV : Hid (∀ k, k < M → ∀ i, i < 4 → WD.cell? ⟨gv, (rl + k) * 4 + i, none⟩ = (nwR j k)[i]?) := fun k hk i hi => by
                        rw [hV] at oV
                        have hXW : (XR x j).length = rl * 4 := by rw [← hrl]; unfold XR LR; exact flat_len eRgn (rsO x j)
                        obtain ⟨u, hu⟩ : ∃ u, (nwR j k)[i]? = some u := ⟨_, List.getElem?_eq_getElem (by unfold nwR; simp; omega)⟩
                        rw [hu]
                        refine own_cell oV ?_
                        rw [List.getElem?_append_right (by rw [hXW]; omega), hXW, show (rl + k) * 4 + i - rl * 4 = k * 4 + i by omega, apN_get (s := 4) (fun _ _ => rfl) hk hi, hu]
                      have HV3 : Hid (∀ k, k < M → WD.cell? ⟨gp, (pl + k) * 2, none⟩ = some (.int .i64 (-100 * (j : Int) - (k : Int)))) := fun k hk => by
                        rw [hV3] at oV3
                        have hXW : (XP x j).length = pl * 2 := by rw [← hpl]; unfold XP LP; exact flat_len ePrt (psO x j)
                        refine own_cell oV3 ?_
                        rw [List.getElem?_append_right (by rw [hXW]; omega), hXW, show (pl + k) * 2 - pl * 2 = k * 2 + 0 by omega, apN_get (s := 2) (fun _ _ => rfl) hk (by omega)]
                        rfl
                      have hjl : (j : Int) < NP := by omega
                      have hjYN : (j : Int) < YN := by rw [← hYN]; omega
                      have hcc : (YN : Int) ≤ y.pc ∧ (y.pc : Int) ≤ 9223372036854775807 := by rw [← hYN]; omega
                      have htc : (NP : Int) ≤ tcap8 ∧ (tcap8 : Int) ≤ 9223372036854775807 := by omega
                      have htc9 : (NP : Int) ≤ tcap9 ∧ (tcap9 : Int) ≤ 9223372036854775807 := by omega
                      have hvc : ((rl + M : Nat) : Int) ≤ vcap ∧ (vcap : Int) ≤ 9223372036854775807 := by omega
                      have hpc : ((pl + M : Nat) : Int) ≤ pcap ∧ (pcap : Int) ≤ 9223372036854775807 := by omega
                      have hrlb : (rl : Int) ≤ 2147483647 := by rw [← hrl]; have := HBB.out.2.2.2.2.1 j; omega
                      have hplb : (pl : Int) ≤ 2147483647 := by rw [← hpl]; have := HBB.out.2.2.2.2.2 j; omega
                      have hjw : IntKind.i64.wrap (-(j : Int)) = -(j : Int) := by rw [IntKind.wrap_i64]; have := HBB.out.2.1; omega
                      have hjw2 : IntKind.i64.wrap (-100 * (j : Int)) = -100 * (j : Int) := by rw [IntKind.wrap_i64]; have := HBB.out.2.1; omega
                      have HJ : Hid (j < NP ∧ NP ≤ 2147483647) := ⟨hlt, HBB.out.2.1⟩
                      have r5' := cell_kept r5 hK fun e => e
                      have p6' := cell_kept p6 hK fun e => e
                      have p7' := cell_kept p7 hK fun e => e
                      have HKr := Hid.mkm hK
                      have HX1 := Hid.mkm x1
                      have HX2 := Hid.mkm x2
                      clear r5 p6 p7 x1 x2 hK hj hlt hX hY hxy hg hrl hpl hYl hYp hYN oV oT oV3 oT3 hV hV3 hvc1 hvc2 hpc1 hpc2 hxc1 hxc2 hxc3 hxc4 hcy hjy hYc hYc2 hc
                      subst hgt hgt9
                      go_wp2
                      clear r5' p6' p7' hcc
                      go_loopw [184] (fun i wr => ∃ k : Nat, k ≤ M ∧ i = .int .i64 k ∧ Keeps (fun _ => False) WD wr) (fun i _ => M - (intOf i).toNat)
                      case atStart => exact ⟨0, by omega, rfl, HKr.out⟩
                      case round =>
                        obtain ⟨k, hk, rfl, hK⟩ := hrel
                        by_cases hltk : k < M
                        · have hltk' : (k : Int) < 17 := by have := HM.out; omega
                          have hkw : IntKind.i64.wrap (-(k : Int)) = -(k : Int) := by rw [IntKind.wrap_i64]; omega
                          have hjk : IntKind.i64.wrap (-100 * (j : Int) - (k : Int)) = -100 * (j : Int) - (k : Int) := by rw [IntKind.wrap_i64]; have := HJ.out; omega
                          obtain ⟨ix, hix⟩ : ∃ ix, rl + k = ix := ⟨_, rfl⟩
                          obtain ⟨iy, hiy⟩ : ∃ ix, pl + k = ix := ⟨_, rfl⟩
                          have wix : IntKind.i64.wrap ((rl : Int) + (k : Int)) = (ix : Int) := by rw [IntKind.wrap_i64]; omega
                          have wiy : IntKind.i64.wrap ((pl : Int) + (k : Int)) = (iy : Int) := by rw [IntKind.wrap_i64]; omega
                          obtain ⟨W6, hW6⟩ : ∃ W6, W6 = wr.alloc (.cells #[.int .i64 (-(j : Int)), .int .i64 (-(k : Int)), .int .i64 (-2), .int .i64 0] 53) := ⟨_, rfl⟩
                          obtain ⟨E, hE⟩ : ∃ E, E = wr.heap.size := ⟨_, rfl⟩
                          have hK6 : Keeps (fun _ => False) WD W6 := by rw [hW6]; exact hK.alloc _
                          have hBE : Blk W6 E [.int .i64 (-(j : Int)), .int .i64 (-(k : Int)), .int .i64 (-2), .int .i64 0] 53 := by rw [hW6, hE]; exact Blk.new _ _ _
                          have z1 := cell_kept HX1.out hK6 fun e => e
                          have z2 := cell_kept HX2.out hK6 fun e => e
                          have z3 := cell_kept (HV3.out k hltk) hK6 fun e => e
                          rw [hiy] at z3
                          have hr1 : W6.rangeAt gv (ix * 4) [.int .i64 (-(j : Int)), .int .i64 (-(k : Int)), .int .i64 (-2), .int .i64 0] := by
                            intro q v hv
                            have hq : q < 4 := (List.getElem?_eq_some_iff.1 hv).1
                            have := HV.out k hltk q hq
                            rw [hix] at this
                            exact (cell_kept (this.trans hv) hK6 fun e => e)
                          have hr2 : W6.rangeAt E 0 [.int .i64 (-(j : Int)), .int .i64 (-(k : Int)), .int .i64 (-2), .int .i64 0] := by
                            intro q v hv
                            rw [Nat.zero_add]
                            exact hBE.cell hv
                          have hixl : (ix : Int) < ((rl + M : Nat) : Int) := by omega
                          have hiyl : (iy : Int) < ((pl + M : Nat) : Int) := by omega
                          have HN6 : Hid (Keeps (fun _ => False) WD W6.drew) := hK6.drew
                          clear hK hK6 hBE hk
                          go_upto_region 63 with fail
                          rw [← hW6, ← hE]
                          clear hW6 hE
                          go_wp2_with fail
                          refine wp_region_held_drew (S := (fun w' => w'.cell? ⟨gt, j, none⟩ = some (.slice (some ⟨gv, 0, none⟩) (rl + M) vcap) ∧ w'.rangeAt gv (ix * 4) [.int .i64 (-(j : Int)), .int .i64 (-(k : Int)), .int .i64 (-2), .int .i64 0] ∧ w'.rangeAt E 0 [.int .i64 (-(j : Int)), .int .i64 (-(k : Int)), .int .i64 (-2), .int .i64 0] ∧ w'.cell? ⟨gt9, j, none⟩ = some (.slice (some ⟨gp, 0, none⟩) (pl + M) pcap) ∧ w'.cell? ⟨gp, iy * 2, none⟩ = some (.int .i64 (-100 * (j : Int) - (k : Int))))) Tryz.mixd ⟨z1, hr1, hr2, z2, z3⟩ (fun hHeld => ?_)
                          simp only [List.size_toArray, List.length_cons, List.length_nil, Nat.reduceAdd, Array.replicate_succ, Array.replicate_zero, List.push_toArray, List.append_toArray, List.nil_append, List.cons_append]
                          refine tk 0 (.slice (some ⟨gt, 0, none⟩) NP tcap8) hHeld ?_
                          simp only [Act.put, List.setIfInBounds_toArray, List.set_cons_zero, List.set_cons_succ]
                          refine tk 1 (.int .i64 (j : Int)) hHeld ?_
                          simp only [Act.put, List.setIfInBounds_toArray, List.set_cons_zero, List.set_cons_succ]
                          refine tk 2 (.pointer (some ⟨gt, j, none⟩)) hHeld ?_
                          simp only [Act.put, List.setIfInBounds_toArray, List.set_cons_zero, List.set_cons_succ]
                          refine tk 3 (.slice (some ⟨gv, 0, none⟩) (rl + M) vcap) hHeld ?_
                          simp only [Act.put, List.setIfInBounds_toArray, List.set_cons_zero, List.set_cons_succ]
                          refine tk 4 (.int .i64 (rl : Int)) hHeld ?_
                          simp only [Act.put, List.setIfInBounds_toArray, List.set_cons_zero, List.set_cons_succ]
                          refine tk 5 (.int .i64 (k : Int)) hHeld ?_
                          simp only [Act.put, List.setIfInBounds_toArray, List.set_cons_zero, List.set_cons_succ]
                          refine tk 6 (.int .i64 (ix : Int)) hHeld ?_
                          simp only [Act.put, List.setIfInBounds_toArray, List.set_cons_zero, List.set_cons_succ]
                          refine tk 7 (.pointer (some ⟨gv, ix * 4, none⟩)) hHeld ?_
                          simp only [Act.put, List.setIfInBounds_toArray, List.set_cons_zero, List.set_cons_succ]
                          refine tlR 8 (x := .tmp 199) (b := gv) (o := ix * 4) (cs := [.int .i64 (-(j : Int)), .int .i64 (-(k : Int)), .int .i64 (-2), .int .i64 0]) (fun w' h => h.2.1) Tryz.underlying53 rfl size53R hHeld ?_
                          simp only [Act.put, List.setIfInBounds_toArray, List.set_cons_zero, List.set_cons_succ]
                          refine tlR 9 (x := .tmp 26) (b := E) (o := 0) (cs := [.int .i64 (-(j : Int)), .int .i64 (-(k : Int)), .int .i64 (-2), .int .i64 0]) (fun w' h => h.2.2.1) Tryz.underlying53 rfl size53R hHeld ?_
                          simp only [Act.put, List.setIfInBounds_toArray, List.set_cons_zero, List.set_cons_succ]
                          refine tcmpR 10 (op := .neq) (ty := 53) (t2 := 53) (x := .tmp 200) (y := .tmp 201) (neq53 _ _ _ _) guard53 hHeld ?_
                          simp only [Act.put, List.setIfInBounds_toArray, List.set_cons_zero, List.set_cons_succ]
                          refine tk 11 (.bool false) hHeld ?_
                          simp only [Act.put, List.setIfInBounds_toArray, List.set_cons_zero, List.set_cons_succ]
                          refine tk 12 (.slice (some ⟨gt9, 0, none⟩) NP tcap9) hHeld ?_
                          simp only [Act.put, List.setIfInBounds_toArray, List.set_cons_zero, List.set_cons_succ]
                          refine tk 13 (.int .i64 (j : Int)) hHeld ?_
                          simp only [Act.put, List.setIfInBounds_toArray, List.set_cons_zero, List.set_cons_succ]
                          refine tk 14 (.pointer (some ⟨gt9, j, none⟩)) hHeld ?_
                          simp only [Act.put, List.setIfInBounds_toArray, List.set_cons_zero, List.set_cons_succ]
                          refine tk 15 (.slice (some ⟨gp, 0, none⟩) (pl + M) pcap) hHeld ?_
                          simp only [Act.put, List.setIfInBounds_toArray, List.set_cons_zero, List.set_cons_succ]
                          refine tk 16 (.int .i64 (pl : Int)) hHeld ?_
                          simp only [Act.put, List.setIfInBounds_toArray, List.set_cons_zero, List.set_cons_succ]
                          refine tk 17 (.int .i64 (k : Int)) hHeld ?_
                          simp only [Act.put, List.setIfInBounds_toArray, List.set_cons_zero, List.set_cons_succ]
                          refine tk 18 (.int .i64 (iy : Int)) hHeld ?_
                          simp only [Act.put, List.setIfInBounds_toArray, List.set_cons_zero, List.set_cons_succ]
                          refine tk 19 (.pointer (some ⟨gp, iy * 2, none⟩)) hHeld ?_
                          simp only [Act.put, List.setIfInBounds_toArray, List.set_cons_zero, List.set_cons_succ]
                          refine tk 20 (.pointer (some ⟨gp, iy * 2, none⟩)) hHeld ?_
                          simp only [Act.put, List.setIfInBounds_toArray, List.set_cons_zero, List.set_cons_succ]
                          refine tk 21 (.int .i64 (-100 * (j : Int) - (k : Int))) hHeld ?_
                          simp only [Act.put, List.setIfInBounds_toArray, List.set_cons_zero, List.set_cons_succ]
                          refine tk 22 (.int .i64 (j : Int)) hHeld ?_
                          simp only [Act.put, List.setIfInBounds_toArray, List.set_cons_zero, List.set_cons_succ]
                          refine tk 23 (.int .i64 (-100 * (j : Int))) hHeld ?_
                          simp only [Act.put, List.setIfInBounds_toArray, List.set_cons_zero, List.set_cons_succ]
                          refine tk 24 (.int .i64 (k : Int)) hHeld ?_
                          simp only [Act.put, List.setIfInBounds_toArray, List.set_cons_zero, List.set_cons_succ]
                          refine tk 25 (.int .i64 (-100 * (j : Int) - (k : Int))) hHeld ?_
                          simp only [Act.put, List.setIfInBounds_toArray, List.set_cons_zero, List.set_cons_succ]
                          refine tk 26 (.bool false) hHeld ?_
                          simp only [Act.put, List.setIfInBounds_toArray, List.set_cons_zero, List.set_cons_succ]
                          refine tk 27 (.bool false) hHeld ?_
                          simp only [Act.put, List.setIfInBounds_toArray, List.set_cons_zero, List.set_cons_succ]
                          refine wpAnyH_done (by kernel_rfl) ?_ _
                          clear hHeld
                          go_wp2
                          go_roundw
                          case rel => exact ⟨k + 1, by omega, by go_num, HN6.out⟩
                          case measure => simp [intOf]; omega
                        · obtain rfl : M = k := by omega
                          have hM1 : ¬ (M : Int) < 17 := by have := HM.out; omega
                          have HN6 : Hid (Keeps (fun _ => False) WD wr) := hK
                          have hnb : (NP : Int) ≤ 2147483647 := by have := HJ.out; omega
                          clear hK hk hltk
                          go_wp2
                          go_roundw
                          case rel => exact ⟨j + 1, HJ.out.1, by go_num, HN6.out⟩
                          case measure => have := HJ.out.1; simp [intOf]; omega
                    · obtain rfl : NP = j := by omega
                      have HKr : Hid (Keeps x.B w wr) := HD.out.2.2.2.2.2.trans hK fun _ _ e => e.elim
                      have hYl : y.cs.length = NC ∧ y.ps.length = NP ∧ y.hs.length = NH := by
                        have h1 : (x.cs.map Core.ws).length = (y.cs.map Core.ws).length := congrArg List.length (congrArg PCfg.cs HD.out.2.2.1)
                        have h2 : (x.ps.map Par.pure).length = (y.ps.map Par.pure).length := congrArg List.length (congrArg PCfg.ps HD.out.2.2.1)
                        have h3 := congrArg List.length (congrArg PCfg.hs HD.out.2.2.1 : x.hs = y.hs)
                        have e1 : x.cs.length = y.cs.length := by simpa using h1
                        have e2 : x.ps.length = y.ps.length := by simpa using h2
                        have e3 : x.hs.length = y.hs.length := h3
                        have := HN.out
                        omega
                      have r4 := cell_kept (HD.out.2.2.2.2.1.cell (i := 4) rfl) hK fun e => e
                      have r5 := cell_kept (HD.out.2.2.2.2.1.cell (i := 5) rfl) hK fun e => e
                      have r6 := cell_kept (HD.out.2.2.2.2.1.cell (i := 6) rfl) hK fun e => e
                      rw [hYl.1] at r4
                      rw [hYl.2.1] at r5
                      rw [hYl.2.2] at r6
                      have hM17 := HM.out
                      have n1 : IntKind.i64.wrap ((NC : Int) + 17) = ((NC + M : Nat) : Int) := by rw [IntKind.wrap_i64]; have := HBB.out; omega
                      have n2 : IntKind.i64.wrap ((NP : Int) + 17) = ((NP + M : Nat) : Int) := by rw [IntKind.wrap_i64]; have := HBB.out; omega
                      have n3 : IntKind.i64.wrap ((NH : Int) + 17) = ((NH + M : Nat) : Int) := by rw [IntKind.wrap_i64]; have := HBB.out; omega
                      clear hK hj hlt hYl hM17
                      go_wp2
                      go_ret
                      exact ⟨rfl, HKr.out⟩
end Go.Proofs.YtjadpbkhfclldaaGreat
