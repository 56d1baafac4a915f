import Derived.Test.YtnkfdmlpjgmckaaL
namespace Go.Proofs.Ytnkfdmlpjgmckaa
open Go.RowKit
set_option linter.unusedVariables false
set_option maxRecDepth 6000

def SpP (w : World) (p : Int) (cs : List Core) (e : Ending) (w' : World) : Prop := ∃ u, e = .returned u ∧ Row eSpn w' w.heap.size u (pickAll p cs cs.length) ∧ Keeps (fun _ => False) w w'

set_option maxHeartbeats 2000000 in
theorem spansOf_any (x : Cfg) (p : Int) (w : World) (N : Nat) (hi : x.In w N) (hN : N ≤ w.heap.size) (hm : allMay x.cs = true) (ht : tot x.cs x.cs.length ≤ 2147483647) :
    Calls Try.prog 40 #[x.v, .int .i64 p] w (SpP w p x.cs) := by
  obtain ⟨f, mj, kn, rm, ca, cc, cs, pa, pc, ps, qa, qc, qs⟩ := x
  have HO := One.mk' hi hN
  obtain ⟨W, hW⟩ : ∃ W, W = Cfg.laid w ⟨f, mj, kn, rm, ca, cc, cs, pa, pc, ps, qa, qc, qs⟩ := ⟨_, rfl⟩
  have hsz : w.heap.size + 1 ≤ W.heap.size := by rw [hW]; simp [Cfg.laid]
  obtain ⟨C, hC⟩ : ∃ C, C = w.heap.size := ⟨_, rfl⟩
  rw [← hW, ← hC] at HO
  have HO : Hid (One w ⟨f, mj, kn, rm, ca, cc, cs, pa, pc, ps, qa, qc, qs⟩ C N W ∧ C = w.heap.size ∧ C + 1 ≤ W.heap.size) := ⟨HO, hC, by rw [hC]; exact hsz⟩
  obtain ⟨L, hL⟩ : ∃ L, cs.length = L := ⟨_, rfl⟩
  have HL : Hid (cs.length = L ∧ allMay cs = true ∧ tot cs L ≤ 2147483647) := ⟨hL, hm, by rw [← hL]; exact ht⟩
  have hcc : (L : Int) ≤ cc ∧ (cc : Int) ≤ 9223372036854775807 := by have := hi.clen; unfold maxLen at this; dsimp only at this; omega
  simp only [Cfg.v, Cfg.laid, hL] at hW ⊢
  have c4 : W.cell? ⟨C, 4, none⟩ = some (.slice ca L cc) := by have := HO.out.1.cfg.cell (i := 4) rfl; rw [← hL]; exact this
  clear hi hN hL hm ht hsz
  go_enter Try.func40, Try.ntmps40
  go_upto_region 1 with fail
  rw [← hW, ← hC]
  clear hW hC
  go_wp2
  go_loopw [5, 13] (fun u i wr => ∃ j : Nat, j ≤ L ∧ i = .int .i64 j ∧ Row eSpn wr (C + 1) u (pickAll p cs j) ∧ One w ⟨f, mj, kn, rm, ca, cc, cs, pa, pc, ps, qa, qc, qs⟩ C N wr ∧ C + 1 ≤ wr.heap.size) (fun _ i _ => L - (intOf i).toNat)
  case atStart => exact ⟨0, by omega, rfl, Row.nil _ _, HO.out.1, HO.out.2.2⟩
  case round =>
    obtain ⟨k, hk, rfl, hRow, hO, hlo⟩ := hrel
    clear c4
    by_cases hlt : k < L
    · obtain ⟨X, hX⟩ : ∃ X, cs[k]? = some X := ⟨_, List.getElem?_eq_getElem (by have := HL.out.1; omega)⟩
      obtain ⟨g0, o0, e, hc⟩ := hO.cin.core hX
      dsimp only at e
      subst e
      have hXi := hO.cin.cin X (List.mem_of_getElem? hX)
      have hmx : may X.ws = true := by have h := HL.out.2.1; unfold allMay at h; rw [List.all_eq_true] at h; exact h X (List.mem_of_getElem? hX)
      obtain ⟨wz, hwz⟩ : ∃ wz, wz = wr := ⟨_, rfl⟩
      subst hwz
      have HC : Hid (Calls _ _ _ _ _) := lay_any k X.a X.c X.ws wz hXi.seg hXi.len hmx
      obtain ⟨XL, hXL⟩ : ∃ XL, X.ws.length = XL := ⟨_, rfl⟩
      have hxv : Core.v X = .slice X.a XL X.c := by unfold Core.v; rw [hXL]
      have hl16 := (may_iff.1 hmx).2.1
      have hxc : (XL : Int) ≤ X.c ∧ (X.c : Int) ≤ 9223372036854775807 := by have := hXi.len; unfold maxLen at this; omega
      rw [hXL] at HC hl16
      rw [hxv] at hc
      have HK : Hid (One w ⟨f, mj, kn, rm, some ⟨g0, o0, none⟩, cc, cs, pa, pc, ps, qa, qc, qs⟩ C N wz ∧ cs[k]? = some X ∧ Row eSpn wz (C + 1) u5 (pickAll p cs k) ∧ may X.ws = true ∧ X.ws.length = XL ∧ C + 1 ≤ wz.heap.size) := ⟨hO, hX, hRow, hmx, hXL, hlo⟩
      clear hO hX hRow hmx hXL hxv hXi
      go_wp2_with fail
      refine HC.out.mono ?_
      rintro e w1 ⟨g, rfl, hg1, hg2, hg3, hK⟩
      have HI : Hid (SpI w ⟨f, mj, kn, rm, some ⟨g0, o0, none⟩, cc, cs, pa, pc, ps, qa, qc, qs⟩ C N (C + 1) g k X w1 u5 (pickAll p cs k) ∧ C + 1 ≤ w1.heap.size) := by
        refine ⟨⟨HK.out.1.kept hK, hg3, hg2, HK.out.2.2.1.kept hK fun _ e => e.elim, ?_⟩, Nat.le_trans HK.out.2.2.2.2.2 hK.size⟩
        intro e
        have hown := HK.out.2.2.1.own
        have := (hown.lt g e).2
        omega
      clear hg1 hg2 hg3 hK hc hlo
      go_wp2
      go_loopw [5, 22] (fun u i wr => ∃ j : Nat, j ≤ XL ∧ i = .int .i64 j ∧ SpI w ⟨f, mj, kn, rm, some ⟨g0, o0, none⟩, cc, cs, pa, pc, ps, qa, qc, qs⟩ C N (C + 1) g k X wr u (pickAll p cs k ++ pick p k X.ws j) ∧ C + 1 ≤ wr.heap.size) (fun _ i _ => XL - (intOf i).toNat)
      case atStart => exact ⟨0, by omega, rfl, by simpa [pick] using HI.out.1, HI.out.2⟩
      case round =>
        obtain ⟨j, hj, rfl, hI, hlo⟩ := hrel
        clear HI
        by_cases hlj : j < XL
        · have hjl : j < X.ws.length := by have := HK.out.2.2.2.2.1; omega
          obtain ⟨y, hy⟩ : ∃ y, X.ws[j]? = some y := ⟨_, List.getElem?_eq_getElem hjl⟩
          have HY : Hid (X.ws[j]? = some y) := hy
          obtain ⟨g1, o1, e1, hg1⟩ := hI.seg.at (laid_get (core := k) hjl)
          cases e1
          have s0 := hg1 0 _ rfl
          have s1 := hg1 1 _ rfl
          have s2 := hg1 2 _ rfl
          have s3 := hg1 3 _ rfl
          rw [Nat.zero_add] at s0 s1 s2 s3
          rw [Nat.add_zero] at s0
          obtain ⟨B, hB⟩ : ∃ B, beg X.ws j = B := ⟨_, rfl⟩
          obtain ⟨B', hB'⟩ : ∃ B, beg X.ws (j + 1) = B := ⟨_, rfl⟩
          have HB : Hid (beg X.ws j = B ∧ beg X.ws (j + 1) = B') := ⟨hB, hB'⟩
          dsimp only at s0 s1 s2 s3
          rw [hB] at s2
          rw [hB'] at s3
          obtain ⟨W1, hW1⟩ : ∃ W1, W1 = wr.alloc (.cells #[.int .i64 k, .int .i64 j, .int .i64 B, .int .i64 B'] 69) := ⟨_, rfl⟩
          obtain ⟨D, hD⟩ : ∃ D, D = wr.heap.size := ⟨_, rfl⟩
          have HW1 : Hid (Blk W1 D [.int .i64 k, .int .i64 j, .int .i64 B, .int .i64 B'] 69 ∧ SpI w ⟨f, mj, kn, rm, some ⟨g0, o0, none⟩, cc, cs, pa, pc, ps, qa, qc, qs⟩ C N (C + 1) g k X W1 u5 (pickAll p cs k ++ pick p k X.ws j) ∧ C + 1 ≤ W1.heap.size) := by
            rw [hW1, hD]; exact ⟨Blk.new _ _ _, hI.kept ((Keeps.refl _ _).alloc _), by simp; omega⟩
          clear hI hg1 hB hB' hy hlo
          go_upto_region 8 with fail
          rw [← hW1, ← hD]
          clear hW1 hD s0 s1 s2 s3
          have d0 := HW1.out.1.cell (i := 0) rfl
          have d1 := HW1.out.1.cell (i := 1) rfl
          have d2 := HW1.out.1.cell (i := 2) rfl
          have d3 := HW1.out.1.cell (i := 3) rfl
          have hXin := HW1.out.2.1.one.cin.cin X (List.mem_of_getElem? HK.out.2.1)
          obtain ⟨g3, o3, ha3, hg3⟩ := hXin.seg.at HY.out
          have y0 := hg3 0 _ rfl
          rw [Nat.add_zero] at y0
          clear hg3 hXin
          by_cases hp : y.p = p
          · have hp' : (y.p == p) = true := by simp [hp]
            have hlen : (pickAll p cs k ++ pick p k X.ws j).length + 1 ≤ 2147483647 := by
              have h1 := pickAll_len p cs k
              have h2 := pick_len p k X.ws j
              have h3 := tot_succ HK.out.2.1
              have h4 := tot_le (cs := cs) (i := k + 1) (j := L) (by omega)
              have h5 := HL.out.2.2
              rw [List.length_append]
              omega
            obtain ⟨i0, hi, hz0, hz1, hz2⟩ := info_parts Try.info69
            have hvs : ∀ v ∈ Spn.vs ⟨k, j, B, B'⟩, v.oneCell' = true := by
              intro v hv
              simp only [Spn.vs, List.mem_cons, List.not_mem_nil, or_false] at hv
              rcases hv with rfl | rfl | rfl | rfl <;> rfl
            obtain ⟨v', W', happ, hown', hfr', hKa⟩ := append_new 44 69 i0 (.agg #[.int .i64 0, .int .i64 0, .int .i64 0, .int .i64 0]) 4 32 Try.underlying44 hi hz0 hz1 hz2 rfl (by omega) u5 (pickAll p cs k ++ pick p k X.ws j).length ((pickAll p cs k ++ pick p k X.ws j).flatMap Spn.vs) HW1.out.2.1.row.own (Spn.vs ⟨k, j, B, B'⟩).toArray rfl (by simpa using hvs) (by unfold maxLen; omega) (by omega)
            have HN : Hid (SpI w ⟨f, mj, kn, rm, some ⟨g0, o0, none⟩, cc, cs, pa, pc, ps, qa, qc, qs⟩ C N (C + 1) g k X W' v' (pickAll p cs k ++ pick p k X.ws (j + 1)) ∧ C + 1 ≤ W'.heap.size) := by
              rw [pick_in HY.out hp, HB.out.1, HB.out.2, ← List.append_assoc]
              exact ⟨HW1.out.2.1.push ⟨k, j, B, B'⟩ rfl HO.out.2.1 HW1.out.2.2 hown' hfr' hKa, Nat.le_trans HW1.out.2.2 hKa.size⟩
            have HAP : Hid (∀ ty, (Builtin.append_ #[44, 44] ty #[u5, .slice (some ⟨W1.heap.size, 0, none⟩) 1 1]).run Try.prog (W1.alloc (.cells (Spn.vs ⟨k, j, B, B'⟩).toArray 69)) = .ok v' W') := happ
            clear hi hz0 hz1 hz2 hvs happ hown' hfr' hKa hlen
            go_upto_region 9 with fail
            clear y0 d1
            have d1 := HW1.out.1.cell (i := 1) rfl
            go_wp2_with (at_builtin; go_must (refine wpList_append_run rfl (.tmp 34) (.tmp 36) 44 44 rfl u5 (.slice (some ⟨W1.heap.size, 0, none⟩) 1 1) v' W' rfl rfl HAP.out ?_; refine Hid.out ?_))
            unfold Hid
            clear HAP
            rw [← ha3]
            clear ha3
            go_wp2
            go_roundw
            case rel => exact ⟨j + 1, by omega, by go_num, HN.out.1, HN.out.2⟩
            case measure => simp [intOf]; omega
          · have hp' : (y.p == p) = false := by simp [hp]
            go_wp2
            go_roundw
            case rel => exact ⟨j + 1, by omega, by go_num, by rw [pick_out HY.out hp]; exact HW1.out.2.1, HW1.out.2.2⟩
            case measure => simp [intOf]; omega
        · obtain rfl : j = XL := by omega
          have HE : Hid (Row eSpn wr (C + 1) u5 (pickAll p cs (k + 1)) ∧ One w ⟨f, mj, kn, rm, some ⟨g0, o0, none⟩, cc, cs, pa, pc, ps, qa, qc, qs⟩ C N wr ∧ C + 1 ≤ wr.heap.size) := by
            refine ⟨?_, hI.one, hlo⟩
            rw [pickAll_succ HK.out.2.1, HK.out.2.2.2.2.1]
            exact hI.row
          clear hI hlo
          go_wp2
          go_roundw
          case rel => exact ⟨k + 1, by omega, by go_num, HE.out.1, HE.out.2.1, HE.out.2.2⟩
          case measure => simp [intOf]; omega
    · obtain rfl : k = L := by omega
      have HE : Hid (Row eSpn wr (C + 1) u5 (pickAll p cs k) ∧ Keeps (fun _ => False) w wr) := ⟨hRow, hO.keeps⟩
      clear hRow hO
      go_wp2
      go_ret
      refine ⟨_, rfl, ?_, HE.out.2⟩
      rw [HL.out.1]
      refine ⟨HE.out.1.own, fun k hk => ?_, HE.out.1.ok, fun x hx k hk => by cases hk⟩
      have := HE.out.1.low k hk
      have := HO.out.2.1
      omega
end Go.Proofs.Ytnkfdmlpjgmckaa
