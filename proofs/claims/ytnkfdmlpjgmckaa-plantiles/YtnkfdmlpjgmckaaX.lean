import Derived.Test.YtnkfdmlpjgmckaaV
namespace Go.Proofs.Ytnkfdmlpjgmckaa
open Go.RowKit
set_option linter.unusedVariables false
set_option maxRecDepth 6000

theorem begs_get (ws : List Win) {j : Nat} (hj : j < ws.length) : ((begs ws).map (Value.int .i64))[j]? = some (.int .i64 (beg ws j)) := by simp [begs, hj]

/-- What holds when the times have been told. -/
structure Til (w : World) (x : Cfg) (C N D G : Nat) (X : Core) (pl : Plc) (wr : World) : Prop where
  one : One w x C N wr
  pl : Blk wr D pl.vs 30
  st : Blk wr G ((begs X.ws).map (.int .i64)) 3
theorem Til.kept {w : World} {x : Cfg} {C N D G : Nat} {X : Core} {pl : Plc} {wr w' : World} (h : Til w x C N D G X pl wr) (hK : Keeps (fun _ => False) wr w') : Til w x C N D G X pl w' :=
  ⟨h.one.kept hK, h.pl.kept hK fun h => h, h.st.kept hK fun h => h⟩

set_option maxHeartbeats 4000000 in
theorem planTiles_any (x : Cfg) (k t : Int) (w : World) (N : Nat) (hi : x.In w N) (hN : N ≤ w.heap.size) :
    Calls Try.prog 5 #[x.v, .int .i64 k, .int .i64 t] w fun e w' => e = .returned (.bool true) ∧ Keeps (fun _ => False) w w' := by
  obtain ⟨W, hW⟩ : ∃ W, W = x.laid w := ⟨_, rfl⟩
  obtain ⟨C, hC⟩ : ∃ C, C = w.heap.size := ⟨_, rfl⟩
  have HO : Hid (One w x C N W) := by rw [hW, hC]; exact One.mk' hi hN
  have hcc : (x.cs.length : Int) ≤ x.cc ∧ (x.cc : Int) ≤ 9223372036854775807 := by have := hi.clen; unfold maxLen at this; omega
  clear hi hN
  unfold Cfg.laid at hW
  go_enter Try.func5, Try.ntmps5
  go_wp2_with fail
  rw [← hW, ← hC]
  clear hW hC
  refine (vast_any x W N HO.out.cin HO.out.nn).mono ?_
  rintro e w1 ⟨b, rfl, hK, _⟩
  have HO1 : Hid (One w x C N w1) := HO.out.kept hK
  clear hK HO
  cases b with
  | true =>
    go_wp2
    go_ret
    exact ⟨rfl, HO1.out.keeps⟩
  | false =>
    obtain ⟨c0, c1, c2, c3, c4, c5, c6⟩ := HO1.out.cells
    go_wp2_with fail
    refine (starts_any x k w1 N HO1.out.cin HO1.out.nn).mono ?_
    rintro e w2 ⟨hK, hst⟩
    have HO2 : Hid (One w x C N w2) := HO1.out.kept hK
    clear hK c0 c1 c2 c3 c4 c5 c6
    obtain ⟨c0, c1, c2, c3, c4, c5, c6⟩ := HO2.out.cells
    have HA : Hid (Calls _ _ _ _ _) := at_any x k t w2 N HO2.out.cin HO2.out.nn
    rcases hst with ⟨hk, rfl⟩ | ⟨n, X, rfl, hX, ⟨hm, rfl⟩ | ⟨hm, G, rfl, hG1, hG2⟩⟩
    · go_wp2_with fail
      refine HA.out.mono ?_
      rintro e w3 ⟨pl, er, rfl, hR, hK⟩
      obtain ⟨rfl, rfl⟩ := hR.unique (.inl ⟨hk, rfl, rfl⟩)
      have HK : Hid (Keeps (fun _ => False) w w3) := HO2.out.keeps.trans hK fun _ _ h => h
      clear hK hR c0 c1 c2 c3 c4 c5 c6
      go_wp2_with fail
      refine (awake_any _).mono ?_
      rintro e w4 ⟨rfl, hK⟩
      have HK4 : Hid (Keeps (fun _ => False) w w4) := (HK.out.alloc _).trans hK fun _ _ h => h
      clear hK
      go_wp2
      go_ret
      exact ⟨rfl, HK4.out⟩
    · go_wp2_with fail
      refine HA.out.mono ?_
      rintro e w3 ⟨pl, er, rfl, hR, hK⟩
      obtain ⟨rfl, rfl⟩ := hR.unique (.inr ⟨n, X, rfl, hX, .inl ⟨hm, rfl, rfl⟩⟩)
      have HK : Hid (Keeps (fun _ => False) w w3) := HO2.out.keeps.trans hK fun _ _ h => h
      clear hK hR c0 c1 c2 c3 c4 c5 c6
      go_wp2_with fail
      refine (awake_any _).mono ?_
      rintro e w4 ⟨rfl, hK⟩
      have HK4 : Hid (Keeps (fun _ => False) w w4) := (HK.out.alloc _).trans hK fun _ _ h => h
      clear hK
      go_wp2
      go_ret
      exact ⟨rfl, HK4.out⟩
    · have HX : Hid (x.cs[n]? = some X ∧ may X.ws = true) := ⟨hX, hm⟩
      have hL16 : 1 ≤ X.ws.length ∧ X.ws.length ≤ 16 := ⟨(may_iff.1 hm).1, (may_iff.1 hm).2.1⟩
      have hn : (n : Int) < x.cs.length := by have := (List.getElem?_eq_some_iff.1 hX).1; omega
      have HG : Hid (Blk w2 G ((begs X.ws).map (.int .i64)) 3) := hG2
      clear hX hm hG1 hG2
      go_wp2_with fail
      refine HA.out.mono ?_
      rintro e w3 ⟨pl, er, rfl, hR, hK⟩
      obtain ⟨D, hD⟩ : ∃ D, D = w3.heap.size := ⟨_, rfl⟩
      obtain ⟨W3, hW3⟩ : ∃ W3, W3 = w3.alloc (.cells #[.int .i64 pl.win, .int .i64 pl.part, .int .i64 pl.off, .int .i64 pl.fin] 30) := ⟨_, rfl⟩
      have HT : Hid (Til w x C N D G X pl W3 ∧ AtR x n t pl er) := by
        rw [hW3, hD]; exact ⟨⟨(HO2.out.kept hK).kept ((Keeps.refl _ _).alloc _), Blk.new _ _ _, (HG.out.kept hK fun h => h).alloc _⟩, hR⟩
      clear hK hR c0 c1 c2 c3 c4 c5 c6
      go_upto_region 5 with fail
      rw [← hW3, ← hD]
      clear hW3 hD HA HG
      have c4 := HT.out.1.one.cells.2.2.2.2.1
      obtain ⟨g0, o0, ha, hc⟩ := HT.out.1.one.cin.core HX.out.1
      have hXi := HT.out.1.one.cin.cin X (List.mem_of_getElem? HX.out.1)
      have hxc : (X.ws.length : Int) ≤ X.c ∧ (X.c : Int) ≤ 9223372036854775807 := by have := hXi.len; unfold maxLen at this; omega
      obtain ⟨L, hL⟩ : ∃ L, X.ws.length = L := ⟨_, rfl⟩
      have HL : Hid (X.ws.length = L) := hL
      have hv : Core.v X = .slice X.a L X.c := by unfold Core.v; rw [hL]
      rw [hv] at hc
      rw [hL] at hxc hL16 ⊢
      rw [ha] at c4
      clear hXi hL hv
      go_wp2
      rw [← ha]
      clear ha c4 hc
      go_loopw [12, 13] (fun z i wr => ∃ j : Nat, j ≤ L ∧ i = .int .i64 j ∧ z = .int .i64 (beg X.ws j) ∧ Til w x C N D G X pl wr) (fun _ i _ => L - (intOf i).toNat)
      case atStart => exact ⟨0, by omega, rfl, rfl, HT.out.1⟩
      case round =>
        obtain ⟨j, hj, rfl, rfl, hT⟩ := hrel
        have HT2 : Hid (Til w x C N D G X pl wr ∧ AtR x n t pl er) := ⟨hT, HT.out.2⟩
        clear hT HT
        have hXi := HT2.out.1.one.cin.cin X (List.mem_of_getElem? HX.out.1)
        have hok := (may_iff.1 HX.out.2).2.2
        have hb := beg_bound hok j
        obtain ⟨B, hB⟩ : ∃ B, beg X.ws j = B := ⟨_, rfl⟩
        by_cases hlt : j < L
        · have hjl : j < X.ws.length := by have := HL.out; omega
          obtain ⟨y, hy⟩ : ∃ y, X.ws[j]? = some y := ⟨_, List.getElem?_eq_getElem hjl⟩
          obtain ⟨g1, o1, ha1, hg1⟩ := hXi.seg.at hy
          have y1 := hg1 1 _ rfl
          have y2 := hg1 2 _ rfl
          have hG := HT2.out.1.st.cell (begs_get X.ws hjl)
          have hy4 := Win.okB_iff.1 (hok y (List.mem_of_getElem? hy))
          have hbs := beg_succ hy
          rw [hB] at hb hbs hG ⊢
          have HB : Hid (beg X.ws (j + 1) = B + (y.u + y.s)) := hbs
          have hB1 : 0 ≤ B ∧ B ≤ 524288 := by have := HL.out; omega
          have q1 : IntKind.i64.wrap (y.u + y.s) = y.u + y.s := by rw [IntKind.wrap_i64]; omega
          have q2 : IntKind.i64.wrap (B + (y.u + y.s)) = B + (y.u + y.s) := by rw [IntKind.wrap_i64]; omega
          clear hy hg1 hXi hok hb hbs hB
          go_upto_region 16 with fail
          go_quiet (fail)
          clear y1 y2 hG ha1
          go_wp2
          go_roundw
          case rel => exact ⟨j + 1, by omega, by go_num, by rw [HB.out], HT2.out.1.kept ((Keeps.refl _ _).drewN _)⟩
          case measure => simp [intOf]; omega
        · obtain rfl : j = L := by omega
          have hAt := HT2.out.2
          have HB : Hid (beg X.ws j = B) := hB
          have hB1 : 0 ≤ B ∧ B ≤ 524288 := by have := HL.out; omega
          rw [hB]
          clear hb hB hXi hok
          have hAt : AtW X.ws t pl er := by
            rcases hAt with ⟨h, _⟩ | ⟨n', X', h1, h2, h3⟩
            · exfalso; omega
            · obtain rfl : n = n' := by omega
              have := HX.out.1
              rw [h2] at this
              cases this
              exact h3
          rcases hAt with ⟨h, _⟩ | ⟨_, ⟨ht, rfl, rfl⟩ | ⟨i, y, hy, h1, h2, rfl, rfl⟩⟩
          · have := HX.out.2; rw [h] at this; cases this
          · rw [HL.out, HB.out] at ht
            by_cases h0 : t < 0
            · have h0' : decide (t < 0) = true := by simp [h0]
              go_wp2_with fail
              refine (awake_any _).mono ?_
              rintro e w4 ⟨rfl, hK⟩
              have HK4 : Hid (Keeps (fun _ => False) w w4) := HT2.out.1.one.keeps.trans hK fun _ _ h => h
              clear hK
              go_wp2
              go_ret
              exact ⟨rfl, HK4.out⟩
            · have h0' : decide (t < 0) = false := by simp [h0]
              have h1' : decide (B ≤ t) = true := by simp; omega
              go_wp2_with fail
              refine (awake_any _).mono ?_
              rintro e w4 ⟨rfl, hK⟩
              have HK4 : Hid (Keeps (fun _ => False) w w4) := HT2.out.1.one.keeps.trans hK fun _ _ h => h
              clear hK
              go_wp2
              go_ret
              exact ⟨rfl, HK4.out⟩
          · have hil := (List.getElem?_eq_some_iff.1 hy).1
            have hok := (may_iff.1 HX.out.2).2.2
            have hle := beg_le hok (i := i + 1) (j := j) (by have := HL.out; omega)
            have hb1 := beg_bound hok i
            have hbs := beg_succ hy
            have hy4 := Win.okB_iff.1 (hok y (List.mem_of_getElem? hy))
            obtain ⟨B1, hB1d⟩ : ∃ B, beg X.ws i = B := ⟨_, rfl⟩
            obtain ⟨B2, hB2d⟩ : ∃ B, beg X.ws (i + 1) = B := ⟨_, rfl⟩
            rw [HB.out] at hle
            rw [hB2d] at hle h2 hbs HT2
            rw [hB1d] at hb1 h1 hbs HT2
            have HY : Hid (X.ws[i]? = some y ∧ beg X.ws i = B1 ∧ B2 = B1 + (y.u + y.s)) := ⟨hy, hB1d, hbs⟩
            have hb1' : 0 ≤ B1 ∧ B1 ≤ 524288 ∧ 0 ≤ B2 ∧ B2 ≤ 524288 := by omega
            have h0' : decide (t < 0) = false := by simp; omega
            have h1' : decide (B ≤ t) = false := by simp; omega
            have hil' : i < j := by have := HL.out; omega
            obtain ⟨T, hT⟩ : ∃ T, t - B1 = T := ⟨_, rfl⟩
            rw [hT] at HT2
            have d0 := HT2.out.1.pl.cell (i := 0) rfl
            have d1 := HT2.out.1.pl.cell (i := 1) rfl
            have d2 := HT2.out.1.pl.cell (i := 2) rfl
            have d3 := HT2.out.1.pl.cell (i := 3) rfl
            have hG := HT2.out.1.st.cell (begs_get X.ws hil)
            rw [hB1d] at hG
            dsimp only at d0 d1 d2 d3
            have q3 : IntKind.i64.wrap (B1 + T) = t := by rw [IntKind.wrap_i64]; omega
            have e1 : decide (T < 0) = false := by simp; omega
            have e2 : decide (B2 ≤ t) = false := by simp; omega
            have e4 : decide ((j : Int) ≤ i) = false := by simp; omega
            clear hy hle hbs hB1d hB2d hok hb1 hil hT
            go_upto_region 19 with fail
            go_quiet (fail)
            clear d0 d1 d2 d3 hG
            obtain ⟨W5, hW5⟩ : ∃ W5, W5 = wr.drewN nq := ⟨_, rfl⟩
            have HT3 : Hid (Til w x C N D G X ⟨i, y.p, T, B2⟩ W5) := by rw [hW5]; exact HT2.out.1.kept ((Keeps.refl _ _).drewN _)
            rw [← hW5]
            clear hW5
            have hXi := HT3.out.one.cin.cin X (List.mem_of_getElem? HX.out.1)
            obtain ⟨g1, o1, ha1, hg1⟩ := hXi.seg.at HY.out.1
            have HSS : Hid (∀ w', Keeps (fun _ => False) W5 w' → w'.cell? ⟨D, 0, none⟩ = some (.int .i64 i) ∧ w'.cell? ⟨D, 1, none⟩ = some (.int .i64 y.p) ∧ w'.cell? ⟨D, 3, none⟩ = some (.int .i64 B2) ∧ w'.cell? ⟨G, i, none⟩ = some (.int .i64 B1) ∧ w'.cell? ⟨g1, o1 + i * 3, none⟩ = some (.int .i64 y.p) ∧ w'.cell? ⟨g1, o1 + i * 3 + 1, none⟩ = some (.int .i64 y.u) ∧ w'.cell? ⟨g1, o1 + i * 3 + 2, none⟩ = some (.int .i64 y.s)) := by
              intro w' hK
              have h1 := HT3.out.kept hK
              have hXi' := h1.one.cin.cin X (List.mem_of_getElem? HX.out.1)
              obtain ⟨g2, o2, ha2, hg2⟩ := hXi'.seg.at HY.out.1
              rw [ha1] at ha2
              cases ha2
              have z0 := hg2 0 _ rfl
              rw [Nat.add_zero] at z0
              refine ⟨h1.pl.cell rfl, h1.pl.cell rfl, h1.pl.cell rfl, ?_, z0, hg2 1 _ rfl, hg2 2 _ rfl⟩
              have := h1.st.cell (begs_get X.ws (by have := HL.out; omega : i < X.ws.length))
              rw [HY.out.2.1] at this
              exact this
            clear hg1 hXi
            have hS0 := HSS.out W5.drew ((Keeps.refl _ _).drew)
            have r1 : IntKind.i64.wrap (B1 + y.u) = B1 + y.u := by rw [IntKind.wrap_i64]; omega
            have r2 : IntKind.i64.wrap (B1 + y.u + y.s) = B2 := by have := HY.out.2.2; rw [IntKind.wrap_i64]; omega
            go_upto_region 21 with fail
            go_region_held3 (fun w' => w'.cell? ⟨D, 0, none⟩ = some (.int .i64 i) ∧ w'.cell? ⟨D, 1, none⟩ = some (.int .i64 y.p) ∧ w'.cell? ⟨D, 3, none⟩ = some (.int .i64 B2) ∧ w'.cell? ⟨G, i, none⟩ = some (.int .i64 B1) ∧ w'.cell? ⟨g1, o1 + i * 3, none⟩ = some (.int .i64 y.p) ∧ w'.cell? ⟨g1, o1 + i * 3 + 1, none⟩ = some (.int .i64 y.u) ∧ w'.cell? ⟨g1, o1 + i * 3 + 2, none⟩ = some (.int .i64 y.s)) (first | exact hS | exact hS0 | go_keep)
              (first | (refine (awake_any _).mono ?_; rintro r w6 ⟨rfl, hK⟩; have hK5 : Keeps (fun _ => False) W5 w6 := ((Keeps.refl _ _).drew).trans hK (fun _ _ h => h); have hS := HSS.out w6 hK5; have HK6 : Hid (Keeps (fun _ => False) w w6) := HT3.out.one.keeps.trans hK5 (fun _ _ h => h); clear hK hK5))
            clear hS0
            go_wp2
            go_ret
            exact ⟨rfl, HK6.out⟩
end Go.Proofs.Ytnkfdmlpjgmckaa
