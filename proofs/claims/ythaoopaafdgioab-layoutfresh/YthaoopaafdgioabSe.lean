import Derived.Test.YthaoopaafdgioabMv
namespace Go.Proofs.Ythaoopaafdgioab
open Go.RowKit
set_option linter.unusedVariables false
set_option linter.unusedSimpArgs false
set_option maxRecDepth 8000

/-- Two layouts say the same. -/
structure Eqd (L H : Nat) (F F' : Nat → PP) (G G' : Nat → CP) (T T' : Nat → List Int) (D D' : Nat → List Dst) : Prop where
  pf : ∀ i, i < L → (F' i).lock = (F i).lock ∧ (F' i).save = (F i).save ∧ (F' i).state = (F i).state ∧ (F' i).root = (F i).root ∧ T' i = T i
  cf : ∀ i, i < H → (G' i).lock = (G i).lock ∧ (G' i).stage = (G i).stage ∧ (G' i).sp = (G i).sp ∧ (G' i).sq = (G i).sq ∧ D' i = D i

set_option maxHeartbeats 16000000 in
theorem sameL_any (L H b1 b2 c1 c2 : Nat) (F F' : Nat → PP) (G G' : Nat → CP) (T T' : Nat → List Int) (D D' : Nat → List Dst) (a e : Int) (w : World) (h1 : Duo w L H b1 b2 F G T D) (h2 : Duo w L H c1 c2 F' G' T' D') (hM : Eqd L H F F' G G' T T' D D')
    (hL : L ≤ 8) (hH : H ≤ 16) :
    Calls Try.prog 13 #[.agg #[.int .i64 a, .slice (some ⟨b1, 0, none⟩) L L, .slice (some ⟨b2, 0, none⟩) H H, .int .i64 e], .agg #[.int .i64 a, .slice (some ⟨c1, 0, none⟩) L L, .slice (some ⟨c2, 0, none⟩) H H, .int .i64 e]] w fun r w' => r = .returned (.bool true) ∧ Keeps (fun _ => False) w w' := by
  have HM : Hid (Eqd L H F F' G G' T T' D D') := hM
  obtain ⟨W, hW⟩ : ∃ W, W = (w.alloc (.cells #[.int .i64 a, .slice (some ⟨b1, 0, none⟩) L L, .slice (some ⟨b2, 0, none⟩) H H, .int .i64 e] 31)).alloc (.cells #[.int .i64 a, .slice (some ⟨c1, 0, none⟩) L L, .slice (some ⟨c2, 0, none⟩) H H, .int .i64 e] 31) := ⟨_, rfl⟩
  obtain ⟨C, hC⟩ : ∃ C, C = w.heap.size := ⟨_, rfl⟩
  have HW : Hid (Keeps (fun _ => False) w W ∧ Duo W L H b1 b2 F G T D ∧ Duo W L H c1 c2 F' G' T' D' ∧ Blk W C [.int .i64 a, .slice (some ⟨b1, 0, none⟩) L L, .slice (some ⟨b2, 0, none⟩) H H, .int .i64 e] 31 ∧ Blk W (C + 1) [.int .i64 a, .slice (some ⟨c1, 0, none⟩) L L, .slice (some ⟨c2, 0, none⟩) H H, .int .i64 e] 31) := by
    have k : Keeps (fun _ => False) w W := by rw [hW]; exact ((Keeps.refl _ _).alloc _).alloc _
    refine ⟨k, h1.grow k, h2.grow k, by rw [hW, hC]; exact (Blk.new w _ _).alloc _, ?_⟩
    rw [hW, hC]
    have := Blk.new (w.alloc (.cells #[.int .i64 a, .slice (some ⟨b1, 0, none⟩) L L, .slice (some ⟨b2, 0, none⟩) H H, .int .i64 e] 31)) #[.int .i64 a, .slice (some ⟨c1, 0, none⟩) L L, .slice (some ⟨c2, 0, none⟩) H H, .int .i64 e] 31
    simpa using this
  have hLi : (L : Int) ≤ 9223372036854775807 := by omega
  have hHi : (H : Int) ≤ 9223372036854775807 := by omega
  clear h1 h2 hM
  go_enter Try.func13, Try.ntmps13
  go_upto_region 1 with fail
  rw [← hW, ← hC]
  clear hW hC
  have a0 := HW.out.2.2.2.1.cell (i := 0) rfl
  have a1 := HW.out.2.2.2.1.cell (i := 1) rfl
  have a2 := HW.out.2.2.2.1.cell (i := 2) rfl
  have a3 := HW.out.2.2.2.1.cell (i := 3) rfl
  have d0 := HW.out.2.2.2.2.cell (i := 0) rfl
  have d1 := HW.out.2.2.2.2.cell (i := 1) rfl
  have d2 := HW.out.2.2.2.2.cell (i := 2) rfl
  have d3 := HW.out.2.2.2.2.cell (i := 3) rfl
  go_wp2
  clear a0 a1 a2 a3 d0 d1 d2 d3
  go_loopw [46] (fun i wr => ∃ j : Nat, j ≤ L ∧ i = .int .i64 j ∧ Keeps (fun _ => False) W wr) (fun i _ => L - (intOf i).toNat)
  case atStart => exact ⟨0, by omega, rfl, Keeps.refl _ _⟩
  case round =>
    obtain ⟨j, hj, rfl, hK⟩ := hrel
    obtain ⟨wz, hwz⟩ : ∃ wz, wz = wr := ⟨_, rfl⟩
    subst hwz
    by_cases hlt : j < L
    · have hA := HW.out.2.1.grow hK
      have hB := HW.out.2.2.1.grow hK
      obtain ⟨m1, m2, m3, m4, m5⟩ := HM.out.pf j hlt
      obtain ⟨ad, cp, htv, hls⟩ := (hA.tr j hlt).lst
      obtain ⟨ad', cp', htv', hls'⟩ := (hB.tr j hlt).lst
      have hlen : (T' j).length = (T j).length := by rw [m5]
      rw [hlen] at htv'
      obtain ⟨M, hMl⟩ : ∃ M, (T j).length = M := ⟨_, rfl⟩
      rw [hMl] at htv htv'
      have x0 := hA.pc hlt (k := 0) (by omega) rfl
      have x1 := hA.pc hlt (k := 1) (by omega) rfl
      have x2 := hA.pc hlt (k := 2) (by omega) rfl
      have x3 := hA.pc hlt (k := 3) (by omega) rfl
      have x4 := hA.pc hlt (k := 4) (by omega) rfl
      have y0 := hB.pc hlt (k := 0) (by omega) rfl
      have y1 := hB.pc hlt (k := 1) (by omega) rfl
      have y2 := hB.pc hlt (k := 2) (by omega) rfl
      have y3 := hB.pc hlt (k := 3) (by omega) rfl
      have y4 := hB.pc hlt (k := 4) (by omega) rfl
      rw [htv] at x4
      rw [htv'] at y4
      rw [m1] at y0
      rw [m2] at y1
      rw [m3] at y2
      rw [m4] at y3
      rw [Nat.add_zero] at x0 y0
      obtain ⟨p1, e1⟩ : ∃ p, (F j).lock = p := ⟨_, rfl⟩
      obtain ⟨p2, e2⟩ : ∃ p, (F j).save = p := ⟨_, rfl⟩
      obtain ⟨p3, e3⟩ : ∃ p, (F j).state = p := ⟨_, rfl⟩
      obtain ⟨p4, e4⟩ : ∃ p, (F j).root = p := ⟨_, rfl⟩
      rw [e1] at x0 y0
      rw [e2] at x1 y1
      rw [e3] at x2 y2
      rw [e4] at x3 y3
      have hmc : (M : Int) ≤ cp ∧ (cp : Int) ≤ 9223372036854775807 ∧ (M : Int) ≤ cp' ∧ (cp' : Int) ≤ 9223372036854775807 := by
        have q1 := hls.len
        have q2 := hls'.len
        rw [hlen] at q2
        unfold maxLen at q1 q2
        omega
      have hbA := HW.out.2.2.2.1.kept hK fun h => h
      have hbB := HW.out.2.2.2.2.kept hK fun h => h
      have a1 := hbA.cell (i := 1) rfl
      obtain ⟨W1, hW1⟩ : ∃ W1, W1 = wz.alloc (.cells #[.int .i64 p1, .int .i64 p2, .int .i64 p3, .int .i64 p4, .slice ad M cp] 70) := ⟨_, rfl⟩
      obtain ⟨E, hE⟩ : ∃ E, E = wz.heap.size := ⟨_, rfl⟩
      have k1 : Keeps (fun _ => False) wz W1 := by rw [hW1]; exact (Keeps.refl _ _).alloc _
      have hs1 : W1.heap.size = E + 1 := by rw [hW1, hE]; simp
      obtain ⟨W2, hW2⟩ : ∃ W2, W2 = W1.alloc (.cells #[.int .i64 p1, .int .i64 p2, .int .i64 p3, .int .i64 p4, .slice ad' M cp'] 70) := ⟨_, rfl⟩
      have k2 : Keeps (fun _ => False) W1 W2 := by rw [hW2]; exact (Keeps.refl _ _).alloc _
      have HB1 : Hid (Blk W2 E [.int .i64 p1, .int .i64 p2, .int .i64 p3, .int .i64 p4, .slice ad M cp] 70) := by
        have hb : Blk W1 E [.int .i64 p1, .int .i64 p2, .int .i64 p3, .int .i64 p4, .slice ad M cp] 70 := by rw [hW1, hE]; exact Blk.new _ _ _
        exact hb.kept k2 fun h => h
      have HB2 : Hid (Blk W2 (E + 1) [.int .i64 p1, .int .i64 p2, .int .i64 p3, .int .i64 p4, .slice ad' M cp'] 70) := by rw [hW2, ← hs1]; exact Blk.new _ _ _
      have HT : Hid (Keeps (fun _ => False) W W2 ∧ Lst eInt W2 0 ad cp (T j) ∧ Lst eInt W2 0 ad' cp' (T' j) ∧ (T j).length = M ∧ T' j = T j) :=
        have k12 := k1.trans k2 fun _ _ h => h
        ⟨hK.trans k12 fun _ _ h => h, hls.kept k12 fun _ h => h.elim, hls'.kept k12 fun _ h => h.elim, hMl, m5⟩
      have HY : Hid (W1.cell? ⟨C + 1, 1, none⟩ = some (.slice (some ⟨c1, 0, none⟩) L L) ∧ W1.cell? ⟨c1, j * 5, none⟩ = some (.int .i64 p1) ∧ W1.cell? ⟨c1, j * 5 + 1, none⟩ = some (.int .i64 p2) ∧ W1.cell? ⟨c1, j * 5 + 2, none⟩ = some (.int .i64 p3) ∧ W1.cell? ⟨c1, j * 5 + 3, none⟩ = some (.int .i64 p4) ∧ W1.cell? ⟨c1, j * 5 + 4, none⟩ = some (.slice ad' M cp')) := by
        have ck : ∀ {b i v}, wz.cell? ⟨b, i, none⟩ = some v → W1.cell? ⟨b, i, none⟩ = some v := fun {b i v} hh => by
          rw [World.cell?_of_block (w := wz) (k1.block b (World.block_lt_of_cell? wz ⟨b, i, none⟩ hh) fun h => h)]; exact hh
        exact ⟨ck (hbB.cell rfl), ck y0, ck y1, ck y2, ck y3, ck y4⟩
      clear hA hB hls hls' hlen hMl htv htv' m1 m2 m3 m4 m5 e1 e2 e3 e4 hK hbA hbB y0 y1 y2 y3 y4 k1 k2
      go_upto_region 7 with fail
      rw [← hW1, ← hE]
      clear hW1 hE x0 x1 x2 x3 x4 a1
      obtain ⟨y, y0, y1, y2, y3, y4⟩ := HY.out
      go_upto_region 8 with fail
      rw [← hW2]
      clear hW2 hs1 y y0 y1 y2 y3 y4 HY
      have s0 := HB1.out.cell (i := 0) rfl
      have s1 := HB1.out.cell (i := 1) rfl
      have s2 := HB1.out.cell (i := 2) rfl
      have s3 := HB1.out.cell (i := 3) rfl
      have s4 := HB1.out.cell (i := 4) rfl
      have u0 := HB2.out.cell (i := 0) rfl
      have u1 := HB2.out.cell (i := 1) rfl
      have u2 := HB2.out.cell (i := 2) rfl
      have u3 := HB2.out.cell (i := 3) rfl
      have u4 := HB2.out.cell (i := 4) rfl
      go_wp2
      clear s0 s1 s2 s3 s4 u0 u1 u2 u3 u4
      go_loopw [97] (fun i wr => ∃ k : Nat, k ≤ M ∧ i = .int .i64 k ∧ Keeps (fun _ => False) W2 wr) (fun i _ => M - (intOf i).toNat)
      case atStart => exact ⟨0, by omega, rfl, Keeps.refl _ _⟩
      case round =>
        obtain ⟨k, hk, rfl, hK⟩ := hrel
        by_cases hlk : k < M
        · obtain ⟨z, hz⟩ : ∃ z, (T j)[k]? = some z := ⟨_, List.getElem?_eq_getElem (by have := HT.out.2.2.2.1; omega)⟩
          have hz' : (T' j)[k]? = some z := by rw [HT.out.2.2.2.2, hz]
          obtain ⟨g, o, rfl, hg⟩ := (HT.out.2.1.kept hK fun _ h => h.elim).seg.at hz
          obtain ⟨g', o', rfl, hg'⟩ := (HT.out.2.2.1.kept hK fun _ h => h.elim).seg.at hz'
          have t1 := hg 0 _ rfl
          have t2 := hg' 0 _ rfl
          simp only [eInt, Nat.mul_one, Nat.add_zero] at t1 t2
          have s4 := (HB1.out.kept hK fun h => h).cell (i := 4) rfl
          have u4 := (HB2.out.kept hK fun h => h).cell (i := 4) rfl
          have HK : Hid (Keeps (fun _ => False) W2 wr) := hK
          clear hz hz' hg hg' hK
          go_wp2
          go_quiet (fail)
          clear t1 t2 s4 u4
          go_wp2
          go_roundw
          case rel => exact ⟨k + 1, by omega, by go_num, HK.out.drewN _⟩
          case measure => simp [intOf]; omega
        · obtain rfl : M = k := by omega
          have HK : Hid (Keeps (fun _ => False) W wr) := HT.out.1.trans hK fun _ _ h => h
          clear hK
          go_wp2
          go_roundw
          case rel => exact ⟨j + 1, by omega, by go_num, HK.out⟩
          case measure => simp [intOf]; omega
    · obtain rfl : L = j := by omega
      have HK : Hid (Keeps (fun _ => False) W wz) := hK
      have a2 := (HW.out.2.2.2.1.kept hK fun h => h).cell (i := 2) rfl
      clear hK
      go_wp2
      go_loopw [116] (fun i wr => ∃ j : Nat, j ≤ H ∧ i = .int .i64 j ∧ Keeps (fun _ => False) W wr) (fun i _ => H - (intOf i).toNat)
      case atStart => exact ⟨0, by omega, rfl, HK.out⟩
      case round =>
        obtain ⟨j, hj, rfl, hK⟩ := hrel
        obtain ⟨wy, hwy⟩ : ∃ wy, wy = wr := ⟨_, rfl⟩
        subst hwy
        clear a2
        by_cases hlt : j < H
        · have hA := HW.out.2.1.grow hK
          have hB := HW.out.2.2.1.grow hK
          obtain ⟨m1, m2, m3, m4, m5⟩ := HM.out.cf j hlt
          obtain ⟨ad, cp, htv, hls⟩ := (hA.dr j hlt).lst
          obtain ⟨ad', cp', htv', hls'⟩ := (hB.dr j hlt).lst
          have hlen : (D' j).length = (D j).length := by rw [m5]
          rw [hlen] at htv'
          obtain ⟨M, hMl⟩ : ∃ M, (D j).length = M := ⟨_, rfl⟩
          rw [hMl] at htv htv'
          have x0 := hA.cc hlt (k := 0) (by omega) rfl
          have x1 := hA.cc hlt (k := 1) (by omega) rfl
          have x2 := hA.cc hlt (k := 2) (by omega) rfl
          have x3 := hA.cc hlt (k := 3) (by omega) rfl
          have x4 := hA.cc hlt (k := 4) (by omega) rfl
          have y0 := hB.cc hlt (k := 0) (by omega) rfl
          have y1 := hB.cc hlt (k := 1) (by omega) rfl
          have y2 := hB.cc hlt (k := 2) (by omega) rfl
          have y3 := hB.cc hlt (k := 3) (by omega) rfl
          have y4 := hB.cc hlt (k := 4) (by omega) rfl
          rw [htv] at x4
          rw [htv'] at y4
          rw [m1] at y0
          rw [m2] at y1
          rw [m3] at y2
          rw [m4] at y3
          rw [Nat.add_zero] at x0 y0
          obtain ⟨p1, e1⟩ : ∃ p, (G j).lock = p := ⟨_, rfl⟩
          obtain ⟨p2, e2⟩ : ∃ p, (G j).stage = p := ⟨_, rfl⟩
          obtain ⟨p3, e3⟩ : ∃ p, (G j).sp = p := ⟨_, rfl⟩
          obtain ⟨p4, e4⟩ : ∃ p, (G j).sq = p := ⟨_, rfl⟩
          rw [e1] at x0 y0
          rw [e2] at x1 y1
          rw [e3] at x2 y2
          rw [e4] at x3 y3
          have hmc : (M : Int) ≤ cp ∧ (cp : Int) ≤ 9223372036854775807 ∧ (M : Int) ≤ cp' ∧ (cp' : Int) ≤ 9223372036854775807 := by
            have q1 := hls.len
            have q2 := hls'.len
            rw [hlen] at q2
            unfold maxLen at q1 q2
            omega
          have hbA := HW.out.2.2.2.1.kept hK fun h => h
          have hbB := HW.out.2.2.2.2.kept hK fun h => h
          have a2 := hbA.cell (i := 2) rfl
          obtain ⟨W1, hW1⟩ : ∃ W1, W1 = wy.alloc (.cells #[.int .i64 p1, .int .i64 p2, .int .i64 p3, .int .i64 p4, .slice ad M cp] 63) := ⟨_, rfl⟩
          obtain ⟨E, hE⟩ : ∃ E, E = wy.heap.size := ⟨_, rfl⟩
          have k1 : Keeps (fun _ => False) wy W1 := by rw [hW1]; exact (Keeps.refl _ _).alloc _
          have hs1 : W1.heap.size = E + 1 := by rw [hW1, hE]; simp
          obtain ⟨W2, hW2⟩ : ∃ W2, W2 = W1.alloc (.cells #[.int .i64 p1, .int .i64 p2, .int .i64 p3, .int .i64 p4, .slice ad' M cp'] 63) := ⟨_, rfl⟩
          have k2 : Keeps (fun _ => False) W1 W2 := by rw [hW2]; exact (Keeps.refl _ _).alloc _
          have HB1 : Hid (Blk W2 E [.int .i64 p1, .int .i64 p2, .int .i64 p3, .int .i64 p4, .slice ad M cp] 63) := by
            have hb : Blk W1 E [.int .i64 p1, .int .i64 p2, .int .i64 p3, .int .i64 p4, .slice ad M cp] 63 := by rw [hW1, hE]; exact Blk.new _ _ _
            exact hb.kept k2 fun h => h
          have HB2 : Hid (Blk W2 (E + 1) [.int .i64 p1, .int .i64 p2, .int .i64 p3, .int .i64 p4, .slice ad' M cp'] 63) := by rw [hW2, ← hs1]; exact Blk.new _ _ _
          have HT : Hid (Keeps (fun _ => False) W W2 ∧ Lst eDst W2 0 ad cp (D j) ∧ Lst eDst W2 0 ad' cp' (D' j) ∧ (D j).length = M ∧ D' j = D j) :=
            have k12 := k1.trans k2 fun _ _ h => h
            ⟨hK.trans k12 fun _ _ h => h, hls.kept k12 fun _ h => h.elim, hls'.kept k12 fun _ h => h.elim, hMl, m5⟩
          have HY : Hid (W1.cell? ⟨C + 1, 2, none⟩ = some (.slice (some ⟨c2, 0, none⟩) H H) ∧ W1.cell? ⟨c2, j * 5, none⟩ = some (.int .i64 p1) ∧ W1.cell? ⟨c2, j * 5 + 1, none⟩ = some (.int .i64 p2) ∧ W1.cell? ⟨c2, j * 5 + 2, none⟩ = some (.int .i64 p3) ∧ W1.cell? ⟨c2, j * 5 + 3, none⟩ = some (.int .i64 p4) ∧ W1.cell? ⟨c2, j * 5 + 4, none⟩ = some (.slice ad' M cp')) := by
            have ck : ∀ {b i v}, wy.cell? ⟨b, i, none⟩ = some v → W1.cell? ⟨b, i, none⟩ = some v := fun {b i v} hh => by
              rw [World.cell?_of_block (w := wy) (k1.block b (World.block_lt_of_cell? wy ⟨b, i, none⟩ hh) fun h => h)]; exact hh
            exact ⟨ck (hbB.cell rfl), ck y0, ck y1, ck y2, ck y3, ck y4⟩
          clear hA hB hls hls' hlen hMl htv htv' m1 m2 m3 m4 m5 e1 e2 e3 e4 hK hbA hbB y0 y1 y2 y3 y4 k1 k2
          go_upto_region 21 with fail
          rw [← hW1, ← hE]
          clear hW1 hE x0 x1 x2 x3 x4 a2
          obtain ⟨y, y0, y1, y2, y3, y4⟩ := HY.out
          go_upto_region 22 with fail
          rw [← hW2]
          clear hW2 hs1 y y0 y1 y2 y3 y4 HY
          have s0 := HB1.out.cell (i := 0) rfl
          have s1 := HB1.out.cell (i := 1) rfl
          have s2 := HB1.out.cell (i := 2) rfl
          have s3 := HB1.out.cell (i := 3) rfl
          have s4 := HB1.out.cell (i := 4) rfl
          have u0 := HB2.out.cell (i := 0) rfl
          have u1 := HB2.out.cell (i := 1) rfl
          have u2 := HB2.out.cell (i := 2) rfl
          have u3 := HB2.out.cell (i := 3) rfl
          have u4 := HB2.out.cell (i := 4) rfl
          go_wp2
          clear s0 s1 s2 s3 s4 u0 u1 u2 u3 u4
          go_loopw [167] (fun i wr => ∃ k : Nat, k ≤ M ∧ i = .int .i64 k ∧ Keeps (fun _ => False) W2 wr) (fun i _ => M - (intOf i).toNat)
          case atStart => exact ⟨0, by omega, rfl, Keeps.refl _ _⟩
          case round =>
            obtain ⟨k, hk, rfl, hK⟩ := hrel
            by_cases hlk : k < M
            · obtain ⟨z, hz⟩ : ∃ z, (D j)[k]? = some z := ⟨_, List.getElem?_eq_getElem (by have := HT.out.2.2.2.1; omega)⟩
              have hz' : (D' j)[k]? = some z := by rw [HT.out.2.2.2.2, hz]
              obtain ⟨z1, z2, z3⟩ := z
              obtain ⟨g, o, rfl, hg⟩ := (HT.out.2.1.kept hK fun _ h => h.elim).seg.at hz
              obtain ⟨g', o', rfl, hg'⟩ := (HT.out.2.2.1.kept hK fun _ h => h.elim).seg.at hz'
              have t0 := hg 0 _ rfl
              have t1 := hg 1 _ rfl
              have t2 := hg 2 _ rfl
              have r0 := hg' 0 _ rfl
              have r1 := hg' 1 _ rfl
              have r2 := hg' 2 _ rfl
              simp only [eDst, Nat.add_zero] at t0 t1 t2 r0 r1 r2
              have s4 := (HB1.out.kept hK fun h => h).cell (i := 4) rfl
              have u4 := (HB2.out.kept hK fun h => h).cell (i := 4) rfl
              have HK : Hid (Keeps (fun _ => False) W2 wr) := hK
              clear hz hz' hg hg' hK
              go_wp2
              go_quiet (fail)
              clear t0 t1 t2 r0 r1 r2 s4 u4
              go_wp2
              go_roundw
              case rel => exact ⟨k + 1, by omega, by go_num, HK.out.drewN _⟩
              case measure => simp [intOf]; omega
            · obtain rfl : M = k := by omega
              have HK2 : Hid (Keeps (fun _ => False) W wr) := HT.out.1.trans hK fun _ _ h => h
              clear hK
              go_wp2
              go_roundw
              case rel => exact ⟨j + 1, by omega, by go_num, HK2.out⟩
              case measure => simp [intOf]; omega
        · obtain rfl : H = j := by omega
          have HK2 : Hid (Keeps (fun _ => False) w wy) := HW.out.1.trans hK fun _ _ h => h
          clear hK
          go_wp2
          go_ret
          exact ⟨rfl, HK2.out⟩
end Go.Proofs.Ythaoopaafdgioab
