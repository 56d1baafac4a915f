import Derived.Test.YtjadpbkhfclldaaGreatKv
namespace Go.Proofs.YtjadpbkhfclldaaGreat
open Go.RowKit
set_option linter.unusedVariables false
set_option linter.unusedSimpArgs false
set_option maxRecDepth 6000

/-- While all is held against what it was. -/
structure KI (w : World) (c : Cfg) (C R : Nat) (rv : List Value) (O : Nat → Nat → ObG) (wr : World) : Prop where
  cfg : Blk wr C c.vs 26
  room : Blk wr R rv 36
  rm : RmIn wr c O
  ok : c.Ok wr
  keeps : Keeps (fun _ => False) w wr
theorem KI.kept {w : World} {c : Cfg} {C R : Nat} {rv : List Value} {O : Nat → Nat → ObG} {wr wr' : World} (h : KI w c C R rv O wr) (hK : Keeps (fun _ => False) wr wr') : KI w c C R rv O wr' :=
  ⟨h.cfg.kept hK fun h => h, h.room.kept hK fun h => h, h.rm.kept hK, h.ok.grown hK, h.keeps.trans hK fun _ _ h => h⟩

def spareP (k : Nat) : Par := ⟨{ data := #[] }, -70 - (k : Int), 0, 0, 0, 0, none, 0, [], none, 0, []⟩
theorem spareSame (k : Nat) (w : World) (hk : k < 12) : Calls Tryz.prog 24 #[.agg #[.string { data := #[] }, .int .i64 (-70 - (k : Int)), .int .i64 0, .int .i64 0, .int .i64 0, .int .i64 0, .slice none 0 0, .slice none 0 0], .agg #[.string { data := #[] }, .int .i64 (-70 - (k : Int)), .int .i64 0, .int .i64 0, .int .i64 0, .int .i64 0, .slice none 0 0, .slice none 0 0]] w fun e w'' => e = .returned (.bool true) ∧ Keeps (fun _ => False) w w'' := by
  have hok : (spareP k).Ok w := by
    refine ⟨.inl rfl, ⟨Nat.le_refl _, Nat.zero_le _⟩, fun y hy => (by cases hy), .inl rfl, ⟨Nat.le_refl _, Nat.zero_le _⟩, fun y hy => (by cases hy), fun n hn => ?_, Nat.zero_le _⟩
    have : n = -70 - (k : Int) ∨ n = 0 := by simpa [Par.ns, spareP] using hn
    unfold I64
    omega
  have := samePartition_eq (spareP k) (spareP k) w rfl hok hok
  exact this

set_option maxHeartbeats 16000000 in
theorem Kept_walk (x c : Cfg) (O : Nat → Nat → ObG) (d0 d1 d2 d3 d4 d5 : Option Addr) (n0 n1 n2 n3 n4 n5 p0 p1 p2 p3 p4 p5 : Nat) (w : World) (hx : x.Ok w) (hc : c.Ok w) (hp : x.pure = c.pure) (hb : Bnd c) (hrm : RmIn w c O)
    (e0 : (O 0 0).u = .slice d0 n0 p0) (e1 : (O 0 1).u = .slice d1 n1 p1) (e2 : (O 0 2).u = .slice d2 n2 p2) (e3 : (O 0 3).u = .slice d3 n3 p3) (e4 : (O 0 4).u = .slice d4 n4 p4) (e5 : (O 0 5).u = .slice d5 n5 p5) :
    Calls Tryz.prog 9 #[x.v, .agg #[.slice d0 n0 p0, .slice d1 n1 p1, .slice d2 n2 p2, .slice d3 n3 p3, .slice d4 n4 p4, .slice d5 n5 p5], c.v] w fun e w' => e = .returned (.bool true) ∧ Keeps (fun _ => False) w w' := by
  have HB : Hid (Bnd c) := hb
  obtain ⟨B, hB⟩ : ∃ B, B = w.heap.size := ⟨_, rfl⟩
  obtain ⟨R, hR⟩ : ∃ R, R = w.heap.size + 1 := ⟨_, rfl⟩
  obtain ⟨C, hC⟩ : ∃ C, C = w.heap.size + 1 + 1 := ⟨_, rfl⟩
  obtain ⟨W, hW⟩ : ∃ W, W = ((x.laid w).alloc (.cells #[.slice d0 n0 p0, .slice d1 n1 p1, .slice d2 n2 p2, .slice d3 n3 p3, .slice d4 n4 p4, .slice d5 n5 p5] 36)).alloc (.cells c.vs.toArray 26) := ⟨_, rfl⟩
  have kW : Keeps (fun _ => False) w W := by rw [hW]; exact (((Keeps.refl _ _).alloc _).alloc _).alloc _
  have hBB : Blk W B x.vs 26 := by rw [hW, hB]; exact ((Blk.new w x.vs.toArray 26).alloc _).alloc _
  have HI0 : Hid (KI w c C R [.slice d0 n0 p0, .slice d1 n1 p1, .slice d2 n2 p2, .slice d3 n3 p3, .slice d4 n4 p4, .slice d5 n5 p5] O W) := by
    refine ⟨?_, ?_, hrm.kept kW, hc.grown kW, kW⟩
    · have := Blk.new ((x.laid w).alloc (.cells #[.slice d0 n0 p0, .slice d1 n1 p1, .slice d2 n2 p2, .slice d3 n3 p3, .slice d4 n4 p4, .slice d5 n5 p5] 36)) c.vs.toArray 26
      rw [hW, hC]; simpa [Cfg.laid] using this
    · have := (Blk.new (x.laid w) #[.slice d0 n0 p0, .slice d1 n1 p1, .slice d2 n2 p2, .slice d3 n3 p3, .slice d4 n4 p4, .slice d5 n5 p5] 36).alloc (.cells c.vs.toArray 26)
      rw [hW, hR]; simpa [Cfg.laid] using this
  have HE : Hid ((O 0 0).u = .slice d0 n0 p0 ∧ (O 0 1).u = .slice d1 n1 p1 ∧ (O 0 2).u = .slice d2 n2 p2 ∧ (O 0 3).u = .slice d3 n3 p3 ∧ (O 0 4).u = .slice d4 n4 p4 ∧ (O 0 5).u = .slice d5 n5 p5) := ⟨e0, e1, e2, e3, e4, e5⟩
  have HSM : Hid (Calls Tryz.prog 22 #[x.v, c.v] W fun e w' => e = .returned (.bool true) ∧ Keeps (fun _ => False) W w') := same_eq x c W hp (hx.grown kW) (hc.grown kW)
  have x0 := hBB.cell (i := 0) rfl
  have x1 := hBB.cell (i := 1) rfl
  have x2 := hBB.cell (i := 2) rfl
  have x3 := hBB.cell (i := 3) rfl
  have x4 := hBB.cell (i := 4) rfl
  have x5 := hBB.cell (i := 5) rfl
  have x6 := hBB.cell (i := 6) rfl
  have y0 := HI0.out.cfg.cell (i := 0) rfl
  have y1 := HI0.out.cfg.cell (i := 1) rfl
  have y2 := HI0.out.cfg.cell (i := 2) rfl
  have y3 := HI0.out.cfg.cell (i := 3) rfl
  have y4 := HI0.out.cfg.cell (i := 4) rfl
  have y5 := HI0.out.cfg.cell (i := 5) rfl
  have y6 := HI0.out.cfg.cell (i := 6) rfl
  clear hx hc hp hb hrm e0 e1 e2 e3 e4 e5 kW hBB
  unfold Cfg.laid at hW
  go_enter Tryz.func9, Tryz.ntmps9
  go_upto_region 1 with fail
  rw [← hW, ← hC, ← hR, ← hB]
  clear hW hC hR hB
  go_wp2_with fail
  refine HSM.out.mono ?_
  rintro e w1 ⟨rfl, hK⟩
  have HI1 : Hid (KI w c C R [.slice d0 n0 p0, .slice d1 n1 p1, .slice d2 n2 p2, .slice d3 n3 p3, .slice d4 n4 p4, .slice d5 n5 p5] O w1) := HI0.out.kept hK
  clear HSM x0 x1 x2 x3 x4 x5 x6 y0 y1 y2 y3 y4 y5 y6 hK HI0
  obtain ⟨L, hL⟩ : ∃ L, c.cs.length = L := ⟨_, rfl⟩
  have HL : Hid (c.cs.length = L) := hL
  have c4 : w1.cell? ⟨C, 4, none⟩ = some (.slice c.ca L c.cc) := by rw [← hL]; exact HI1.out.cfg.cell (i := 4) rfl
  clear hL
  have hLz : (L : Int) ≤ 2147483647 := by have := HB.out.cs; rw [HL.out] at this; omega
  go_wp2
  clear c4
  go_loopw [21] (fun i wr => ∃ j : Nat, j ≤ L ∧ i = .int .i64 j ∧ KI w c C R [.slice d0 n0 p0, .slice d1 n1 p1, .slice d2 n2 p2, .slice d3 n3 p3, .slice d4 n4 p4, .slice d5 n5 p5] O wr) (fun i _ => L - (intOf i).toNat)
  case atStart => exact ⟨0, by omega, rfl, HI1.out⟩
  case round =>
    clear HI1
    obtain ⟨j, hj, rfl, hI⟩ := hrel
    have c4 : wr.cell? ⟨C, 4, none⟩ = some (.slice c.ca L c.cc) := by have := hI.cfg.cell (i := 4) rfl; rw [HL.out] at this; exact this
    by_cases hlt : j < L
    · obtain ⟨X, hX⟩ : ∃ X, c.cs[j]? = some X := ⟨_, List.getElem?_eq_getElem (by have := HL.out; omega)⟩
      obtain ⟨g0, o0, ea, hg⟩ := hI.ok.cseg.at hX
      have q0 := hg 0 _ rfl
      rw [Nat.mul_one, Nat.add_zero] at q0
      rw [ea] at c4
      obtain ⟨XL, hXL⟩ : ∃ XL, X.ws.length = XL := ⟨_, rfl⟩
      obtain ⟨M, hM⟩ : ∃ M, XL + 12 = M := ⟨_, rfl⟩
      obtain ⟨g, p, gi, pi, f1, f2, f3, f4, f5⟩ := hI.rm.win j X hX
      rw [HE.out.2.1, HL.out] at f1
      injection f1 with f6 f7 f8
      replace f7 := f7.symm
      subst f6 f7 f8
      rw [hXL, hM] at f3
      rw [hXL] at q0
      have r1 := hI.room.cell (i := 1) rfl
      have hcc := hI.ok.clen
      have hXo := hI.ok.cok X (List.mem_of_getElem? hX)
      have hXb := HB.out.ws X (List.mem_of_getElem? hX)
      have HX : Hid (c.cs[j]? = some X ∧ X.ws.length = XL ∧ XL + 12 = M ∧ SegA Win.vs 3 wr (some ⟨gi, 0, none⟩) (X.ws ++ wmL) ∧ X.Ok wr ∧ j < L ∧ KI w c C R [.slice d0 n0 p0, .slice (some ⟨g, 0, none⟩) L p1, .slice d2 n2 p2, .slice d3 n3 p3, .slice d4 n4 p4, .slice d5 n5 p5] O wr) := ⟨hX, hXL, hM, f5, hXo, hlt, hI⟩
      have z1 : (L : Int) ≤ c.cc := by have := HL.out; omega
      have z2 : (L : Int) ≤ p1 := by have := HL.out; omega
      have z3 : (M : Int) ≤ pi := by omega
      have z4 : (XL : Int) ≤ X.c := by have := hXo.len; omega
      have z5 : (XL : Int) ≤ 2147483647 := by omega
      have z6 : (M : Int) ≤ 2147483659 := by omega
      have hjz : (j : Int) < L := by omega
      have HC : Hid (wr.cell? ⟨R, 1, none⟩ = some (.slice (some ⟨g, 0, none⟩) L p1) ∧ wr.cell? ⟨g, j, none⟩ = some (.slice (some ⟨gi, 0, none⟩) M pi) ∧ wr.cell? ⟨C, 4, none⟩ = some (.slice (some ⟨g0, o0, none⟩) L c.cc) ∧ wr.cell? ⟨g0, o0 + j, none⟩ = some (.slice X.a XL X.c)) := ⟨r1, f3, c4, q0⟩
      clear hI hX ea hg hXL hM f2 f4 f5 hcc hXo hXb hlt hj
      go_wp2
      clear r1 f3 c4 q0
      obtain ⟨wo, hwo⟩ : ∃ wo, wo = wr := ⟨_, rfl⟩
      subst hwo
      go_loopw [36] (fun i wq => ∃ k : Nat, k ≤ M ∧ i = .int .i64 k ∧ Keeps (fun _ => False) wo wq) (fun i _ => M - (intOf i).toNat)
      case atStart => exact ⟨0, by omega, rfl, Keeps.refl _ _⟩
      case round =>
        obtain ⟨k, hk, rfl, hK⟩ := hrel
        by_cases hkm : k < M
        · have r1 := cell_kept HC.out.1 hK fun h => h
          have f3 := cell_kept HC.out.2.1 hK fun h => h
          have c4 := cell_kept HC.out.2.2.1 hK fun h => h
          have q0 := cell_kept HC.out.2.2.2 hK fun h => h
          have HK : Hid (Keeps (fun _ => False) wo wr) := hK
          obtain ⟨hX, hXL, hM, hs1, hXo, hlt, _⟩ := HX.out
          by_cases hkx : k < XL
          · obtain ⟨y, hy⟩ : ∃ y, X.ws[k]? = some y := ⟨_, List.getElem?_eq_getElem (by omega)⟩
            have hy' : (X.ws ++ wmL)[k]? = some y := by rw [List.getElem?_append_left (by omega)]; exact hy
            obtain ⟨g1, o1, ha1, hg1⟩ := (hs1.kept hK fun _ _ _ e => e).at hy'
            cases ha1
            obtain ⟨g2, o2, ha2, hg2⟩ := (hXo.seg.kept hK fun _ _ _ e => e).at hy
            rw [ha2] at q0
            have u0 := hg1 0 _ rfl
            have u1 := hg1 1 _ rfl
            have u2 := hg1 2 _ rfl
            have v0 := hg2 0 _ rfl
            have v1 := hg2 1 _ rfl
            have v2 := hg2 2 _ rfl
            rw [Nat.add_zero] at v0 u0
            rw [Nat.zero_add] at u0 u1 u2
            have hkz : (k : Int) < M := by omega
            have hkl : (k : Int) < XL := by omega
            have hkg : ¬ (k : Int) ≥ XL := by omega
            clear hy hy' hg1 hg2 ha2 hX hXL hM hs1 hXo hlt hK hkx hkm hk
            obtain ⟨p, u, t⟩ := y
            go_wp2
            go_quiet (fail)
            go_wp2
            clear r1 f3 c4 q0 u0 u1 u2 v0 v1 v2
            go_roundw
            case rel => exact ⟨k + 1, by omega, by go_num, HK.out.drewN _⟩
            case measure => simp [intOf]; omega
          · have hy' := mk_at (fun k => (⟨mk7 k, 0, 0⟩ : Win)) X.ws (n := XL) hXL (by omega) (by omega : k < XL + 12)
            obtain ⟨g1, o1, ha1, hg1⟩ := (hs1.kept hK fun _ _ _ e => e).at hy'
            cases ha1
            have u0 := hg1 0 _ rfl
            have u1 := hg1 1 _ rfl
            have u2 := hg1 2 _ rfl
            dsimp only at u0 u1 u2
            rw [Nat.add_zero] at u0
            rw [Nat.zero_add] at u0 u1 u2
            have e7 : mk7 (k - XL) = -70 - (k : Int) + XL := by unfold mk7; omega
            rw [e7] at u0
            have U0 := cell_kept (S := fun _ => False) u0 ((Keeps.refl _ wr).drew) fun h => h
            have U1 := cell_kept (S := fun _ => False) u1 ((Keeps.refl _ wr).drew) fun h => h
            have U2 := cell_kept (S := fun _ => False) u2 ((Keeps.refl _ wr).drew) fun h => h
            have F3 := cell_kept (S := fun _ => False) f3 ((Keeps.refl _ wr).drew) fun h => h
            have R1 := cell_kept (S := fun _ => False) r1 ((Keeps.refl _ wr).drew) fun h => h
            have hkz : (k : Int) < M := by omega
            have hkl : ¬ (k : Int) < XL := by omega
            have hkg : (k : Int) ≥ XL := by omega
            clear hy' hg1 hX hXL hM hs1 hXo hlt hK hkx hkm hk e7
            go_upto_region 10 with fail
            clear r1 f3 c4 q0 u0 u1 u2
            refine wp_region_held_drew (S := (fun w' => True)) Tryz.mixd trivial (fun hHeld => ?_)
            simp only [List.size_toArray, List.length_cons, List.length_nil, Nat.reduceAdd, Array.replicate_succ, Array.replicate_zero, List.push_toArray, List.append_toArray, List.nil_append, List.cons_append]
            refine tk 0 (.int .i64 (k : Int)) hHeld ?_
            simp only [Act.put, List.setIfInBounds_toArray, List.set_cons_zero, List.set_cons_succ]
            refine tk 1 (.int .i64 (XL : Int)) hHeld ?_
            simp only [Act.put, List.setIfInBounds_toArray, List.set_cons_zero, List.set_cons_succ]
            refine tk 2 (.bool false) hHeld ?_
            simp only [Act.put, List.setIfInBounds_toArray, List.set_cons_zero, List.set_cons_succ]
            refine tk 3 (.bool false) hHeld ?_
            simp only [Act.put, List.setIfInBounds_toArray, List.set_cons_zero, List.set_cons_succ]
            refine tn 4 hHeld ?_
            simp only [Act.put, List.setIfInBounds_toArray, List.set_cons_zero, List.set_cons_succ]
            refine tn 5 hHeld ?_
            simp only [Act.put, List.setIfInBounds_toArray, List.set_cons_zero, List.set_cons_succ]
            refine tn 6 hHeld ?_
            simp only [Act.put, List.setIfInBounds_toArray, List.set_cons_zero, List.set_cons_succ]
            refine tn 7 hHeld ?_
            simp only [Act.put, List.setIfInBounds_toArray, List.set_cons_zero, List.set_cons_succ]
            refine tn 8 hHeld ?_
            simp only [Act.put, List.setIfInBounds_toArray, List.set_cons_zero, List.set_cons_succ]
            refine tn 9 hHeld ?_
            simp only [Act.put, List.setIfInBounds_toArray, List.set_cons_zero, List.set_cons_succ]
            refine tn 10 hHeld ?_
            simp only [Act.put, List.setIfInBounds_toArray, List.set_cons_zero, List.set_cons_succ]
            refine tn 11 hHeld ?_
            simp only [Act.put, List.setIfInBounds_toArray, List.set_cons_zero, List.set_cons_succ]
            refine tn 12 hHeld ?_
            simp only [Act.put, List.setIfInBounds_toArray, List.set_cons_zero, List.set_cons_succ]
            refine tn 13 hHeld ?_
            simp only [Act.put, List.setIfInBounds_toArray, List.set_cons_zero, List.set_cons_succ]
            refine tn 14 hHeld ?_
            simp only [Act.put, List.setIfInBounds_toArray, List.set_cons_zero, List.set_cons_succ]
            refine tn 15 hHeld ?_
            simp only [Act.put, List.setIfInBounds_toArray, List.set_cons_zero, List.set_cons_succ]
            refine tn 16 hHeld ?_
            simp only [Act.put, List.setIfInBounds_toArray, List.set_cons_zero, List.set_cons_succ]
            refine tn 17 hHeld ?_
            simp only [Act.put, List.setIfInBounds_toArray, List.set_cons_zero, List.set_cons_succ]
            refine tn 18 hHeld ?_
            simp only [Act.put, List.setIfInBounds_toArray, List.set_cons_zero, List.set_cons_succ]
            refine tn 19 hHeld ?_
            simp only [Act.put, List.setIfInBounds_toArray, List.set_cons_zero, List.set_cons_succ]
            refine tn 20 hHeld ?_
            simp only [Act.put, List.setIfInBounds_toArray, List.set_cons_zero, List.set_cons_succ]
            refine tk 21 (.bool false) hHeld ?_
            simp only [Act.put, List.setIfInBounds_toArray, List.set_cons_zero, List.set_cons_succ]
            refine wpAnyH_done (by kernel_rfl) ?_ _
            clear hHeld
            obtain ⟨wd, hwd⟩ : ∃ wd, wd = wr.drew := ⟨_, rfl⟩
            rw [← hwd] at U0 U1 U2 F3 R1 ⊢
            have HN : Hid (Keeps (fun _ => False) wo wd) := by rw [hwd]; exact HK.out.drew
            clear hwd HK
            go_wp2
            clear U0 U1 U2 F3 R1
            go_roundw
            case rel => exact ⟨k + 1, by omega, by go_num, HN.out⟩
            case measure => simp [intOf]; omega
        · obtain rfl : k = M := by omega
          have HI2 : Hid (KI w c C R [.slice d0 n0 p0, .slice (some ⟨g, 0, none⟩) L p1, .slice d2 n2 p2, .slice d3 n3 p3, .slice d4 n4 p4, .slice d5 n5 p5] O wr ∧ j < L) := ⟨HX.out.2.2.2.2.2.2.kept hK, HX.out.2.2.2.2.2.1⟩
          clear hK hk hkm HC HX
          go_wp2
          go_roundw
          case rel => exact ⟨j + 1, by have := HI2.out.2; omega, by go_num, HI2.out.1⟩
          case measure => have := HI2.out.2; simp [intOf]; omega
    · obtain rfl : L = j := by omega
      obtain ⟨PL, hPL⟩ : ∃ PL, c.ps.length = PL := ⟨_, rfl⟩
      have HPL : Hid (c.ps.length = PL) := hPL
      have c5 : wr.cell? ⟨C, 5, none⟩ = some (.slice c.pa PL c.pc) := by have := hI.cfg.cell (i := 5) rfl; rw [hPL] at this; exact this
      have hPz : (PL : Int) ≤ 2147483647 := by have := HB.out.ps; rw [hPL] at this; omega
      have HI1 : Hid (KI w c C R [.slice d0 n0 p0, .slice d1 n1 p1, .slice d2 n2 p2, .slice d3 n3 p3, .slice d4 n4 p4, .slice d5 n5 p5] O wr) := hI
      clear hI hlt hj hPL
      go_wp2
      clear c4 c5
      go_loopw [85] (fun i wr => ∃ j : Nat, j ≤ PL ∧ i = .int .i64 j ∧ KI w c C R [.slice d0 n0 p0, .slice d1 n1 p1, .slice d2 n2 p2, .slice d3 n3 p3, .slice d4 n4 p4, .slice d5 n5 p5] O wr) (fun i _ => PL - (intOf i).toNat)
      case atStart => exact ⟨0, by omega, rfl, HI1.out⟩
      case round =>
        clear HI1
        obtain ⟨j, hj, rfl, hI⟩ := hrel
        by_cases hlt : j < PL
        · obtain ⟨P, hP⟩ : ∃ P, c.ps[j]? = some P := ⟨_, List.getElem?_eq_getElem (by have := HPL.out; omega)⟩
          obtain ⟨g0, o0, ea, hg⟩ := hI.ok.pseg.at hP
          obtain ⟨L1, hL1⟩ : ∃ L1, P.rs.length = L1 := ⟨_, rfl⟩
          obtain ⟨L2, hL2⟩ : ∃ L2, P.ps.length = L2 := ⟨_, rfl⟩
          obtain ⟨M1, hM1⟩ : ∃ M1, L1 + 12 = M1 := ⟨_, rfl⟩
          obtain ⟨M2, hM2⟩ : ∃ M2, L2 + 12 = M2 := ⟨_, rfl⟩
          obtain ⟨g, p, gi, pi, h, q, hi, qi, f1, f2, f3, f4, f5, t1, t2, t3, t4, t5⟩ := hI.rm.par j P hP
          rw [HE.out.2.2.2.1, HPL.out] at f1
          injection f1 with f6 f7 f8
          replace f7 := f7.symm
          subst f6 f7 f8
          rw [HE.out.2.2.2.2.1, HPL.out] at t1
          injection t1 with t6 t7 t8
          replace t7 := t7.symm
          subst t6 t7 t8
          have hpc := hI.ok.plen
          have hPo := hI.ok.pok P (List.mem_of_getElem? hP)
          have hPb := HB.out.rs P (List.mem_of_getElem? hP)
          have hPb2 := HB.out.qs P (List.mem_of_getElem? hP)
          have HCC : Hid (∀ w', Keeps (fun _ => False) wr w' → Calls Tryz.prog 23 #[.slice (some ⟨gi, 0, none⟩) M1 pi, .slice (some ⟨hi, 0, none⟩) M2 qi, .agg #[.string P.name, .int .i64 P.entry, .int .i64 P.action, .int .i64 P.restarts, .int .i64 P.inputs, .int .i64 P.outputs, .slice P.ra L1 P.rc, .slice P.pa L2 P.pc]] w' fun e w'' => e = .returned (.bool true) ∧ Keeps (fun _ => False) w' w'') := fun w' hK' => by
            have := keptPar_any P (some ⟨gi, 0, none⟩) (some ⟨hi, 0, none⟩) pi qi w' (hPo.grown hK') hPb hPb2 (f5.kept hK' fun _ _ _ e => e) (t5.kept hK' fun _ _ _ e => e) f4 t4
            simp only [Par.v, hL1, hL2, hM1, hM2] at this
            exact this
          rw [hL1, hM1] at f3
          rw [hL2, hM2] at t3
          have HSS : Hid (∀ w', Keeps (fun _ => False) wr w' → (fun w' => w'.cell? ⟨R, 3, none⟩ = some (.slice (some ⟨g, 0, none⟩) PL p3) ∧ w'.cell? ⟨g, j, none⟩ = some (.slice (some ⟨gi, 0, none⟩) M1 pi) ∧ w'.cell? ⟨R, 4, none⟩ = some (.slice (some ⟨h, 0, none⟩) PL p4) ∧ w'.cell? ⟨h, j, none⟩ = some (.slice (some ⟨hi, 0, none⟩) M2 qi) ∧ w'.cell? ⟨C, 5, none⟩ = some (.slice (some ⟨g0, o0, none⟩) PL c.pc) ∧ w'.cell? ⟨g0, o0 + j * 8, none⟩ = some (.string P.name) ∧ w'.cell? ⟨g0, o0 + j * 8 + 1, none⟩ = some (.int .i64 P.entry) ∧ w'.cell? ⟨g0, o0 + j * 8 + 2, none⟩ = some (.int .i64 P.action) ∧ w'.cell? ⟨g0, o0 + j * 8 + 3, none⟩ = some (.int .i64 P.restarts) ∧ w'.cell? ⟨g0, o0 + j * 8 + 4, none⟩ = some (.int .i64 P.inputs) ∧ w'.cell? ⟨g0, o0 + j * 8 + 5, none⟩ = some (.int .i64 P.outputs) ∧ w'.cell? ⟨g0, o0 + j * 8 + 6, none⟩ = some (.slice P.ra L1 P.rc) ∧ w'.cell? ⟨g0, o0 + j * 8 + 7, none⟩ = some (.slice P.pa L2 P.pc)) w') := by
            intro w' hK'
            have q6 := hg 6 _ rfl
            have q7 := hg 7 _ rfl
            rw [hL1] at q6
            rw [hL2] at q7
            have cc5 := hI.cfg.cell (i := 5) rfl
            rw [HPL.out, ea] at cc5
            have hc : (fun w' => w'.cell? ⟨R, 3, none⟩ = some (.slice (some ⟨g, 0, none⟩) PL p3) ∧ w'.cell? ⟨g, j, none⟩ = some (.slice (some ⟨gi, 0, none⟩) M1 pi) ∧ w'.cell? ⟨R, 4, none⟩ = some (.slice (some ⟨h, 0, none⟩) PL p4) ∧ w'.cell? ⟨h, j, none⟩ = some (.slice (some ⟨hi, 0, none⟩) M2 qi) ∧ w'.cell? ⟨C, 5, none⟩ = some (.slice (some ⟨g0, o0, none⟩) PL c.pc) ∧ w'.cell? ⟨g0, o0 + j * 8, none⟩ = some (.string P.name) ∧ w'.cell? ⟨g0, o0 + j * 8 + 1, none⟩ = some (.int .i64 P.entry) ∧ w'.cell? ⟨g0, o0 + j * 8 + 2, none⟩ = some (.int .i64 P.action) ∧ w'.cell? ⟨g0, o0 + j * 8 + 3, none⟩ = some (.int .i64 P.restarts) ∧ w'.cell? ⟨g0, o0 + j * 8 + 4, none⟩ = some (.int .i64 P.inputs) ∧ w'.cell? ⟨g0, o0 + j * 8 + 5, none⟩ = some (.int .i64 P.outputs) ∧ w'.cell? ⟨g0, o0 + j * 8 + 6, none⟩ = some (.slice P.ra L1 P.rc) ∧ w'.cell? ⟨g0, o0 + j * 8 + 7, none⟩ = some (.slice P.pa L2 P.pc)) wr := ⟨hI.room.cell (i := 3) rfl, f3, hI.room.cell (i := 4) rfl, t3, cc5, hg 0 _ rfl, hg 1 _ rfl, hg 2 _ rfl, hg 3 _ rfl, hg 4 _ rfl, hg 5 _ rfl, q6, q7⟩
            exact ⟨cell_kept hc.1 hK' fun h => h, cell_kept hc.2.1 hK' fun h => h, cell_kept hc.2.2.1 hK' fun h => h, cell_kept hc.2.2.2.1 hK' fun h => h, cell_kept hc.2.2.2.2.1 hK' fun h => h, cell_kept hc.2.2.2.2.2.1 hK' fun h => h, cell_kept hc.2.2.2.2.2.2.1 hK' fun h => h, cell_kept hc.2.2.2.2.2.2.2.1 hK' fun h => h, cell_kept hc.2.2.2.2.2.2.2.2.1 hK' fun h => h, cell_kept hc.2.2.2.2.2.2.2.2.2.1 hK' fun h => h, cell_kept hc.2.2.2.2.2.2.2.2.2.2.1 hK' fun h => h, cell_kept hc.2.2.2.2.2.2.2.2.2.2.2.1 hK' fun h => h, cell_kept hc.2.2.2.2.2.2.2.2.2.2.2.2 hK' fun h => h⟩
          have HKI : Hid (KI w c C R [.slice d0 n0 p0, .slice d1 n1 p1, .slice d2 n2 p2, .slice (some ⟨g, 0, none⟩) PL p3, .slice (some ⟨h, 0, none⟩) PL p4, .slice d5 n5 p5] O wr ∧ j < PL) := ⟨hI, hlt⟩
          have z1 : (PL : Int) ≤ c.pc := by have := HPL.out; omega
          have z2 : (PL : Int) ≤ p3 := by have := HPL.out; omega
          have z3 : (PL : Int) ≤ p4 := by have := HPL.out; omega
          have hjz : (j : Int) < PL := by omega
          clear hI hP ea hg hL1 hL2 hM1 hM2 f2 f3 f4 f5 t2 t3 t4 t5 hpc hPo hPb hPb2 hlt hj
          have hS0 := HSS.out wr.drew ((Keeps.refl _ wr).drew)
          go_wp2
          go_region_held2 (fun w' => w'.cell? ⟨R, 3, none⟩ = some (.slice (some ⟨g, 0, none⟩) PL p3) ∧ w'.cell? ⟨g, j, none⟩ = some (.slice (some ⟨gi, 0, none⟩) M1 pi) ∧ w'.cell? ⟨R, 4, none⟩ = some (.slice (some ⟨h, 0, none⟩) PL p4) ∧ w'.cell? ⟨h, j, none⟩ = some (.slice (some ⟨hi, 0, none⟩) M2 qi) ∧ w'.cell? ⟨C, 5, none⟩ = some (.slice (some ⟨g0, o0, none⟩) PL c.pc) ∧ w'.cell? ⟨g0, o0 + j * 8, none⟩ = some (.string P.name) ∧ w'.cell? ⟨g0, o0 + j * 8 + 1, none⟩ = some (.int .i64 P.entry) ∧ w'.cell? ⟨g0, o0 + j * 8 + 2, none⟩ = some (.int .i64 P.action) ∧ w'.cell? ⟨g0, o0 + j * 8 + 3, none⟩ = some (.int .i64 P.restarts) ∧ w'.cell? ⟨g0, o0 + j * 8 + 4, none⟩ = some (.int .i64 P.inputs) ∧ w'.cell? ⟨g0, o0 + j * 8 + 5, none⟩ = some (.int .i64 P.outputs) ∧ w'.cell? ⟨g0, o0 + j * 8 + 6, none⟩ = some (.slice P.ra L1 P.rc) ∧ w'.cell? ⟨g0, o0 + j * 8 + 7, none⟩ = some (.slice P.pa L2 P.pc)) (first | exact hS0 | exact hS)
            (first | (go_at_call 23; refine (HCC.out _ ((Keeps.refl _ wr).drew)).mono ?_; rintro e w3 ⟨rfl, hK3⟩; have hS := HSS.out w3 (((Keeps.refl _ wr).drew).trans hK3 fun _ _ e => e)))
          have HN : Hid (KI w c C R [.slice d0 n0 p0, .slice d1 n1 p1, .slice d2 n2 p2, .slice (some ⟨g, 0, none⟩) PL p3, .slice (some ⟨h, 0, none⟩) PL p4, .slice d5 n5 p5] O w3 ∧ j < PL) := ⟨HKI.out.1.kept (((Keeps.refl _ wr).drew).trans hK3 fun _ _ e => e), HKI.out.2⟩
          clear hS0 hS hK3 HSS HCC HKI
          go_wp2
          go_roundw
          case rel => exact ⟨j + 1, by have := HN.out.2; omega, by go_num, HN.out.1⟩
          case measure => have := HN.out.2; simp [intOf]; omega
        · obtain rfl : PL = j := by omega
          obtain ⟨HL3, hHL⟩ : ∃ HL3, c.hs.length = HL3 := ⟨_, rfl⟩
          have HHL : Hid (c.hs.length = HL3) := hHL
          have hHz : (HL3 : Int) ≤ 2147483647 := by have := HB.out.hs; rw [hHL] at this; omega
          have HI1 : Hid (KI w c C R [.slice d0 n0 p0, .slice d1 n1 p1, .slice d2 n2 p2, .slice d3 n3 p3, .slice d4 n4 p4, .slice d5 n5 p5] O wr) := hI
          clear hI hlt hj hHL
          go_wp2
          go_loopw [106] (fun i wr => ∃ k : Nat, k ≤ 12 ∧ i = .int .i64 k ∧ KI w c C R [.slice d0 n0 p0, .slice d1 n1 p1, .slice d2 n2 p2, .slice d3 n3 p3, .slice d4 n4 p4, .slice d5 n5 p5] O wr) (fun i _ => 12 - (intOf i).toNat)
          case atStart => exact ⟨0, by omega, rfl, HI1.out⟩
          case round =>
            clear HI1
            obtain ⟨k, hk, rfl, hI⟩ := hrel
            by_cases hk2 : k < 12
            · obtain ⟨g, p, gi, pi, h, q, r, t, f1, f2, f3, f4, f5, s1, s2, s3, t1, t2, t3⟩ := hI.rm.spare k hk2
              rw [HL.out] at f1 f2 f3
              rw [HPL.out] at s1 s2 s3
              rw [HHL.out] at t1 t2 t3
              obtain ⟨m0, hm0⟩ : ∃ m, L + 12 = m := ⟨_, rfl⟩
              obtain ⟨m2, hm2⟩ : ∃ m, PL + 12 = m := ⟨_, rfl⟩
              obtain ⟨m5, hm5⟩ : ∃ m, HL3 + 12 = m := ⟨_, rfl⟩
              rw [hm0] at f1 f2
              rw [hm2] at s1 s2
              rw [hm5] at t1 t2
              rw [HE.out.1] at f1
              injection f1 with f6 f7 f8
              replace f7 := f7.symm
              subst f6 f7 f8
              rw [HE.out.2.2.1] at s1
              injection s1 with s6 s7 s8
              replace s7 := s7.symm
              subst s6 s7 s8
              rw [HE.out.2.2.2.2.2] at t1
              injection t1 with t6 t7 t8
              replace t7 := t7.symm
              subst t6 t7 t8
              obtain ⟨D, hD⟩ : ∃ D, D = wr.heap.size := ⟨_, rfl⟩
              obtain ⟨V1, hV1⟩ : ∃ V1, V1 = wr.alloc (.cells #[.string { data := #[] }, .int .i64 (-70 - (k : Int)), .int .i64 0, .int .i64 0, .int .i64 0, .int .i64 0, .slice none 0 0, .slice none 0 0] 47) := ⟨_, rfl⟩
              have kV1 : Keeps (fun _ => False) wr V1 := by rw [hV1]; exact (Keeps.refl _ _).alloc _
              have hBD : Blk V1 D (qMk k) 47 := by rw [hV1, hD]; exact Blk.new _ _ _
              have r0 := hI.room.cell (i := 0) rfl
              have r2 := hI.room.cell (i := 2) rfl
              have c4 : wr.cell? ⟨C, 4, none⟩ = some (.slice c.ca L c.cc) := by have := hI.cfg.cell (i := 4) rfl; rw [HL.out] at this; exact this
              have c5 : wr.cell? ⟨C, 5, none⟩ = some (.slice c.pa PL c.pc) := by have := hI.cfg.cell (i := 5) rfl; rw [HPL.out] at this; exact this
              have q0 := s3 0 _ rfl
              rw [Nat.add_zero] at q0
              have q1 := s3 1 _ rfl
              have q2 := s3 2 _ rfl
              have q3 := s3 3 _ rfl
              have q4 := s3 4 _ rfl
              have q5 := s3 5 _ rfl
              have q6 := s3 6 _ rfl
              have q7 := s3 7 _ rfl
              have z0 := hBD.cell (i := 0) rfl
              have z1 := hBD.cell (i := 1) rfl
              have z2 := hBD.cell (i := 2) rfl
              have z3 := hBD.cell (i := 3) rfl
              have z4 := hBD.cell (i := 4) rfl
              have z5 := hBD.cell (i := 5) rfl
              have z6 := hBD.cell (i := 6) rfl
              have z7 := hBD.cell (i := 7) rfl
              have w0 := cell_kept (f5 0 _ rfl) kV1 fun h => h
              have w1 := cell_kept (f5 1 _ rfl) kV1 fun h => h
              have w2 := cell_kept (f5 2 _ rfl) kV1 fun h => h
              change V1.cell? _ = some (.int .i64 (-70 - (k : Int))) at z1 w0
              change wr.cell? _ = some (.int .i64 (-70 - (k : Int))) at q1
              have HCC : Hid (Calls _ _ _ _ _) := spareSame k V1 (by omega)
              have HNX : Hid (KI w c C R [.slice (some ⟨g, 0, none⟩) m0 p0, .slice d1 n1 p1, .slice (some ⟨h, 0, none⟩) m2 p2, .slice d3 n3 p3, .slice d4 n4 p4, .slice (some ⟨r, 0, none⟩) m5 p5] O V1 ∧ ∀ i v, (hMk k)[i]? = some v → V1.cell? ⟨r, (HL3 + k) * 3 + i, none⟩ = some v) := ⟨hI.kept kV1, fun i v hv => cell_kept (t3 i v hv) kV1 fun h => h⟩
              have hkz : (k : Int) < 12 := by omega
              obtain ⟨K0, hK0⟩ : ∃ K0, L + k = K0 := ⟨_, rfl⟩
              obtain ⟨K2, hK2⟩ : ∃ K2, PL + k = K2 := ⟨_, rfl⟩
              obtain ⟨K5, hK5⟩ : ∃ K5, HL3 + k = K5 := ⟨_, rfl⟩
              rw [hK0] at f3
              rw [hK2] at q0 q1 q2 q3 q4 q5 q6 q7
              rw [hK5] at HNX
              have e0z : (K0 : Int) < m0 := by omega
              have e2z : (K2 : Int) < m2 := by omega
              have e5z : (K5 : Int) < m5 := by omega
              have g0z : (m0 : Int) ≤ p0 := by omega
              have g2z : (m2 : Int) ≤ p2 := by omega
              have g5z : (m5 : Int) ≤ p5 := by omega
              have a0 : (L : Int) + (k : Int) = K0 := by omega
              have a2 : (PL : Int) + (k : Int) = K2 := by omega
              have a5 : (HL3 : Int) + (k : Int) = K5 := by omega
              clear hK0 hK2 hK5 hI f2 f5 s2 s3 t2 t3 kV1 hBD hk hk2 hm0 hm2 hm5 f4
              go_upto_region 26 with fail
              clear f3 c4 r0
              go_upto_region 27 with fail
              rw [← hV1, ← hD]
              clear hV1 hD r2 c5 q0 q1 q2 q3 q4 q5 q6 q7
              go_wp2_with fail
              refine HCC.out.mono ?_
              rintro e w3 ⟨rfl, hK3⟩
              have HN : Hid (KI w c C R [.slice (some ⟨g, 0, none⟩) m0 p0, .slice d1 n1 p1, .slice (some ⟨h, 0, none⟩) m2 p2, .slice d3 n3 p3, .slice d4 n4 p4, .slice (some ⟨r, 0, none⟩) m5 p5] O w3) := HNX.out.1.kept hK3
              have y0 := cell_kept (HNX.out.2 0 _ rfl) hK3 fun h => h
              have y1 := cell_kept (HNX.out.2 1 _ rfl) hK3 fun h => h
              have y2 := cell_kept (HNX.out.2 2 _ rfl) hK3 fun h => h
              rw [Nat.add_zero] at y0
              change w3.cell? _ = some (.int .i64 (-70 - (k : Int))) at y0
              have r5 := HN.out.room.cell (i := 5) rfl
              have c6 : w3.cell? ⟨C, 6, none⟩ = some (.slice c.ha HL3 c.hc) := by have := HN.out.cfg.cell (i := 6) rfl; rw [HHL.out] at this; exact this
              clear hK3 HCC HNX z0 z1 z2 z3 z4 z5 z6 z7 w0 w1 w2
              go_wp2
              clear y0 y1 y2 r5 c6
              go_roundw
              case rel => exact ⟨k + 1, by omega, by go_num, HN.out⟩
              case measure => simp [intOf]; omega
            · have HN : Hid (Keeps (fun _ => False) w wr) := hI.keeps
              obtain rfl : k = 12 := by omega
              clear hI hk hk2
              go_wp2
              go_ret
              exact ⟨rfl, HN.out⟩

theorem Kept_any (x c : Cfg) (O : Nat → Nat → ObG) (lo : Nat) (w : World) (hx : x.Ok w) (hc : c.Ok w) (hp : x.pure = c.pure) (hb : Bnd c) (hF : FamO lo w O) (hR : RP c c.cs.length c.ps.length c.hs 12 O) :
    Calls Tryz.prog 9 #[x.v, .agg (roomV O).toArray, c.v] w fun e w' => e = .returned (.bool true) ∧ Keeps (fun _ => False) w w' := by
  obtain ⟨d0, p0, e0, _⟩ := hF.form 0 0
  obtain ⟨d1, p1, e1, _⟩ := hF.form 0 1
  obtain ⟨d2, p2, e2, _⟩ := hF.form 0 2
  obtain ⟨d3, p3, e3, _⟩ := hF.form 0 3
  obtain ⟨d4, p4, e4, _⟩ := hF.form 0 4
  obtain ⟨d5, p5, e5, _⟩ := hF.form 0 5
  have := Kept_walk x c O _ _ _ _ _ _ _ _ _ _ _ _ _ _ _ _ _ _ w hx hc hp hb (RmIn.of hF hR) e0 e1 e2 e3 e4 e5
  unfold roomV
  rw [e0, e1, e2, e3, e4, e5]
  exact this
end Go.Proofs.YtjadpbkhfclldaaGreat
