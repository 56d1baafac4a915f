import Derived.Test.YtnkfdmlpjgmckaaE
namespace Go.Proofs.Ytnkfdmlpjgmckaa
open Go.RowKit
set_option linter.unusedVariables false
set_option maxRecDepth 6000

abbrev Cfg.two (w : World) (x : Cfg) : World := (x.laid w).alloc (.cells #[.int .i64 0, .int .i64 0, .int .i64 0, .int .i64 0] 30)
/-- A configuration and a place in blocks of their own. -/
structure Two (w : World) (x : Cfg) (pl : Plc) (C : Nat) (w' : World) : Prop where
  cfg : Blk w' C x.vs 27
  pl : Blk w' (C + 1) pl.vs 30
  keeps : Keeps (fun _ => False) w w'
  lo : w.heap.size ≤ C
theorem Two.mk' (w : World) (x : Cfg) : Two w x plc0 w.heap.size (x.two w) := by
  refine ⟨(Blk.new w _ _).alloc _, ?_, ((Keeps.refl _ _).alloc _).alloc _, Nat.le_refl _⟩
  have := Blk.new (x.laid w) #[.int .i64 0, .int .i64 0, .int .i64 0, .int .i64 0] 30
  rw [show (x.laid w).heap.size = w.heap.size + 1 from by simp [Cfg.laid]] at this
  exact this
theorem Two.kept {w : World} {x : Cfg} {pl : Plc} {C : Nat} {w' w'' : World} (h : Two w x pl C w') (hK : Keeps (fun _ => False) w' w'') : Two w x pl C w'' :=
  ⟨h.cfg.kept hK fun h => h, h.pl.kept hK fun h => h, h.keeps.trans hK fun _ _ h => h, h.lo⟩
theorem Two.set {w : World} {x : Cfg} {pl : Plc} {C : Nat} {w' : World} (h : Two w x pl C w') (y : Plc) :
    Two w x y C ((((w'.setCell ⟨C + 1, 0, none⟩ (.int .i64 y.win)).setCell ⟨C + 1, 1, none⟩ (.int .i64 y.part)).setCell ⟨C + 1, 2, none⟩ (.int .i64 y.off)).setCell ⟨C + 1, 3, none⟩ (.int .i64 y.fin)) := by
  have hne : C ≠ C + 1 := by omega
  have hlo := h.lo
  refine ⟨(((h.cfg.setCell_ne hne _).setCell_ne hne _).setCell_ne hne _).setCell_ne hne _, h.pl.setPlc y, ?_, h.lo⟩
  exact (((h.keeps.setCell _ _ fun h => absurd h (by dsimp only; omega)).setCell _ _ fun h => absurd h (by dsimp only; omega)).setCell _ _ fun h => absurd h (by dsimp only; omega)).setCell _ _ fun h => absurd h (by dsimp only; omega)

theorem at_no (x : Cfg) (k t : Int) (w : World) (N : Nat) (hi : x.In w N) (hN : N ≤ w.heap.size) (hk : k < 0 ∨ x.cs.length ≤ k) :
    Calls Try.prog 11 #[x.v, .int .i64 k, .int .i64 t] w (AtP w x k t) := by
  have HR : Hid (AtR x k t plc0 140) := .inl ⟨hk, rfl, rfl⟩
  obtain ⟨W, hW⟩ : ∃ W, W = x.two w := ⟨_, rfl⟩
  obtain ⟨C, hC⟩ : ∃ C, C = w.heap.size := ⟨_, rfl⟩
  have HT : Hid (Two w x plc0 C W) := by rw [hW, hC]; exact Two.mk' w x
  have HC : Hid (Calls Try.prog 32 #[x.v, .int .i64 k] W fun e w' => e = .returned (.tuple #[.slice none 0 0, .int .i64 140]) ∧ Keeps (fun _ => False) W w') :=
    coreSpans_no x k W N (hi.keeps hN HT.out.keeps) (Nat.le_trans hN HT.out.keeps.size) hk
  clear hi hN hk
  go_enter Try.func11, Try.ntmps11
  go_wp2_with fail
  unfold Cfg.two Cfg.laid at hW
  rw [← hW, ← hC]
  clear hW hC
  refine HC.out.mono ?_
  rintro e w1 ⟨rfl, hK⟩
  have HT1 : Hid (Two w x plc0 C w1) := HT.out.kept hK
  clear hK
  have d0 := HT1.out.pl.cell (i := 0) rfl
  have d1 := HT1.out.pl.cell (i := 1) rfl
  have d2 := HT1.out.pl.cell (i := 2) rfl
  have d3 := HT1.out.pl.cell (i := 3) rfl
  have f0 := HT1.out.pl.frozen 0
  have f1 := HT1.out.pl.frozen 1
  have f2 := HT1.out.pl.frozen 2
  have f3 := HT1.out.pl.frozen 3
  go_wp2
  (try simp only [Exit.inBlock, Exit.then])
  have HL : Hid (_ = _) := load_plc (HT1.out.set plc0).pl
  refine bodyPost_ret (results_cell_tmp (p := 6) (u := 7) (ty := 30) rfl _ _ ⟨C + 1, 0, none⟩ plc0.v rfl HL.out) rfl ?_
  exact ⟨plc0, 140, rfl, HR.out, (HT1.out.set plc0).keeps⟩
theorem at_bad (x : Cfg) (k : Nat) (X : Core) (hX : x.cs[k]? = some X) (hm : may X.ws = false) (t : Int) (w : World) (N : Nat) (hi : x.In w N) (hN : N ≤ w.heap.size) :
    Calls Try.prog 11 #[x.v, .int .i64 k, .int .i64 t] w (AtP w x k t) := by
  have HR : Hid (AtR x k t plc0 1) := .inr ⟨k, X, rfl, hX, .inl ⟨hm, rfl, rfl⟩⟩
  obtain ⟨W, hW⟩ : ∃ W, W = x.two w := ⟨_, rfl⟩
  obtain ⟨C, hC⟩ : ∃ C, C = w.heap.size := ⟨_, rfl⟩
  have HT : Hid (Two w x plc0 C W) := by rw [hW, hC]; exact Two.mk' w x
  have HC : Hid (Calls Try.prog 32 #[x.v, .int .i64 k] W fun e w' => e = .returned (.tuple #[.slice none 0 0, .int .i64 1]) ∧ Keeps (fun _ => False) W w') :=
    coreSpans_bad x k X hX hm W N (hi.keeps hN HT.out.keeps) (Nat.le_trans hN HT.out.keeps.size)
  clear hi hN hX hm
  go_enter Try.func11, Try.ntmps11
  go_wp2_with fail
  unfold Cfg.two Cfg.laid at hW
  rw [← hW, ← hC]
  clear hW hC
  refine HC.out.mono ?_
  rintro e w1 ⟨rfl, hK⟩
  have HT1 : Hid (Two w x plc0 C w1) := HT.out.kept hK
  clear hK
  have d0 := HT1.out.pl.cell (i := 0) rfl
  have d1 := HT1.out.pl.cell (i := 1) rfl
  have d2 := HT1.out.pl.cell (i := 2) rfl
  have d3 := HT1.out.pl.cell (i := 3) rfl
  have f0 := HT1.out.pl.frozen 0
  have f1 := HT1.out.pl.frozen 1
  have f2 := HT1.out.pl.frozen 2
  have f3 := HT1.out.pl.frozen 3
  go_wp2
  (try simp only [Exit.inBlock, Exit.then])
  have HL : Hid (_ = _) := load_plc (HT1.out.set plc0).pl
  refine bodyPost_ret (results_cell_tmp (p := 6) (u := 7) (ty := 30) rfl _ _ ⟨C + 1, 0, none⟩ plc0.v rfl HL.out) rfl ?_
  exact ⟨plc0, 1, rfl, HR.out, (HT1.out.set plc0).keeps⟩
/-- What holds while At looks for the window. -/
structure Seek (w : World) (x : Cfg) (k : Nat) (X : Core) (N C g : Nat) (wr : World) : Prop where
  two : Two w x plc0 C wr
  cin : x.In wr N
  seg : SegA Spn.vs 4 wr (some ⟨g, 0, none⟩) (Go.Proofs.Ytnkfdmlpjgmckaa.laid k X.ws)
  g : g < wr.heap.size
theorem Seek.kept {w : World} {x : Cfg} {k : Nat} {X : Core} {N C g : Nat} {wr w' : World} (h : Seek w x k X N C g wr) (hN : N ≤ w.heap.size) (hK : Keeps (fun _ => False) wr w') : Seek w x k X N C g w' :=
  ⟨h.two.kept hK, h.cin.keeps (Nat.le_trans hN h.two.keeps.size) hK, h.seg.kept hK fun _ _ _ h => h, Nat.lt_of_lt_of_le h.g hK.size⟩

set_option maxHeartbeats 1000000 in
theorem at_neg (x : Cfg) (k : Nat) (X : Core) (hX : x.cs[k]? = some X) (hm : may X.ws = true) (t : Int) (ht : t < 0) (w : World) (N : Nat) (hi : x.In w N) (hN : N ≤ w.heap.size) :
    Calls Try.prog 11 #[x.v, .int .i64 k, .int .i64 t] w (AtP w x k t) := by
  have HR : Hid (AtR x k t plc0 141) := .inr ⟨k, X, rfl, hX, .inr ⟨hm, .inl ⟨.inl ht, rfl, rfl⟩⟩⟩
  obtain ⟨W, hW⟩ : ∃ W, W = x.two w := ⟨_, rfl⟩
  obtain ⟨C, hC⟩ : ∃ C, C = w.heap.size := ⟨_, rfl⟩
  have HT : Hid (Two w x plc0 C W) := by rw [hW, hC]; exact Two.mk' w x
  have HC : Hid (Calls Try.prog 32 #[x.v, .int .i64 k] W (SpansP W x k X)) := coreSpans_ok x k X hX hm W N (hi.keeps hN HT.out.keeps) (Nat.le_trans hN HT.out.keeps.size)
  have ht' : decide (t < 0) = true := by simp [ht]
  clear hi hN hX hm
  go_enter Try.func11, Try.ntmps11
  go_wp2_with fail
  unfold Cfg.two Cfg.laid at hW
  rw [← hW, ← hC]
  clear hW hC
  refine HC.out.mono ?_
  rintro e w1 ⟨g, rfl, h1, h2, h3, hK⟩
  have HT1 : Hid (Two w x plc0 C w1) := HT.out.kept hK
  clear hK h1 h2 h3
  have d0 := HT1.out.pl.cell (i := 0) rfl
  have d1 := HT1.out.pl.cell (i := 1) rfl
  have d2 := HT1.out.pl.cell (i := 2) rfl
  have d3 := HT1.out.pl.cell (i := 3) rfl
  have f0 := HT1.out.pl.frozen 0
  have f1 := HT1.out.pl.frozen 1
  have f2 := HT1.out.pl.frozen 2
  have f3 := HT1.out.pl.frozen 3
  go_wp2
  (try simp only [Exit.inBlock, Exit.then])
  have HL : Hid (_ = _) := load_plc (HT1.out.set plc0).pl
  refine bodyPost_ret (results_cell_tmp (p := 6) (u := 7) (ty := 30) rfl _ _ ⟨C + 1, 0, none⟩ plc0.v rfl HL.out) rfl ?_
  exact ⟨plc0, 141, rfl, HR.out, (HT1.out.set plc0).keeps⟩

set_option maxHeartbeats 1000000 in
theorem at_ok (x : Cfg) (k : Nat) (X : Core) (hX : x.cs[k]? = some X) (hm : may X.ws = true) (t : Int) (ht : 0 ≤ t) (w : World) (N : Nat) (hi : x.In w N) (hN : N ≤ w.heap.size) :
    Calls Try.prog 11 #[x.v, .int .i64 k, .int .i64 t] w (AtP w x k t) := by
  obtain ⟨W, hW⟩ : ∃ W, W = x.two w := ⟨_, rfl⟩
  obtain ⟨C, hC⟩ : ∃ C, C = w.heap.size := ⟨_, rfl⟩
  have HT : Hid (Two w x plc0 C W) := by rw [hW, hC]; exact Two.mk' w x
  have HC : Hid (Calls Try.prog 32 #[x.v, .int .i64 k] W (SpansP W x k X)) := coreSpans_ok x k X hX hm W N (hi.keeps hN HT.out.keeps) (Nat.le_trans hN HT.out.keeps.size)
  have HI : Hid (x.In w N ∧ N ≤ w.heap.size ∧ x.cs[k]? = some X ∧ may X.ws = true) := ⟨hi, hN, hX, hm⟩
  have ht' : decide (t < 0) = false := by simp [ht]
  have hk : (k : Int) < x.cs.length := by have := (List.getElem?_eq_some_iff.1 hX).1; omega
  have hcc : (x.cs.length : Int) ≤ x.cc ∧ (x.cc : Int) ≤ 9223372036854775807 := by have := hi.clen; unfold maxLen at this; omega
  have hL16 : X.ws.length ≤ 16 := (may_iff.1 hm).2.1
  clear hi hN hX hm
  go_enter Try.func11, Try.ntmps11
  go_wp2_with fail
  unfold Cfg.two Cfg.laid at hW
  rw [← hW, ← hC]
  clear hW hC
  refine HC.out.mono ?_
  rintro e w1 ⟨g, rfl, h1, h2, h3, hK⟩
  have HS1 : Hid (Seek w x k X N C g w1) := ⟨HT.out.kept hK, HI.out.1.keeps HI.out.2.1 (HT.out.kept hK).keeps, h3, h2⟩
  obtain ⟨L, hL⟩ : ∃ L, X.ws.length = L := ⟨_, rfl⟩
  have HL : Hid (X.ws.length = L) := hL
  rw [hL] at hL16 ⊢
  clear hK h1 h2 h3 hL
  go_wp2
  go_loopw [28] (fun i wr => ∃ j : Nat, j ≤ L ∧ i = .int .i64 j ∧ beg X.ws j ≤ t ∧ Seek w x k X N C g wr) (fun i _ => L - (intOf i).toNat)
  case atStart => exact ⟨0, by omega, rfl, ht, HS1.out⟩
  case round =>
    obtain ⟨j, hj, rfl, hle, hS⟩ := hrel
    by_cases hlt : j < L
    · have hjl : j < X.ws.length := by have := HL.out; omega
      obtain ⟨y, hy⟩ : ∃ y, X.ws[j]? = some y := ⟨_, List.getElem?_eq_getElem hjl⟩
      obtain ⟨g1, o1, e1, hg1⟩ := hS.seg.at (laid_get (core := k) hjl)
      cases e1
      have s0 := hg1 0 _ rfl
      have s1 := hg1 1 _ rfl
      have s2 := hg1 2 _ rfl
      have s3 := hg1 3 _ rfl
      rw [Nat.zero_add] at s0 s1 s2 s3
      rw [Nat.add_zero] at s0
      have hok := (may_iff.1 HI.out.2.2.2).2.2
      have hb1 := beg_bound hok j
      have hb2 := beg_bound hok (j + 1)
      obtain ⟨B, hB⟩ : ∃ B, beg X.ws j = B := ⟨_, rfl⟩
      obtain ⟨B', hB'⟩ : ∃ B, beg X.ws (j + 1) = B := ⟨_, rfl⟩
      have HB : Hid (beg X.ws j = B ∧ beg X.ws (j + 1) = B') := ⟨hB, hB'⟩
      rw [hB] at hb1 s2 hle
      rw [hB'] at hb2 s3
      have hbb : 0 ≤ B ∧ B ≤ 524288 ∧ 0 ≤ B' ∧ B' ≤ 524288 := by have := HL.out; omega
      obtain ⟨W1, hW1⟩ : ∃ W1, W1 = wr.alloc (.cells #[.int .i64 k, .int .i64 j, .int .i64 B, .int .i64 B'] 69) := ⟨_, rfl⟩
      obtain ⟨D, hD⟩ : ∃ D, D = wr.heap.size := ⟨_, rfl⟩
      have HW1 : Hid (Blk W1 D [.int .i64 k, .int .i64 j, .int .i64 B, .int .i64 B'] 69 ∧ Seek w x k X N C g W1) := by
        rw [hW1, hD]; exact ⟨Blk.new _ _ _, hS.kept HI.out.2.1 ((Keeps.refl _ _).alloc _)⟩
      clear hS hg1 hB hB' hb1 hb2
      go_upto_region 9 with fail
      rw [← hW1, ← hD]
      clear hW1 hD s0 s1 s2 s3
      have c1 := HW1.out.1.cell (i := 1) rfl
      have c2 := HW1.out.1.cell (i := 2) rfl
      have c3 := HW1.out.1.cell (i := 3) rfl
      by_cases hin : t < B'
      · have HR : Hid (AtR x k t ⟨j, y.p, t - B, B'⟩ 0) := .inr ⟨k, X, rfl, HI.out.2.2.1, .inr ⟨HI.out.2.2.2, .inr ⟨j, y, hy, by rw [HB.out.1]; exact hle, by rw [HB.out.2]; exact hin, by rw [HB.out.1, HB.out.2], rfl⟩⟩⟩
        have hin' : decide (t < B') = true := by simp [hin]
        obtain ⟨g2, o2, ha, hc⟩ := HW1.out.2.cin.core HI.out.2.2.1
        have c4 : W1.cell? ⟨C, 4, none⟩ = some (.slice x.ca x.cs.length x.cc) := HW1.out.2.two.cfg.cell rfl
        rw [ha] at c4
        have hXin := HW1.out.2.cin.cin X (List.mem_of_getElem? HI.out.2.2.1)
        obtain ⟨g3, o3, ha3, hg3⟩ := hXin.seg.at hy
        have y0 := hg3 0 _ rfl
        rw [Nat.add_zero] at y0
        have hxc : (X.ws.length : Int) ≤ X.c ∧ (X.c : Int) ≤ 9223372036854775807 := by have := hXin.len; unfold maxLen at this; omega
        have hv : Core.v X = .slice (some ⟨g3, o3, none⟩) L X.c := by unfold Core.v; rw [ha3, HL.out]
        rw [hv] at hc
        rw [HL.out] at hxc
        have q1 : IntKind.i64.wrap (t - B) = t - B := by rw [IntKind.wrap_i64]; omega
        clear hy hXin hg3 ha3 hv hin
        go_upto_region 10 with fail
        go_quiet (fail)
        clear hc y0 c4 c1 c2 c3
        obtain ⟨W2, hW2⟩ : ∃ W2, W2 = W1.drewN nq := ⟨_, rfl⟩
        have HW2 : Hid (Blk W2 D [.int .i64 k, .int .i64 j, .int .i64 B, .int .i64 B'] 69 ∧ Seek w x k X N C g W2) := by
          rw [hW2]; exact ⟨HW1.out.1.drewN _, HW1.out.2.kept HI.out.2.1 ((Keeps.refl _ _).drewN _)⟩
        rw [← hW2]
        clear hW2
        have c1 := HW2.out.1.cell (i := 1) rfl
        have c2 := HW2.out.1.cell (i := 2) rfl
        have c3 := HW2.out.1.cell (i := 3) rfl
        have d0 := HW2.out.2.two.pl.cell (i := 0) rfl
        have d1 := HW2.out.2.two.pl.cell (i := 1) rfl
        have d2 := HW2.out.2.two.pl.cell (i := 2) rfl
        have d3 := HW2.out.2.two.pl.cell (i := 3) rfl
        have f0 := HW2.out.2.two.pl.frozen 0
        have f1 := HW2.out.2.two.pl.frozen 1
        have f2 := HW2.out.2.two.pl.frozen 2
        have f3 := HW2.out.2.two.pl.frozen 3
        go_wp2
        (try simp only [Exit.inBlock, Exit.then])
        have HL2 : Hid (_ = _) := load_plc (HW2.out.2.two.set ⟨j, y.p, t - B, B'⟩).pl
        refine bodyPost_ret (results_cell_tmp (p := 6) (u := 7) (ty := 30) rfl _ _ ⟨C + 1, 0, none⟩ (Plc.v ⟨j, y.p, t - B, B'⟩) rfl HL2.out) rfl ?_
        exact ⟨⟨j, y.p, t - B, B'⟩, 0, rfl, HR.out, (HW2.out.2.two.set ⟨j, y.p, t - B, B'⟩).keeps⟩
      · have hin' : decide (t < B') = false := by simp [hin]
        clear hy
        go_wp2
        go_roundw
        case rel => exact ⟨j + 1, by omega, by go_num, by rw [HB.out.2]; omega, HW1.out.2⟩
        case measure => simp [intOf]; omega
    · obtain rfl : j = L := by omega
      have HS2 : Hid (Seek w x k X N C g wr) := hS
      have HR : Hid (AtR x k t plc0 141) := .inr ⟨k, X, rfl, HI.out.2.2.1, .inr ⟨HI.out.2.2.2, .inl ⟨.inr (by rw [HL.out]; exact hle), rfl, rfl⟩⟩⟩
      have d0 := hS.two.pl.cell (i := 0) rfl
      have d1 := hS.two.pl.cell (i := 1) rfl
      have d2 := hS.two.pl.cell (i := 2) rfl
      have d3 := hS.two.pl.cell (i := 3) rfl
      have f0 := hS.two.pl.frozen 0
      have f1 := hS.two.pl.frozen 1
      have f2 := hS.two.pl.frozen 2
      have f3 := hS.two.pl.frozen 3
      clear hS hle
      go_wp2
      (try simp only [Exit.inBlock, Exit.then])
      have HL2 : Hid (_ = _) := load_plc (HS2.out.two.set plc0).pl
      refine bodyPost_ret (results_cell_tmp (p := 6) (u := 7) (ty := 30) rfl _ _ ⟨C + 1, 0, none⟩ plc0.v rfl HL2.out) rfl ?_
      exact ⟨plc0, 141, rfl, HR.out, (HS2.out.two.set plc0).keeps⟩

theorem at_any (x : Cfg) (k t : Int) (w : World) (N : Nat) (hi : x.In w N) (hN : N ≤ w.heap.size) :
    Calls Try.prog 11 #[x.v, .int .i64 k, .int .i64 t] w (AtP w x k t) := by
  by_cases hk : k < 0 ∨ x.cs.length ≤ k
  · exact at_no x k t w N hi hN hk
  · obtain ⟨n, rfl⟩ : ∃ n : Nat, k = n := ⟨k.toNat, by omega⟩
    obtain ⟨X, hX⟩ : ∃ X, x.cs[n]? = some X := ⟨_, List.getElem?_eq_getElem (by omega)⟩
    by_cases hm : may X.ws = true
    · by_cases ht : t < 0
      · exact at_neg x n X hX hm t ht w N hi hN
      · exact at_ok x n X hX hm t (by omega) w N hi hN
    · exact at_bad x n X hX (by simpa using hm) t w N hi hN
end Go.Proofs.Ytnkfdmlpjgmckaa
