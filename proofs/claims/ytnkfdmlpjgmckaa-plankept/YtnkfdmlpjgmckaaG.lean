import Derived.Test.YtnkfdmlpjgmckaaF
namespace Go.Proofs.Ytnkfdmlpjgmckaa
open Go.RowKit
set_option linter.unusedVariables false
set_option maxRecDepth 6000

theorem rat_no (x : Cfg) (k t : Int) (w : World) (N : Nat) (hi : x.In w N) (hN : N ≤ w.heap.size) (hk : k < 0 ∨ x.cs.length ≤ k) :
    Calls Try.prog 12 #[x.v, .int .i64 k, .int .i64 t] w (AtP w x k t) := by
  have HR : Hid (AtR x k t plc0 140) := .inl ⟨hk, rfl, rfl⟩
  obtain ⟨W, hW⟩ : ∃ W, W = x.two w := ⟨_, rfl⟩
  obtain ⟨C, hC⟩ : ∃ C, C = w.heap.size := ⟨_, rfl⟩
  have HT : Hid (Two w x plc0 C W) := by rw [hW, hC]; exact Two.mk' w x
  clear hi hN
  unfold Cfg.two Cfg.laid at hW
  have hk1 : decide (k < 0) = true ∨ (decide (k < 0) = false ∧ decide ((x.cs.length : Int) ≤ k) = true) := by simp; omega
  rcases hk1 with e1 | ⟨e1, e2⟩
  · clear hk
    go_enter Try.func12, Try.ntmps12
    go_upto_region 2 with fail
    rw [← hW, ← hC]
    clear hW hC
    have d0 := HT.out.pl.cell (i := 0) rfl
    have d1 := HT.out.pl.cell (i := 1) rfl
    have d2 := HT.out.pl.cell (i := 2) rfl
    have d3 := HT.out.pl.cell (i := 3) rfl
    have f0 := HT.out.pl.frozen 0
    have f1 := HT.out.pl.frozen 1
    have f2 := HT.out.pl.frozen 2
    have f3 := HT.out.pl.frozen 3
    go_wp2
    (try simp only [Exit.inBlock, Exit.then])
    have HL2 : Hid (_ = _) := load_plc (HT.out.set plc0).pl
    refine bodyPost_ret (results_cell_tmp (p := 6) (u := 7) (ty := 30) rfl _ _ ⟨C + 1, 0, none⟩ (Plc.v plc0) rfl HL2.out) rfl ?_
    exact ⟨plc0, 140, rfl, HR.out, (HT.out.set plc0).keeps⟩
  · clear hk
    go_enter Try.func12, Try.ntmps12
    go_upto_region 2 with fail
    rw [← hW, ← hC]
    clear hW hC
    have d0 := HT.out.pl.cell (i := 0) rfl
    have d1 := HT.out.pl.cell (i := 1) rfl
    have d2 := HT.out.pl.cell (i := 2) rfl
    have d3 := HT.out.pl.cell (i := 3) rfl
    have f0 := HT.out.pl.frozen 0
    have f1 := HT.out.pl.frozen 1
    have f2 := HT.out.pl.frozen 2
    have f3 := HT.out.pl.frozen 3
    go_wp2
    (try simp only [Exit.inBlock, Exit.then])
    have HL2 : Hid (_ = _) := load_plc (HT.out.set plc0).pl
    refine bodyPost_ret (results_cell_tmp (p := 6) (u := 7) (ty := 30) rfl _ _ ⟨C + 1, 0, none⟩ (Plc.v plc0) rfl HL2.out) rfl ?_
    exact ⟨plc0, 140, rfl, HR.out, (HT.out.set plc0).keeps⟩

theorem rat_bad (x : Cfg) (k : Nat) (X : Core) (hX : x.cs[k]? = some X) (hm : may X.ws = false) (t : Int) (w : World) (N : Nat) (hi : x.In w N) (hN : N ≤ w.heap.size) :
    Calls Try.prog 12 #[x.v, .int .i64 k, .int .i64 t] w (AtP w x k t) := by
  have HR : Hid (AtR x k t plc0 1) := .inr ⟨k, X, rfl, hX, .inl ⟨hm, rfl, rfl⟩⟩
  obtain ⟨W, hW⟩ : ∃ W, W = x.two w := ⟨_, rfl⟩
  obtain ⟨C, hC⟩ : ∃ C, C = w.heap.size := ⟨_, rfl⟩
  have HT : Hid (Two w x plc0 C W) := by rw [hW, hC]; exact Two.mk' w x
  have HI : Hid (x.In w N ∧ N ≤ w.heap.size ∧ x.cs[k]? = some X ∧ X ∈ x.cs) := ⟨hi, hN, hX, List.mem_of_getElem? hX⟩
  have hk : (k : Int) < x.cs.length := by have := (List.getElem?_eq_some_iff.1 hX).1; omega
  have hcc : (x.cs.length : Int) ≤ x.cc ∧ (x.cc : Int) ≤ 9223372036854775807 := by have := hi.clen; unfold maxLen at this; omega
  obtain ⟨g, o, ha, hc⟩ := (HI.out.1.keeps HI.out.2.1 HT.out.keeps).core hX
  have c4 : W.cell? ⟨C, 4, none⟩ = some (.slice x.ca x.cs.length x.cc) := HT.out.cfg.cell rfl
  unfold Cfg.two Cfg.laid at hW
  rw [ha] at hW c4
  clear hi hN hX
  go_enter Try.func12, Try.ntmps12
  go_upto_region 3 with fail
  rw [← hW, ← hC]
  clear hW hC
  go_wp2_with fail
  refine (rmay_any _ _ _ _ (((HI.out.1.keeps HI.out.2.1 HT.out.keeps).cin X HI.out.2.2.2).seg) ((HI.out.1.cin X HI.out.2.2.2).len)).mono ?_
  rintro e w1 ⟨rfl, hw1⟩
  obtain rfl := hw1.symm
  clear hw1 c4 hc
  rw [hm]
  have d0 := HT.out.pl.cell (i := 0) rfl
  have d1 := HT.out.pl.cell (i := 1) rfl
  have d2 := HT.out.pl.cell (i := 2) rfl
  have d3 := HT.out.pl.cell (i := 3) rfl
  have f0 := HT.out.pl.frozen 0
  have f1 := HT.out.pl.frozen 1
  have f2 := HT.out.pl.frozen 2
  have f3 := HT.out.pl.frozen 3
  go_wp2
  (try simp only [Exit.inBlock, Exit.then])
  have HL2 : Hid (_ = _) := load_plc (HT.out.set plc0).pl
  refine bodyPost_ret (results_cell_tmp (p := 6) (u := 7) (ty := 30) rfl _ _ ⟨C + 1, 0, none⟩ (Plc.v plc0) rfl HL2.out) rfl ?_
  exact ⟨plc0, 1, rfl, HR.out, (HT.out.set plc0).keeps⟩

structure RSeek (w : World) (x : Cfg) (N C : Nat) (wr : World) : Prop where
  two : Two w x plc0 C wr
  cin : x.In wr N
theorem RSeek.kept {w : World} {x : Cfg} {N C : Nat} {wr w' : World} (h : RSeek w x N C wr) (hN : N ≤ w.heap.size) (hK : Keeps (fun _ => False) wr w') : RSeek w x N C w' :=
  ⟨h.two.kept hK, h.cin.keeps (Nat.le_trans hN h.two.keeps.size) hK⟩
set_option maxHeartbeats 1000000 in
theorem rat_ok (x : Cfg) (k : Nat) (X : Core) (hX : x.cs[k]? = some X) (hm : may X.ws = true) (t : Int) (w : World) (N : Nat) (hi : x.In w N) (hN : N ≤ w.heap.size) :
    Calls Try.prog 12 #[x.v, .int .i64 k, .int .i64 t] w (AtP w x k t) := by
  obtain ⟨W, hW⟩ : ∃ W, W = x.two w := ⟨_, rfl⟩
  obtain ⟨C, hC⟩ : ∃ C, C = w.heap.size := ⟨_, rfl⟩
  have HT : Hid (Two w x plc0 C W) := by rw [hW, hC]; exact Two.mk' w x
  have HI : Hid (x.In w N ∧ N ≤ w.heap.size ∧ x.cs[k]? = some X ∧ X ∈ x.cs) := ⟨hi, hN, hX, List.mem_of_getElem? hX⟩
  have hk : (k : Int) < x.cs.length := by have := (List.getElem?_eq_some_iff.1 hX).1; omega
  have hcc : (x.cs.length : Int) ≤ x.cc ∧ (x.cc : Int) ≤ 9223372036854775807 := by have := hi.clen; unfold maxLen at this; omega
  obtain ⟨g, o, ha, hc⟩ := (HI.out.1.keeps HI.out.2.1 HT.out.keeps).core hX
  have c4 : W.cell? ⟨C, 4, none⟩ = some (.slice x.ca x.cs.length x.cc) := HT.out.cfg.cell rfl
  unfold Cfg.two Cfg.laid at hW
  rw [ha] at hW c4
  clear hi hN hX
  go_enter Try.func12, Try.ntmps12
  go_upto_region 3 with fail
  rw [← hW, ← hC]
  clear hW hC
  go_wp2_with fail
  refine (rmay_any _ _ _ _ (((HI.out.1.keeps HI.out.2.1 HT.out.keeps).cin X HI.out.2.2.2).seg) ((HI.out.1.cin X HI.out.2.2.2).len)).mono ?_
  rintro e w1 ⟨rfl, hw1⟩
  obtain rfl := hw1.symm
  clear hw1 c4 hc
  rw [hm]
  have HM : Hid (may X.ws = true) := hm
  have hL16 : X.ws.length ≤ 16 := (may_iff.1 hm).2.1
  obtain ⟨L, hL⟩ : ∃ L, X.ws.length = L := ⟨_, rfl⟩
  have HL : Hid (X.ws.length = L) := hL
  have hxc : (L : Int) ≤ X.c ∧ (X.c : Int) ≤ 9223372036854775807 := by have := (HI.out.1.cin X HI.out.2.2.2).len; unfold maxLen at this; omega
  rw [hL] at hL16
  unfold Core.v
  rw [hL]
  have HS0 : Hid (RSeek w x N C W) := ⟨HT.out, HI.out.1.keeps HI.out.2.1 HT.out.keeps⟩
  clear hm hL HT
  go_wp2
  go_loopw [9] (fun i wr => ∃ j : Nat, j ≤ L ∧ i = .int .i64 j ∧ (t < 0 ∨ beg X.ws j ≤ t) ∧ RSeek w x N C wr) (fun i _ => L - (intOf i).toNat)
  case atStart => exact ⟨0, by omega, rfl, by have : beg X.ws 0 = 0 := rfl
                                              omega, HS0.out⟩
  case round =>
    obtain ⟨j, hj, rfl, hle, hS⟩ := hrel
    have HS : Hid (RSeek w x N C wr) := hS
    clear hS HS0
    by_cases hlt : j < L
    · have hjl : j < X.ws.length := by have := HL.out; omega
      obtain ⟨y, hy⟩ : ∃ y, X.ws[j]? = some y := ⟨_, List.getElem?_eq_getElem hjl⟩
      have HY : Hid (X.ws[j]? = some y) := hy
      have hok := (may_iff.1 HM.out).2.2
      have hb1 := beg_bound hok j
      have hb2 := beg_bound hok (j + 1)
      obtain ⟨B, hB⟩ : ∃ B, beg X.ws j = B := ⟨_, rfl⟩
      obtain ⟨B', hB'⟩ : ∃ B, beg X.ws (j + 1) = B := ⟨_, rfl⟩
      have HB : Hid (beg X.ws j = B ∧ beg X.ws (j + 1) = B') := ⟨hB, hB'⟩
      rw [hB] at hb1 hle
      rw [hB'] at hb2
      have hbb : 0 ≤ B ∧ B ≤ 524288 ∧ 0 ≤ B' ∧ B' ≤ 524288 := by have := HL.out; omega
      have HC1 : Hid (Calls Try.prog 34 #[.slice X.a L X.c, .int .i64 j] wr fun e w' => e = .returned (.int .i64 B) ∧ Keeps (fun _ => False) wr w' ∧ w'.heap.size = wr.heap.size) := by
        have h := rbegin_any X.a X.c X.ws j (by omega) wr (HS.out.cin.cin X HI.out.2.2.2).seg (HS.out.cin.cin X HI.out.2.2.2).len HM.out
        rw [hB, HL.out] at h
        exact h
      have hw1 : IntKind.i64.wrap ((j : Int) + 1) = ((j + 1 : Nat) : Int) := by rw [IntKind.wrap_i64]; omega
      clear hb1 hb2 hB hB' hy
      go_wp2_with fail
      refine HC1.out.mono ?_
      rintro e w2 ⟨rfl, hK, hsz⟩
      have HS2 : Hid (RSeek w x N C w2) := HS.out.kept HI.out.2.1 hK
      have HC2 : Hid (Calls Try.prog 34 #[.slice X.a L X.c, .int .i64 ((j + 1 : Nat) : Int)] w2 fun e w' => e = .returned (.int .i64 B') ∧ Keeps (fun _ => False) w2 w' ∧ w'.heap.size = w2.heap.size) := by
        have h := rbegin_any X.a X.c X.ws (j + 1) (by omega) w2 (HS2.out.cin.cin X HI.out.2.2.2).seg (HS2.out.cin.cin X HI.out.2.2.2).len HM.out
        rw [HB.out.2, HL.out] at h
        exact h
      clear hK hsz
      go_wp2_with fail
      refine HC2.out.mono ?_
      rintro e w3 ⟨rfl, hK, hsz⟩
      have HS3 : Hid (RSeek w x N C w3) := HS2.out.kept HI.out.2.1 hK
      clear hK hsz hw1
      by_cases h1 : B ≤ t
      · have h1' : decide (B ≤ t) = true := by simp [h1]
        by_cases h2 : t < B'
        · have h2' : decide (t < B') = true := by simp [h2]
          have HR : Hid (AtR x k t ⟨j, y.p, t - B, B'⟩ 0) := .inr ⟨k, X, rfl, HI.out.2.2.1, .inr ⟨HM.out, .inr ⟨j, y, HY.out, by rw [HB.out.1]; exact h1, by rw [HB.out.2]; exact h2, by rw [HB.out.1, HB.out.2], rfl⟩⟩⟩
          obtain ⟨g3, o3, ha3, hg3⟩ := (HS3.out.cin.cin X HI.out.2.2.2).seg.at HY.out
          have y0 := hg3 0 _ rfl
          rw [Nat.add_zero] at y0
          have q1 : IntKind.i64.wrap (t - B) = t - B := by rw [IntKind.wrap_i64]; omega
          clear hg3
          have d0 := HS3.out.two.pl.cell (i := 0) rfl
          have d1 := HS3.out.two.pl.cell (i := 1) rfl
          have d2 := HS3.out.two.pl.cell (i := 2) rfl
          have d3 := HS3.out.two.pl.cell (i := 3) rfl
          have f0 := HS3.out.two.pl.frozen 0
          have f1 := HS3.out.two.pl.frozen 1
          have f2 := HS3.out.two.pl.frozen 2
          have f3 := HS3.out.two.pl.frozen 3
          go_wp2
          (try simp only [Exit.inBlock, Exit.then])
          have HL2 : Hid (_ = _) := load_plc (HS3.out.two.set ⟨j, y.p, t - B, B'⟩).pl
          refine bodyPost_ret (results_cell_tmp (p := 6) (u := 7) (ty := 30) rfl _ _ ⟨C + 1, 0, none⟩ (Plc.v ⟨j, y.p, t - B, B'⟩) rfl HL2.out) rfl ?_
          exact ⟨⟨j, y.p, t - B, B'⟩, 0, rfl, HR.out, (HS3.out.two.set ⟨j, y.p, t - B, B'⟩).keeps⟩
        · have h2' : decide (t < B') = false := by simp [h2]
          go_wp2
          go_roundw
          case rel => exact ⟨j + 1, by omega, by go_num, by rw [HB.out.2]; omega, HS3.out⟩
          case measure => simp [intOf]; omega
      · have h1' : decide (B ≤ t) = false := by simp [h1]
        go_wp2
        go_roundw
        case rel => exact ⟨j + 1, by omega, by go_num, by omega, HS3.out⟩
        case measure => simp [intOf]; omega
    · obtain rfl : j = L := by omega
      have HR : Hid (AtR x k t plc0 141) := .inr ⟨k, X, rfl, HI.out.2.2.1, .inr ⟨HM.out, .inl ⟨by rw [HL.out]; exact hle, rfl, rfl⟩⟩⟩
      clear hle
      have d0 := HS.out.two.pl.cell (i := 0) rfl
      have d1 := HS.out.two.pl.cell (i := 1) rfl
      have d2 := HS.out.two.pl.cell (i := 2) rfl
      have d3 := HS.out.two.pl.cell (i := 3) rfl
      have f0 := HS.out.two.pl.frozen 0
      have f1 := HS.out.two.pl.frozen 1
      have f2 := HS.out.two.pl.frozen 2
      have f3 := HS.out.two.pl.frozen 3
      go_wp2
      (try simp only [Exit.inBlock, Exit.then])
      have HL2 : Hid (_ = _) := load_plc (HS.out.two.set plc0).pl
      refine bodyPost_ret (results_cell_tmp (p := 6) (u := 7) (ty := 30) rfl _ _ ⟨C + 1, 0, none⟩ (Plc.v plc0) rfl HL2.out) rfl ?_
      exact ⟨plc0, 141, rfl, HR.out, (HS.out.two.set plc0).keeps⟩

theorem rat_any (x : Cfg) (k t : Int) (w : World) (N : Nat) (hi : x.In w N) (hN : N ≤ w.heap.size) :
    Calls Try.prog 12 #[x.v, .int .i64 k, .int .i64 t] w (AtP w x k t) := by
  by_cases hk : k < 0 ∨ x.cs.length ≤ k
  · exact rat_no x k t w N hi hN hk
  · obtain ⟨n, rfl⟩ : ∃ n : Nat, k = n := ⟨k.toNat, by omega⟩
    obtain ⟨X, hX⟩ : ∃ X, x.cs[n]? = some X := ⟨_, List.getElem?_eq_getElem (by omega)⟩
    by_cases hm : may X.ws = true
    · exact rat_ok x n X hX hm t w N hi hN
    · exact rat_bad x n X hX (by simpa using hm) t w N hi hN
end Go.Proofs.Ytnkfdmlpjgmckaa
