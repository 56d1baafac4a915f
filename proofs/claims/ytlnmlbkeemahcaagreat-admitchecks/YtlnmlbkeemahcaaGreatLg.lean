import Derived.Test.YtlnmlbkeemahcaaGreatLf
namespace Go.Proofs.YtlnmlbkeemahcaaGreat
open Go.RowKit
set_option linter.unusedVariables false
set_option linter.unusedSimpArgs false
set_option maxRecDepth 6000
structure KI (w : World) (x : Cfg) (B C : Nat) (lv xv : List Value) (lo : Nat) (O : Nat → Nat → ObG) (wr : World) : Prop where
 len : Blk wr B lv 30
 cfg : Blk wr C xv 26
 fam : FamO lo wr O
 ok : x.Ok wr
 keeps : KF w wr
theorem KI.kept {w : World} {x : Cfg} {B C : Nat} {lv xv : List Value} {lo : Nat} {O : Nat → Nat → ObG} {wr W : World} (h : KI w x B C lv xv lo O wr) (hK : KF wr W) : KI w x B C lv xv lo O W :=
 ⟨h.len.kept hK fun e => e, h.cfg.kept hK fun e => e, h.fam.kept hK fun _ _ _ _ e => e, h.ok.grown hK, h.keeps.trans hK fun _ _ e => e⟩
theorem KI.lc {w : World} {x : Cfg} {B C : Nat} {lv xv l : List Value} {lo : Nat} {O : Nat → Nat → ObG} {wr : World} (h : KI w x B C lv xv lo O wr) (e : lv = l) {i : Nat} {v : Value} (hv : l[i]? = some v) : wr.cell? ⟨B, i, none⟩ = some v := h.len.cell (by rw [e]; exact hv)
theorem KI.xc {w : World} {x : Cfg} {B C : Nat} {lv xv l : List Value} {lo : Nat} {O : Nat → Nat → ObG} {wr : World} (h : KI w x B C lv xv lo O wr) (e : xv = l) {i : Nat} {v : Value} (hv : l[i]? = some v) : wr.cell? ⟨C, i, none⟩ = some v := h.cfg.cell (by rw [e]; exact hv)
theorem exec_load_row {P : Program} {o : Oper} {ev : Operand → Value} {w : World} (ty : TypeId) (x : Operand) (ho : o.op = .load ty x) (g : Nat) (hx : ev x = .pointer (some ⟨g, 0, none⟩)) (t : TypeId) (cs : Array Value) (fr : Nat × Nat) (d : TypeDesc) (hg : w.heap[g]? = some (.cells cs t fr))
  (hu : P.underlying ty = some d) (hd : (match d with | .struct _ | .array _ _ => true | _ => false) = true) (hi : (P.info? ty).map (·.size) = some cs.size) : (execOp ev o).run P w = .ok (.value (.agg cs)) w := by
 unfold execOp
 simp only [ho, hx, Instr.loadAt, Instr.sureAddr, Sem.run_bind, Sem.run_pure, Result.andThen_ok, run_loadVar_row w g t ty cs fr d hg hu hd hi]
theorem Tryz.size30 : (Tryz.prog.info? 30).map (·.size) = some 13 := by kernel_rfl
set_option maxHeartbeats 16000000 in
theorem Kept_walk (x : Cfg) (O : Nat → Nat → ObG) (lo : Nat) (f0 f1 f2 f3 : Int) (a4 a5 a6 a7 a8 a9 a10 a11 a12 : Option Addr) (n4 n5 n6 c4 c5 c6 c7 c8 c9 c10 c11 c12 MH MC MP H L K : Nat) (w : World)
  (hsm : ∀ W, KF w W → Calls Tryz.prog 24 #[.agg #[.int .i64 f0, .int .i64 f1, .int .i64 f2, .int .i64 f3, .slice a4 n4 c4, .slice a5 n5 c5, .slice a6 n6 c6], x.v] W fun e w' => e = .returned (.bool true) ∧ KF W w')
  (hx : x.Ok w) (hb : Sml x) (hF : FamO lo w O) (hP : LP x (x.cs.length + 24) (x.ps.length + 24) O) (hfl : Fl eChn hM x.hs (O 0 0))
  (hH : x.hs.length = H) (hL : x.cs.length = L) (hK : x.ps.length = K) (hMH : H + 24 = MH) (hMC : L + 24 = MC) (hMP : K + 24 = MP)
  (e7 : (O 0 0).u = .slice a7 MH c7) (e8 : (O 0 1).u = .slice a8 MC c8) (e9 : (O 0 2).u = .slice a9 L c9) (e10 : (O 0 3).u = .slice a10 MP c10) (e11 : (O 0 4).u = .slice a11 K c11) (e12 : (O 0 5).u = .slice a12 K c12) :
  Calls Tryz.prog 7 #[.agg #[.int .i64 f0, .int .i64 f1, .int .i64 f2, .int .i64 f3, .slice a4 n4 c4, .slice a5 n5 c5, .slice a6 n6 c6, .slice a7 MH c7, .slice a8 MC c8, .slice a9 L c9, .slice a10 MP c10, .slice a11 K c11, .slice a12 K c12], .agg #[.int .i64 x.frames, .int .i64 x.major, .int .i64 x.kernel, .int .i64 x.room, .slice x.ca L x.cc, .slice x.pa K x.pc, .slice x.ha H x.hc]] w (RetK (.bool true) w) := by
 have hxv : x.v = .agg #[.int .i64 x.frames, .int .i64 x.major, .int .i64 x.kernel, .int .i64 x.room, .slice x.ca L x.cc, .slice x.pa K x.pc, .slice x.ha H x.hc] := by unfold Cfg.v; rw [hH, hL, hK]
 obtain ⟨B, hB⟩ : ∃ B, B = w.heap.size := ⟨_, rfl⟩
 obtain ⟨C, hC⟩ : ∃ C, C = w.heap.size + 1 := ⟨_, rfl⟩
 obtain ⟨W, hW⟩ : ∃ W, W = (w.alloc (.cells #[.int .i64 f0, .int .i64 f1, .int .i64 f2, .int .i64 f3, .slice a4 n4 c4, .slice a5 n5 c5, .slice a6 n6 c6, .slice a7 MH c7, .slice a8 MC c8, .slice a9 L c9, .slice a10 MP c10, .slice a11 K c11, .slice a12 K c12] 30)).alloc (.cells #[.int .i64 x.frames, .int .i64 x.major, .int .i64 x.kernel, .int .i64 x.room, .slice x.ca L x.cc, .slice x.pa K x.pc, .slice x.ha H x.hc] 26) := ⟨_, rfl⟩
 have kW : KF w W := by rw [hW]; exact ((Keeps.refl _ _).alloc _).alloc _
 obtain ⟨lv, hlv⟩ : ∃ l : List Value, l = [.int .i64 f0, .int .i64 f1, .int .i64 f2, .int .i64 f3, .slice a4 n4 c4, .slice a5 n5 c5, .slice a6 n6 c6, .slice a7 MH c7, .slice a8 MC c8, .slice a9 L c9, .slice a10 MP c10, .slice a11 K c11, .slice a12 K c12] := ⟨_, rfl⟩
 obtain ⟨xv, hxw⟩ : ∃ l : List Value, l = [.int .i64 x.frames, .int .i64 x.major, .int .i64 x.kernel, .int .i64 x.room, .slice x.ca L x.cc, .slice x.pa K x.pc, .slice x.ha H x.hc] := ⟨_, rfl⟩
 have HX : Hid (lv = [.int .i64 f0, .int .i64 f1, .int .i64 f2, .int .i64 f3, .slice a4 n4 c4, .slice a5 n5 c5, .slice a6 n6 c6, .slice a7 MH c7, .slice a8 MC c8, .slice a9 L c9, .slice a10 MP c10, .slice a11 K c11, .slice a12 K c12] ∧ xv = [.int .i64 x.frames, .int .i64 x.major, .int .i64 x.kernel, .int .i64 x.room, .slice x.ca L x.cc, .slice x.pa K x.pc, .slice x.ha H x.hc]) := ⟨hlv, hxw⟩
 have HI0 : Hid (KI w x B C lv xv lo O W) := by
  refine ⟨?_, ?_, hF.kept kW fun _ _ _ _ e => e, hx.grown kW, kW⟩
  ·
   rw [hW, hB, hlv]; exact (Blk.new w _ _).alloc _
  ·
   have := Blk.new (w.alloc (.cells #[.int .i64 f0, .int .i64 f1, .int .i64 f2, .int .i64 f3, .slice a4 n4 c4, .slice a5 n5 c5, .slice a6 n6 c6, .slice a7 MH c7, .slice a8 MC c8, .slice a9 L c9, .slice a10 MP c10, .slice a11 K c11, .slice a12 K c12] 30)) #[.int .i64 x.frames, .int .i64 x.major, .int .i64 x.kernel, .int .i64 x.room, .slice x.ca L x.cc, .slice x.pa K x.pc, .slice x.ha H x.hc] 26
   rw [hW, hC, hxw]; simpa using this
 have HSM : Hid (Calls Tryz.prog 24 #[.agg #[.int .i64 f0, .int .i64 f1, .int .i64 f2, .int .i64 f3, .slice a4 n4 c4, .slice a5 n5 c5, .slice a6 n6 c6], .agg #[.int .i64 x.frames, .int .i64 x.major, .int .i64 x.kernel, .int .i64 x.room, .slice x.ca L x.cc, .slice x.pa K x.pc, .slice x.ha H x.hc]] W fun e w' => e = .returned (.bool true) ∧ KF W w') := by rw [← hxv]; exact hsm W kW
 have HE : Hid ((O 0 0).u = .slice a7 MH c7 ∧ (O 0 1).u = .slice a8 MC c8 ∧ (O 0 2).u = .slice a9 L c9 ∧ (O 0 3).u = .slice a10 MP c10 ∧ (O 0 4).u = .slice a11 K c11 ∧ (O 0 5).u = .slice a12 K c12) := ⟨e7, e8, e9, e10, e11, e12⟩
 have HL : Hid (x.hs.length = H ∧ x.cs.length = L ∧ x.ps.length = K ∧ H + 24 = MH ∧ L + 24 = MC ∧ K + 24 = MP) := ⟨hH, hL, hK, hMH, hMC, hMP⟩
 have HN : Hid ((O 0 0).n = MH ∧ (O 0 1).n = MC ∧ (O 0 2).n = L ∧ (O 0 3).n = MP ∧ (O 0 4).n = K ∧ (O 0 5).n = K) := by
  refine ⟨by rw [hfl.1]; omega, by rw [hP.n1]; omega, by rw [hP.n2]; omega, by rw [hP.n3]; omega, by rw [hP.n4]; omega, by rw [hP.n5]; omega⟩
 have HP : Hid (LP x (x.cs.length + 24) (x.ps.length + 24) O ∧ Fl eChn hM x.hs (O 0 0)) := ⟨hP, hfl⟩
 have HB : Hid (Sml x) := hb
 have x0 := HI0.out.lc HX.out.1 (i := 0) rfl
 have x1 := HI0.out.lc HX.out.1 (i := 1) rfl
 have x2 := HI0.out.lc HX.out.1 (i := 2) rfl
 have x3 := HI0.out.lc HX.out.1 (i := 3) rfl
 have x4 := HI0.out.lc HX.out.1 (i := 4) rfl
 have x5 := HI0.out.lc HX.out.1 (i := 5) rfl
 have x6 := HI0.out.lc HX.out.1 (i := 6) rfl
 have y0 := HI0.out.xc HX.out.2 (i := 0) rfl
 have y1 := HI0.out.xc HX.out.2 (i := 1) rfl
 have y2 := HI0.out.xc HX.out.2 (i := 2) rfl
 have y3 := HI0.out.xc HX.out.2 (i := 3) rfl
 have y4 := HI0.out.xc HX.out.2 (i := 4) rfl
 have y5 := HI0.out.xc HX.out.2 (i := 5) rfl
 have y6 := HI0.out.xc HX.out.2 (i := 6) rfl
 have q1 : (H : Int) ≤ 140737488351232 := by have := hb.hs; rw [hH] at this; omega
 have q2 : (L : Int) ≤ 140737488351232 := by have := hb.cs; rw [hL] at this; omega
 have q3 : (K : Int) ≤ 140737488351232 := by have := hb.ps; rw [hK] at this; omega
 have q4 : (MH : Int) ≤ 140737488351256 := by omega
 have q5 : (MC : Int) ≤ 140737488351256 := by omega
 have q6 : (MP : Int) ≤ 140737488351256 := by omega
 have tq1 : (MH : Int) ≤ c7 := by obtain ⟨d, c, e, h1, _⟩ := hF.form 0 0; rw [e7] at e; cases e; have := HN.out.1; omega
 have tq2 : (MC : Int) ≤ c8 := by obtain ⟨d, c, e, h1, _⟩ := hF.form 0 1; rw [e8] at e; cases e; have := HN.out.2.1; omega
 have tq3 : (L : Int) ≤ c9 := by obtain ⟨d, c, e, h1, _⟩ := hF.form 0 2; rw [e9] at e; cases e; have := HN.out.2.2.1; omega
 have tq4 : (MP : Int) ≤ c10 := by obtain ⟨d, c, e, h1, _⟩ := hF.form 0 3; rw [e10] at e; cases e; have := HN.out.2.2.2.1; omega
 have tq5 : K ≤ c11 := by obtain ⟨d, c, e, h1, _⟩ := hF.form 0 4; rw [e11] at e; cases e; have := HN.out.2.2.2.2.1; omega
 have tq6 : K ≤ c12 := by obtain ⟨d, c, e, h1, _⟩ := hF.form 0 5; rw [e12] at e; cases e; have := HN.out.2.2.2.2.2; omega
 have HT : Hid (K ≤ c11 ∧ K ≤ c12) := ⟨tq5, tq6⟩
 have sq1 : (H : Int) ≤ x.hc := by have := hx.hlen; rw [hH] at this; omega
 have sq2 : (L : Int) ≤ x.cc := by have := hx.clen; rw [hL] at this; omega
 have sq3 : (K : Int) ≤ x.pc := by have := hx.plen; rw [hK] at this; omega
 clear hlv hxw hsm hx hb hF hP hfl hH hL hK hMH hMC hMP e7 e8 e9 e10 e11 e12 hxv kW tq5 tq6
 go_enter Tryz.func7, Tryz.ntmps7
 go_upto_region 1 with fail
 rw [← hW, ← hC, ← hB]
 clear hW hC hB
 go_wp2_with fail
 refine HSM.out.mono ?_
 rintro e w1 ⟨rfl, hK1⟩
 have HI1 : Hid (KI w x B C lv xv lo O w1) := HI0.out.kept hK1
 clear HSM x0 x1 x2 x3 x4 x5 x6 y0 y1 y2 y3 y4 y5 y6 hK1 HI0
 go_wp2
 go_loopw [5] (fun i wr => ∃ k : Nat, k ≤ MH ∧ i = .int .i64 k ∧ KI w x B C lv xv lo O wr) (fun i _ => MH - (intOf i).toNat)
 case atStart => exact ⟨0, by omega, rfl, HI1.out⟩
 case round =>
  obtain ⟨k, hk, rfl, hI⟩ := hrel
  clear HI1
  have b7 := hI.lc HX.out.1 (i := 7) rfl
  have y6 := hI.xc HX.out.2 (i := 6) rfl
  by_cases hlt : k < MH
  ·
   have hjz : (k : Int) < MH := by omega
   have HI : Hid (KI w x B C lv xv lo O wr) := hI
   have HJ : Hid (k ≤ 281474976710656 ∧ k < MH) := by unfold Hid; omega
   by_cases hl : k < H
   ·
    have hjl : (k : Int) < H := by omega
    have hjg : ¬ (k : Int) ≥ H := by omega
    have hjg2 : ¬ (H : Int) ≤ k := by omega
    obtain ⟨y, hy⟩ : ∃ y, x.hs[k]? = some y := ⟨_, List.getElem?_eq_getElem (by have := HL.out; omega)⟩
    obtain ⟨gH, ea, _, hc⟩ := at_cell (hI.fam.own 0 0) (HP.out.2.2.1 k y hy) (by rw [HN.out.1]; exact HE.out.1) (by simp [eChn, Chn.vs])
    replace hc : ∀ i v, (eChn.vs y)[i]? = some v → wr.cell? ⟨gH, k * 3 + i, none⟩ = some v := hc
    obtain ⟨g2, o2, ha2, hg2⟩ := hI.ok.hseg.at hy
    obtain ⟨p, u, t⟩ := y
    have u0 := hc 0 _ rfl
    have u1 := hc 1 _ rfl
    have u2 := hc 2 _ rfl
    have v0 := hg2 0 _ rfl
    have v1 := hg2 1 _ rfl
    have v2 := hg2 2 _ rfl
    rw [Nat.add_zero] at u0 v0
    rw [ea] at b7
    rw [ha2] at y6
    clear hI hy ea hc ha2 hg2 hlt hl hk
    go_upto_region 6 with fail
    refine wp_region_held_drew (S := fun w' => w'.cell? ⟨C, 6, none⟩ = some (.slice (some ⟨g2, o2, none⟩) H x.hc) ∧ w'.cell? ⟨B, 7, none⟩ = some (.slice (some ⟨gH, 0, none⟩) MH c7) ∧ w'.cell? ⟨gH, k * 3, none⟩ = some (.int .i64 p) ∧ w'.cell? ⟨gH, k * 3 + 1, none⟩ = some (.int .i64 u) ∧ w'.cell? ⟨gH, k * 3 + 2, none⟩ = some (.int .i64 t) ∧ w'.cell? ⟨g2, o2 + k * 3, none⟩ = some (.int .i64 p) ∧ w'.cell? ⟨g2, o2 + k * 3 + 1, none⟩ = some (.int .i64 u) ∧ w'.cell? ⟨g2, o2 + k * 3 + 2, none⟩ = some (.int .i64 t)) Tryz.mixd ⟨y6, b7, u0, u1, u2, v0, v1, v2⟩ (fun hHeld => ?_)
    simp only [t1, t2, List.length_nil, Nat.reduceAdd, t4, Array.replicate_zero, t6, List.append_toArray, List.nil_append, t8]
    refine hk 0 (.int .i64 (k : Int)) hHeld ?_
    refine hk 1 (.pointer (some ⟨C, 6, none⟩)) hHeld ?_
    refine hk 2 (.slice (some ⟨g2, o2, none⟩) H x.hc) hHeld ?_
    refine hk 3 (.int .i64 (H : Int)) hHeld ?_
    refine hk 4 (.bool false) hHeld ?_
    refine hk 5 (.bool false) hHeld ?_
    refine hn 6 hHeld ?_
    refine hn 7 hHeld ?_
    refine hn 8 hHeld ?_
    refine hn 9 hHeld ?_
    refine hn 10 hHeld ?_
    refine hn 11 hHeld ?_
    refine hn 12 hHeld ?_
    refine hn 13 hHeld ?_
    refine hk 14 (.bool false) hHeld ?_
    refine hk 15 (.bool false) hHeld ?_
    refine hk 16 (.int .i64 (k : Int)) hHeld ?_
    refine hk 17 (.pointer (some ⟨C, 6, none⟩)) hHeld ?_
    refine hk 18 (.slice (some ⟨g2, o2, none⟩) H x.hc) hHeld ?_
    refine hk 19 (.int .i64 (H : Int)) hHeld ?_
    refine hk 20 (.bool true) hHeld ?_
    refine hk 21 (.bool true) hHeld ?_
    refine hk 22 (.pointer (some ⟨B, 7, none⟩)) hHeld ?_
    refine hk 23 (.slice (some ⟨gH, 0, none⟩) MH c7) hHeld ?_
    refine hk 24 (.int .i64 (k : Int)) hHeld ?_
    refine hk 25 (.pointer (some ⟨gH, k * 3, none⟩)) hHeld ?_
    refine hk 26 (.agg #[.int .i64 p, .int .i64 u, .int .i64 t]) hHeld ?_
    refine hk 27 (.pointer (some ⟨C, 6, none⟩)) hHeld ?_
    refine hk 28 (.slice (some ⟨g2, o2, none⟩) H x.hc) hHeld ?_
    refine hk 29 (.int .i64 (k : Int)) hHeld ?_
    refine hk 30 (.pointer (some ⟨g2, o2 + k * 3, none⟩)) hHeld ?_
    refine hk 31 (.agg #[.int .i64 p, .int .i64 u, .int .i64 t]) hHeld ?_
    refine hk 32 (.bool false) hHeld ?_
    refine hk 33 (.bool false) hHeld ?_
    refine hk 34 (.bool false) hHeld ?_
    simp only [Act.put, s1, s2, s3]
    refine wpAnyH_done (by kernel_rfl) ?_ _
    clear hHeld y6 b7 u0 u1 u2 v0 v1 v2
    go_wp2
    go_roundw
    case rel => exact ⟨k + 1, by have := HJ.out.2; omega, by go_num, HI.out.kept (Keeps.refl _ wr).drew⟩
    case measure => have := HJ.out.2; simp [intOf]; omega
   ·
    have hjl : ¬ (k : Int) < H := by omega
    have hjg : (k : Int) ≥ H := by omega
    have hjg2 : (H : Int) ≤ k := by omega
    obtain ⟨gH, ea, _, hc⟩ := at_cell (hI.fam.own 0 0) (HP.out.2.2.2 k (by have := HL.out; omega) (by have := HL.out; omega)) (by rw [HN.out.1]; exact HE.out.1) (by simp [hM])
    replace hc : ∀ i v, (hM k)[i]? = some v → wr.cell? ⟨gH, k * 3 + i, none⟩ = some v := hc
    have u0 := hc 0 _ rfl
    have u1 := hc 1 _ rfl
    have u2 := hc 2 _ rfl
    rw [Nat.add_zero] at u0
    rw [ea] at b7
    clear hI ea hc hlt hl hk
    go_upto_region 6 with fail
    refine wp_region_held_drew (S := fun w' => w'.cell? ⟨C, 6, none⟩ = some (.slice x.ha H x.hc) ∧ w'.cell? ⟨B, 7, none⟩ = some (.slice (some ⟨gH, 0, none⟩) MH c7) ∧ w'.cell? ⟨gH, k * 3, none⟩ = some (.int .i64 (k : Int)) ∧ w'.cell? ⟨gH, k * 3 + 1, none⟩ = some (.int .i64 (-(k : Int))) ∧ w'.cell? ⟨gH, k * 3 + 2, none⟩ = some (.int .i64 (k : Int))) Tryz.mixd ⟨y6, b7, u0, u1, u2⟩ (fun hHeld => ?_)
    simp only [t1, t2, List.length_nil, Nat.reduceAdd, t4, Array.replicate_zero, t6, List.append_toArray, List.nil_append, t8]
    refine hk 0 (.int .i64 (k : Int)) hHeld ?_
    refine hk 1 (.pointer (some ⟨C, 6, none⟩)) hHeld ?_
    refine hk 2 (.slice x.ha H x.hc) hHeld ?_
    refine hk 3 (.int .i64 (H : Int)) hHeld ?_
    refine hk 4 (.bool true) hHeld ?_
    refine hk 5 (.bool true) hHeld ?_
    refine hk 6 (.pointer (some ⟨B, 7, none⟩)) hHeld ?_
    refine hk 7 (.slice (some ⟨gH, 0, none⟩) MH c7) hHeld ?_
    refine hk 8 (.int .i64 (k : Int)) hHeld ?_
    refine hk 9 (.pointer (some ⟨gH, k * 3, none⟩)) hHeld ?_
    refine hk 10 (.agg #[.int .i64 (k : Int), .int .i64 (-(k : Int)), .int .i64 (k : Int)]) hHeld ?_
    refine hk 11 (.int .i64 (k : Int)) hHeld ?_
    simp only [Act.put, s1, s2, s3]
    refine rd 12 fun Kq hK => ?_
    go_simp
    refine (chM_any k HJ.out.1 _).mono ?_
    rintro e w1 ⟨rfl, hK1⟩
    have HI2 : Hid (KI w x B C lv xv lo O w1) := (HI.out.kept (Keeps.refl _ wr).drew).kept hK1
    refine hK.out _ _ ⟨cell_kept (w := wr.drew) y6 hK1 fun e => e, cell_kept (w := wr.drew) b7 hK1 fun e => e, cell_kept (w := wr.drew) u0 hK1 fun e => e, cell_kept (w := wr.drew) u1 hK1 fun e => e, cell_kept (w := wr.drew) u2 hK1 fun e => e⟩ (fun hHeld => ?_)
    simp only [Act.put, s1, s2, s3]
    refine hk 13 (.bool false) hHeld ?_
    refine hk 14 (.bool false) hHeld ?_
    refine hk 15 (.bool false) hHeld ?_
    refine hk 16 (.int .i64 (k : Int)) hHeld ?_
    refine hk 17 (.pointer (some ⟨C, 6, none⟩)) hHeld ?_
    refine hk 18 (.slice x.ha H x.hc) hHeld ?_
    refine hk 19 (.int .i64 (H : Int)) hHeld ?_
    refine hk 20 (.bool false) hHeld ?_
    refine hk 21 (.bool false) hHeld ?_
    refine hn 22 hHeld ?_
    refine hn 23 hHeld ?_
    refine hn 24 hHeld ?_
    refine hn 25 hHeld ?_
    refine hn 26 hHeld ?_
    refine hn 27 hHeld ?_
    refine hn 28 hHeld ?_
    refine hn 29 hHeld ?_
    refine hn 30 hHeld ?_
    refine hn 31 hHeld ?_
    refine hn 32 hHeld ?_
    refine hk 33 (.bool false) hHeld ?_
    refine hk 34 (.bool false) hHeld ?_
    simp only [Act.put, s1, s2, s3]
    refine wpAnyH_done (by kernel_rfl) ?_ _
    clear hHeld hK hK1 y6 b7 u0 u1 u2
    go_wp2
    go_roundw
    case rel => exact ⟨k + 1, by have := HJ.out.2; omega, by go_num, HI2.out⟩
    case measure => have := HJ.out.2; simp [intOf]; omega
  ·
   have hkM : MH = k := by omega
   subst hkM
   have hjz : ¬ (MH : Int) < MH := by omega
   have HI1 : Hid (KI w x B C lv xv lo O wr) := hI
   have y4 := hI.xc HX.out.2 (i := 4) rfl
   clear hI hk hlt
   go_wp2
   clear b7 y6 y4 hjz
   go_loopw [6] (fun i wr => ∃ j : Nat, L ≤ j ∧ j ≤ MC ∧ i = .int .i64 j ∧ KI w x B C lv xv lo O wr) (fun i _ => MC - (intOf i).toNat)
   case atStart => exact ⟨L, Nat.le_refl _, by have := HL.out; omega, rfl, HI1.out⟩
   case round =>
    obtain ⟨j, hkl, hk, rfl, hI⟩ := hrel
    clear HI1
    have b8 := hI.lc HX.out.1 (i := 8) rfl
    by_cases hlt : j < MC
    ·
     have hjz : (j : Int) < MC := by omega
     obtain ⟨m1, m2, m3⟩ := HP.out.1.d1 j (by have := HL.out; omega) (by have := HL.out; omega)
     obtain ⟨gC, ea, _, hc⟩ := at_cell (hI.fam.own 0 1) m1 (by rw [HN.out.2.1]; exact HE.out.2.1) (by simp)
     have r1 : wr.cell? ⟨gC, j * 1 + 0, none⟩ = some (O 4 j).u := hc 0 _ rfl
     rw [Nat.mul_one, Nat.add_zero] at r1
     obtain ⟨dS, kS, eS, hkS, _⟩ := hI.fam.form 4 j
     rw [m2] at eS hkS
     obtain ⟨gS, eg, _, hs⟩ := at_cell (hI.fam.own 4 j) m3 (by rw [m2]; exact eS) (by simp [wM])
     rw [eS, eg] at r1
     have s0' := hs 0 _ rfl
     have s1' := hs 1 _ rfl
     have s2' := hs 2 _ rfl
     rw [ty_4] at s0' s1' s2'
     simp only [Nat.zero_mul, Nat.zero_add] at s0' s1' s2'
     rw [ea] at b8
     have hkz : (1 : Int) ≤ kS := by omega
     have HI : Hid (KI w x B C lv xv lo O wr) := hI
     have HJ : Hid (j ≤ 281474976710656 ∧ L ≤ j ∧ j < MC) := by unfold Hid; omega
     clear hI m1 m2 m3 ea hc eS hkS eg hs hk hkl hlt
     go_upto_region 11 with fail
     refine wp_region_held_drew (S := fun w' => w'.cell? ⟨B, 8, none⟩ = some (.slice (some ⟨gC, 0, none⟩) MC c8) ∧ w'.cell? ⟨gC, j, none⟩ = some (.slice (some ⟨gS, 0, none⟩) 1 kS) ∧ w'.cell? ⟨gS, 0, none⟩ = some (.int .i64 (-(j : Int))) ∧ w'.cell? ⟨gS, 1, none⟩ = some (.int .i64 (j : Int)) ∧ w'.cell? ⟨gS, 2, none⟩ = some (.int .i64 (-(j : Int)))) Tryz.mixd ⟨b8, r1, s0', s1', s2'⟩ (fun hHeld => ?_)
     simp only [t1, t2, List.length_nil, Nat.reduceAdd, t4, Array.replicate_zero, t6, List.append_toArray, List.nil_append, t8]
     refine hk 0 (.pointer (some ⟨B, 8, none⟩)) hHeld ?_
     refine hk 1 (.slice (some ⟨gC, 0, none⟩) MC c8) hHeld ?_
     refine hk 2 (.int .i64 (j : Int)) hHeld ?_
     refine hk 3 (.pointer (some ⟨gC, j, none⟩)) hHeld ?_
     refine hk 4 (.slice (some ⟨gS, 0, none⟩) 1 kS) hHeld ?_
     refine hk 5 (.int .i64 1) hHeld ?_
     refine hk 6 (.bool false) hHeld ?_
     refine hk 7 (.bool false) hHeld ?_
     refine hk 8 (.pointer (some ⟨B, 8, none⟩)) hHeld ?_
     refine hk 9 (.slice (some ⟨gC, 0, none⟩) MC c8) hHeld ?_
     refine hk 10 (.int .i64 (j : Int)) hHeld ?_
     refine hk 11 (.pointer (some ⟨gC, j, none⟩)) hHeld ?_
     refine hk 12 (.slice (some ⟨gS, 0, none⟩) 1 kS) hHeld ?_
     refine hk 13 (.pointer (some ⟨gS, 0, none⟩)) hHeld ?_
     refine hk 14 (.agg #[.int .i64 (-(j : Int)), .int .i64 (j : Int), .int .i64 (-(j : Int))]) hHeld ?_
     refine hk 15 (.int .i64 (j : Int)) hHeld ?_
     simp only [Act.put, s1, s2, s3]
     refine rd 16 fun Kq hK => ?_
     go_simp
     refine (wiM_any j HJ.out.1 _).mono ?_
     rintro e w1 ⟨rfl, hK1⟩
     have HI1 : Hid (KI w x B C lv xv lo O w1) := (HI.out.kept (Keeps.refl _ wr).drew).kept hK1
     refine hK.out _ _ ⟨cell_kept (w := wr.drew) b8 hK1 fun e => e, cell_kept (w := wr.drew) r1 hK1 fun e => e, cell_kept (w := wr.drew) s0' hK1 fun e => e, cell_kept (w := wr.drew) s1' hK1 fun e => e, cell_kept (w := wr.drew) s2' hK1 fun e => e⟩ (fun hHeld => ?_)
     simp only [Act.put, s1, s2, s3]
     refine hk 17 (.bool false) hHeld ?_
     refine hk 18 (.bool false) hHeld ?_
     simp only [Act.put, s1, s2, s3]
     refine wpAnyH_done (by kernel_rfl) ?_ _
     clear hHeld hK hK1 b8 r1 s0' s1' s2'
     go_wp2
     go_roundw
     case rel => exact ⟨j + 1, by have := HJ.out.2.1; omega, by have := HJ.out.2.2; omega, by go_num, HI1.out⟩
     case measure => have := HJ.out.2.2; simp [intOf]; omega
    ·
     have hkM : MC = j := by omega
     subst hkM
     have hjz : ¬ (MC : Int) < MC := by omega
     have HI2 : Hid (KI w x B C lv xv lo O wr) := hI
     clear hI hk hlt hkl
     go_wp2
     clear b8 hjz
     go_loopw [7] (fun i wr => ∃ j : Nat, j ≤ L ∧ i = .int .i64 j ∧ KI w x B C lv xv lo O wr) (fun i _ => L - (intOf i).toNat)
     case atStart => exact ⟨0, by omega, rfl, HI2.out⟩
     case round =>
      obtain ⟨j, hj, rfl, hI⟩ := hrel
      clear HI2
      have y4 := hI.xc HX.out.2 (i := 4) rfl
      have HI : Hid (KI w x B C lv xv lo O wr) := hI
      by_cases hlt : j < L
      ·
       have hjz : (j : Int) < L := by omega
       obtain ⟨X, hX⟩ : ∃ X, x.cs[j]? = some X := ⟨_, List.getElem?_eq_getElem (by have := HL.out; omega)⟩
       obtain ⟨g0, o0, ea, hc⟩ := hI.ok.cseg.at hX
       have q0 := hc 0 _ rfl
       rw [Nat.mul_one, Nat.add_zero] at q0
       have hXo := hI.ok.cok X (List.mem_of_getElem? hX)
       have hXb := HB.out.ws X (List.mem_of_getElem? hX)
       obtain ⟨m1, m2, m3⟩ := HP.out.1.c1 j X (by have := HL.out; omega) hX
       obtain ⟨gW, ea9, _, hRw⟩ := at_cell (hI.fam.own 0 2) m2 (by rw [HN.out.2.2.1]; exact HE.out.2.2.1) (by simp)
       obtain ⟨dR, kR, eR, hkR, hkR2⟩ := hI.fam.form 1 j
       rw [m3.1] at eR hkR
       have hnR : ∃ G, dR = some ⟨G, 0, none⟩ ∧ RowM eWin wM X.ws G wr := by
        have hmk := m3.2.2 X.ws.length (Nat.le_refl _) (by omega)
        obtain ⟨G, hG, _, _⟩ := at_cell (hI.fam.own 1 j) hmk (by rw [m3.1]; exact eR) (by simp [wM])
        refine ⟨G, hG, fun k y hy c v hv => ?_, fun k h1 h2 c v hv => ?_⟩
        ·
         obtain ⟨G', hG', _, hcc⟩ := at_cell (hI.fam.own 1 j) (m3.2.1 k y hy) (by rw [m3.1]; exact eR) (by simp [eWin, Win.vs])
         rw [hG] at hG'; cases hG'; exact hcc c v hv
        ·
         obtain ⟨G', hG', _, hcc⟩ := at_cell (hI.fam.own 1 j) (m3.2.2 k h1 h2) (by rw [m3.1]; exact eR) (by simp [wM])
         rw [hG] at hG'; cases hG'; exact hcc c v hv
       obtain ⟨G, hGd, hRow⟩ := hnR
       subst hGd
       have hr1 : wr.cell? ⟨gW, j * 1 + 0, none⟩ = some (O 1 j).u := hRw 0 _ rfl
       rw [Nat.mul_one, Nat.add_zero, eR] at hr1
       obtain ⟨XL, hXL⟩ : ∃ L, X.ws.length = L := ⟨_, rfl⟩
       obtain ⟨M, hM⟩ : ∃ M, XL + 24 = M := ⟨_, rfl⟩
       rw [hXL, hM] at hr1 hkR
       rw [hXL] at q0 hXb
       rw [ea] at y4
       have b9 := hI.lc HX.out.1 (i := 9) rfl
       rw [ea9] at b9
       have HXw : Hid (X.ws.length = XL ∧ XL + 24 = M ∧ RowM eWin wM X.ws G wr ∧ SegA Win.vs 3 wr X.a X.ws) := ⟨hXL, hM, hRow, hXo.seg⟩
       have HC : Hid (wr.cell? ⟨B, 9, none⟩ = some (.slice (some ⟨gW, 0, none⟩) L c9) ∧ wr.cell? ⟨gW, j, none⟩ = some (.slice (some ⟨G, 0, none⟩) M kR) ∧ wr.cell? ⟨C, 4, none⟩ = some (.slice (some ⟨g0, o0, none⟩) L x.cc) ∧ wr.cell? ⟨g0, o0 + j, none⟩ = some (.slice X.a XL X.c)) := ⟨b9, hr1, y4, q0⟩
       have v1 : (M : Int) ≤ kR := by omega
       have v2 : (XL : Int) ≤ X.c := by have := hXo.len; omega
       have v3 : (XL : Int) ≤ 140737488351232 := by omega
       have v4 : (M : Int) ≤ 140737488351256 := by omega
       clear hI hX hc ea hXo hXb m1 m2 m3 hRw eR hkR hkR2 hRow hXL hM hj ea9
       go_wp2
       clear b9 hr1 y4 q0
       obtain ⟨wo, hwo⟩ : ∃ wo, wo = wr := ⟨_, rfl⟩
       subst hwo
       go_loopw [8] (fun i wq => ∃ k : Nat, k ≤ M ∧ i = .int .i64 k ∧ KF wo wq) (fun i _ => M - (intOf i).toNat)
       case atStart => exact ⟨0, by omega, rfl, Keeps.refl _ _⟩
       case round =>
        obtain ⟨k, hk, rfl, hK⟩ := hrel
        by_cases hkm : k < M
        ·
         have hkz : (k : Int) < M := by omega
         have r1 := cell_kept HC.out.1 hK fun h => h
         have r2 := cell_kept HC.out.2.1 hK fun h => h
         have HK : Hid (KF wo wr) := hK
         have HJ : Hid (k ≤ 281474976710656) := by unfold Hid; omega
         by_cases hl : k < XL
         ·
          have hjl : (k : Int) < XL := by omega
          obtain ⟨y, hy⟩ : ∃ y, X.ws[k]? = some y := ⟨_, List.getElem?_eq_getElem (by have := HXw.out.1; omega)⟩
          have hg1 := HXw.out.2.2.1.1 k y hy
          obtain ⟨g2, o2, ha2, hg2⟩ := HXw.out.2.2.2.at hy
          obtain ⟨p, u, t⟩ := y
          have HY : Hid (∀ c v, (eWin.vs ⟨p, u, t⟩)[c]? = some v → wo.cell? ⟨G, k * 3 + c, none⟩ = some v) := hg1
          have HY2 : Hid (∀ c v, (eWin.vs ⟨p, u, t⟩)[c]? = some v → wo.cell? ⟨g2, o2 + k * 3 + c, none⟩ = some v) := hg2
          have HA : Hid (X.a = some ⟨g2, o2, none⟩) := ha2
          clear hy hg1 hg2 hK ha2 hkm hl hk
          go_wp2_with fail
          refine (wiM_any k HJ.out _).mono ?_
          rintro e w1 ⟨rfl, hK1⟩
          clear r1 r2
          have hK0 : KF wo w1 := HK.out.trans hK1 fun _ _ h => h
          obtain ⟨D, hD⟩ : ∃ D, D = w1.heap.size := ⟨_, rfl⟩
          obtain ⟨V1, hV1⟩ : ∃ V1, V1 = w1.alloc (.cells #[.int .i64 (-(k : Int)), .int .i64 (k : Int), .int .i64 (-(k : Int))] 44) := ⟨_, rfl⟩
          have kV1 : KF wo V1 := by rw [hV1]; exact hK0.alloc _
          have hBD : Blk V1 D [.int .i64 (-(k : Int)), .int .i64 (k : Int), .int .i64 (-(k : Int))] 44 := by rw [hV1, hD]; exact Blk.new _ _ _
          have c4' := cell_kept HC.out.2.2.1 kV1 fun h => h
          have q0' := cell_kept HC.out.2.2.2 kV1 fun h => h
          rw [HA.out] at q0'
          have x0 := cell_kept (HY2.out 0 _ rfl) kV1 fun h => h
          have d0' := hBD.cell (i := 0) rfl
          have f0' := hBD.frozen 0
          have x1 := cell_kept (HY2.out 1 _ rfl) kV1 fun h => h
          have d1' := hBD.cell (i := 1) rfl
          have f1' := hBD.frozen 1
          have x2 := cell_kept (HY2.out 2 _ rfl) kV1 fun h => h
          have d2' := hBD.cell (i := 2) rfl
          have f2' := hBD.frozen 2
          rw [Nat.add_zero] at x0
          obtain ⟨V2, hV2⟩ : ∃ V2, V2 = (((V1.setCell ⟨D, 0, none⟩ (.int .i64 p)).setCell ⟨D, 1, none⟩ (.int .i64 u)).setCell ⟨D, 2, none⟩ (.int .i64 t)) := ⟨_, rfl⟩
          have kk0 := Keeps.refl (fun k => k = D) V1
          have kk1 := kk0.setCell ⟨D, 0, none⟩ (.int .i64 p) fun _ => rfl
          have kk2 := kk1.setCell ⟨D, 1, none⟩ (.int .i64 u) fun _ => rfl
          have kk3 := kk2.setCell ⟨D, 2, none⟩ (.int .i64 t) fun _ => rfl
          have bb3 := ((hBD.setCell 0 (.int .i64 p)).setCell 1 (.int .i64 u)).setCell 2 (.int .i64 t)
          rw [← hV2] at kk3 bb3
          have kV2 : Keeps (fun k => k = D) wo V2 := (kV1.mono fun _ _ h => h.elim).trans kk3 fun _ _ h => h
          have kF : KF wo V2 := kV2.mono fun b hb e => by have := hK0.size; omega
          have r1 := cell_kept HC.out.1 kF fun h => h
          have r2 := cell_kept HC.out.2.1 kF fun h => h
          have y0 := cell_kept (HY.out 0 _ rfl) kF fun h => h
          have y1 := cell_kept (HY.out 1 _ rfl) kF fun h => h
          have y2 := cell_kept (HY.out 2 _ rfl) kF fun h => h
          rw [Nat.add_zero] at y0
          have z0 := bb3.cell (i := 0) rfl
          have z1 := bb3.cell (i := 1) rfl
          have z2 := bb3.cell (i := 2) rfl
          have HNN : Hid (KF wo V2) := kF
          clear hK1 hK0 kV1 hBD kk0 kk1 kk2 kk3 bb3 kV2 kF
          go_upto_region 20 with fail
          rw [← hV1, ← hD]
          clear hV1 hD
          go_upto_region 22 with fail
          rw [← hV2]
          clear hV2 c4' q0' x0 d0' f0' x1 d1' f1' x2 d2' f2'
          go_quiet (fail)
          go_wp2
          clear r1 r2 y0 y1 y2 z0 z1 z2
          go_roundw
          case rel => exact ⟨k + 1, by omega, by go_num, HNN.out.drewN _⟩
          case measure => simp [intOf]; omega
         ·
          have hjl : ¬ (k : Int) < XL := by omega
          have hg1 := HXw.out.2.2.1.2 k (by have := HXw.out.1; omega) (by have := HXw.out; omega)
          have HY : Hid (∀ c v, (wM k)[c]? = some v → wo.cell? ⟨G, k * 3 + c, none⟩ = some v) := hg1
          clear hg1 hK hkm hl hk
          go_wp2_with fail
          refine (wiM_any k HJ.out _).mono ?_
          rintro e w1 ⟨rfl, hK1⟩
          clear r1 r2
          have hK0 : KF wo w1 := HK.out.trans hK1 fun _ _ h => h
          obtain ⟨D, hD⟩ : ∃ D, D = w1.heap.size := ⟨_, rfl⟩
          obtain ⟨V1, hV1⟩ : ∃ V1, V1 = w1.alloc (.cells #[.int .i64 (-(k : Int)), .int .i64 (k : Int), .int .i64 (-(k : Int))] 44) := ⟨_, rfl⟩
          have kF : KF wo V1 := by rw [hV1]; exact hK0.alloc _
          have hBD : Blk V1 D [.int .i64 (-(k : Int)), .int .i64 (k : Int), .int .i64 (-(k : Int))] 44 := by rw [hV1, hD]; exact Blk.new _ _ _
          have c4' := cell_kept HC.out.2.2.1 kF fun h => h
          have q0' := cell_kept HC.out.2.2.2 kF fun h => h
          have r1 := cell_kept HC.out.1 kF fun h => h
          have r2 := cell_kept HC.out.2.1 kF fun h => h
          have y0 := cell_kept (HY.out 0 _ rfl) kF fun h => h
          have y1 := cell_kept (HY.out 1 _ rfl) kF fun h => h
          have y2 := cell_kept (HY.out 2 _ rfl) kF fun h => h
          rw [Nat.add_zero] at y0
          have z0 := hBD.cell (i := 0) rfl
          have z1 := hBD.cell (i := 1) rfl
          have z2 := hBD.cell (i := 2) rfl
          have HNN : Hid (KF wo V1) := kF
          clear hK1 hK0 hBD kF
          go_upto_region 20 with fail
          rw [← hV1, ← hD]
          clear hV1 hD
          go_upto_region 22 with fail
          clear c4' q0'
          go_quiet (fail)
          go_wp2
          clear r1 r2 y0 y1 y2 z0 z1 z2
          go_roundw
          case rel => exact ⟨k + 1, by omega, by go_num, HNN.out.drewN _⟩
          case measure => simp [intOf]; omega
        ·
         have hkM : M = k := by omega
         subst hkM
         have hkz : ¬ (M : Int) < M := by omega
         have r1 := cell_kept HC.out.1 hK fun h => h
         have r2 := cell_kept HC.out.2.1 hK fun h => h
         have HI1 : Hid (KI w x B C lv xv lo O wr) := HI.out.kept hK
         clear hK hk hkm
         go_wp2
         clear r1 r2
         go_roundw
         case rel => exact ⟨j + 1, by omega, by go_num, HI1.out⟩
         case measure => simp [intOf]; omega
      ·
       have hjz : ¬ (j : Int) < L := by omega
       have y5 := hI.xc HX.out.2 (i := 5) rfl
       have HI3 : Hid (KI w x B C lv xv lo O wr) := hI
       clear hI hlt hj HI
       go_wp2
       clear y4 y5 hjz
       go_loopw [10] (fun i wr => ∃ j : Nat, K ≤ j ∧ j ≤ MP ∧ i = .int .i64 j ∧ KI w x B C lv xv lo O wr) (fun i _ => MP - (intOf i).toNat)
       case atStart => exact ⟨K, Nat.le_refl _, by have := HL.out; omega, rfl, HI3.out⟩
       case round =>
        obtain ⟨j, hkl, hk, rfl, hI⟩ := hrel
        clear HI3
        have b10 := hI.lc HX.out.1 (i := 10) rfl
        by_cases hlt : j < MP
        ·
         have hjz : (j : Int) < MP := by omega
         have m := HP.out.1.d3 j (by have := HL.out; omega) (by have := HL.out; omega)
         obtain ⟨gP, ea, _, hc⟩ := at_cell (hI.fam.own 0 3) m (by rw [HN.out.2.2.2.1]; exact HE.out.2.2.2.1) (by simp [qM])
         replace hc : ∀ k v, (qM j)[k]? = some v → wr.cell? ⟨gP, j * 8 + k, none⟩ = some v := hc
         rw [ea] at b10
         have p0 := hc 0 _ rfl
         rw [Nat.add_zero] at p0
         have p1 := hc 1 _ rfl
         have p2 := hc 2 _ rfl
         have p3 := hc 3 _ rfl
         have p4 := hc 4 _ rfl
         have p5 := hc 5 _ rfl
         have p6 := hc 6 _ rfl
         have p7 := hc 7 _ rfl
         obtain ⟨D, hD⟩ : ∃ D, D = wr.heap.size := ⟨_, rfl⟩
         obtain ⟨V, hV⟩ : ∃ V, V = wr.alloc (.cells #[.string { data := #[] }, .int .i64 (-1000 - (j : Int)), .int .i64 0, .int .i64 0, .int .i64 0, .int .i64 0, .slice none 0 0, .slice none 0 0] 41) := ⟨_, rfl⟩
         have hBD : Blk V D [.string { data := #[] }, .int .i64 (-1000 - (j : Int)), .int .i64 0, .int .i64 0, .int .i64 0, .int .i64 0, .slice none 0 0, .slice none 0 0] 41 := by rw [hV, hD]; exact Blk.new _ _ _
         have HI1 : Hid (KI w x B C lv xv lo O V) := by rw [hV]; exact hI.kept ((Keeps.refl _ _).alloc _)
         have d0 := hBD.cell (i := 0) rfl
         have d1 := hBD.cell (i := 1) rfl
         have d6 := hBD.cell (i := 6) rfl
         have d7 := hBD.cell (i := 7) rfl
         have HKL : Hid (K ≤ j) := hkl
         clear hI m hc ea hBD hk hlt hkl
         go_upto_region 28 with fail
         rw [← hV, ← hD]
         clear hV hD b10 p0 p1 p2 p3 p4 p5 p6 p7
         go_wp2
         clear d0 d1 d6 d7
         go_roundw
         case rel => exact ⟨j + 1, by have := HKL.out; omega, by omega, by go_num, HI1.out⟩
         case measure => simp [intOf]; omega
        ·
         have hkM : MP = j := by omega
         subst hkM
         have hjz : ¬ (MP : Int) < MP := by omega
         have HI4 : Hid (KI w x B C lv xv lo O wr) := hI
         clear hI hk hlt hkl
         go_wp2
         clear b10 hjz
         go_loopw [12] (fun i wr => ∃ j : Nat, j ≤ K ∧ i = .int .i64 j ∧ KI w x B C lv xv lo O wr) (fun i _ => K - (intOf i).toNat)
         case atStart => exact ⟨0, by omega, rfl, HI4.out⟩
         case round =>
          obtain ⟨j, hk, rfl, hI⟩ := hrel
          clear HI4
          have b5 := hI.xc HX.out.2 (i := 5) rfl
          have HI : Hid (KI w x B C lv xv lo O wr) := hI
          by_cases hlt : j < K
          ·
           have hjz : (j : Int) < K := by omega
           obtain ⟨P, hPj⟩ : ∃ P, x.ps[j]? = some P := ⟨_, List.getElem?_eq_getElem (by have := HL.out; omega)⟩
           obtain ⟨g2, o2, ea, hc⟩ := hI.ok.pseg.at hPj
           have hPo := hI.ok.pok P (List.mem_of_getElem? hPj)
           have hRb := HB.out.rs P (List.mem_of_getElem? hPj)
           have hQb := HB.out.qs P (List.mem_of_getElem? hPj)
           obtain ⟨m3, m4, m5, m6, m7⟩ := HP.out.1.c3 j P (by have := HL.out; omega) hPj
           obtain ⟨gR, ea11, _, hR⟩ := at_cell (hI.fam.own 0 4) m4 (by rw [HN.out.2.2.2.2.1]; exact HE.out.2.2.2.2.1) (by simp)
           obtain ⟨gQ, ea12, _, hQ⟩ := at_cell (hI.fam.own 0 5) m5 (by rw [HN.out.2.2.2.2.2]; exact HE.out.2.2.2.2.2) (by simp)
           obtain ⟨dR, kR, eR, hkR, hkR2⟩ := hI.fam.form 2 j
           obtain ⟨dQ, kQ, eQ, hkQ, hkQ2⟩ := hI.fam.form 3 j
           rw [m6.1] at eR hkR
           rw [m7.1] at eQ hkQ
           have hnR : ∃ G, dR = some ⟨G, 0, none⟩ ∧ RowM eRgn rM P.rs G wr := by
            have hmk := m6.2.2 P.rs.length (Nat.le_refl _) (by omega)
            obtain ⟨G, hG, _, _⟩ := at_cell (hI.fam.own 2 j) hmk (by rw [m6.1]; exact eR) (by simp [rM])
            refine ⟨G, hG, fun k y hy c v hv => ?_, fun k h1 h2 c v hv => ?_⟩
            ·
             obtain ⟨G', hG', _, hcc⟩ := at_cell (hI.fam.own 2 j) (m6.2.1 k y hy) (by rw [m6.1]; exact eR) (by simp [eRgn, Rgn.vs])
             rw [hG] at hG'; cases hG'; exact hcc c v hv
            ·
             obtain ⟨G', hG', _, hcc⟩ := at_cell (hI.fam.own 2 j) (m6.2.2 k h1 h2) (by rw [m6.1]; exact eR) (by simp [rM])
             rw [hG] at hG'; cases hG'; exact hcc c v hv
           have hnQ : ∃ G, dQ = some ⟨G, 0, none⟩ ∧ RowM ePrt pM P.ps G wr := by
            have hmk := m7.2.2 P.ps.length (Nat.le_refl _) (by omega)
            obtain ⟨G, hG, _, _⟩ := at_cell (hI.fam.own 3 j) hmk (by rw [m7.1]; exact eQ) (by simp [pM])
            refine ⟨G, hG, fun k y hy c v hv => ?_, fun k h1 h2 c v hv => ?_⟩
            ·
             obtain ⟨G', hG', _, hcc⟩ := at_cell (hI.fam.own 3 j) (m7.2.1 k y hy) (by rw [m7.1]; exact eQ) (by simp [ePrt, Prt.vs])
             rw [hG] at hG'; cases hG'; exact hcc c v hv
            ·
             obtain ⟨G', hG', _, hcc⟩ := at_cell (hI.fam.own 3 j) (m7.2.2 k h1 h2) (by rw [m7.1]; exact eQ) (by simp [pM])
             rw [hG] at hG'; cases hG'; exact hcc c v hv
           obtain ⟨G, hGd, hRow1⟩ := hnR
           obtain ⟨G2, hGd2, hRow2⟩ := hnQ
           subst hGd hGd2
           have hr1 : wr.cell? ⟨gR, j * 1 + 0, none⟩ = some (O 2 j).u := hR 0 _ rfl
           have hr2 : wr.cell? ⟨gQ, j * 1 + 0, none⟩ = some (O 3 j).u := hQ 0 _ rfl
           rw [Nat.mul_one, Nat.add_zero, eR] at hr1
           rw [Nat.mul_one, Nat.add_zero, eQ] at hr2
           obtain ⟨RL, hRL⟩ : ∃ L, P.rs.length = L := ⟨_, rfl⟩
           obtain ⟨QL, hQL⟩ : ∃ L, P.ps.length = L := ⟨_, rfl⟩
           have p0 := hc 0 _ rfl
           rw [Nat.add_zero] at p0
           have p1 := hc 1 _ rfl
           have p2 := hc 2 _ rfl
           have p3 := hc 3 _ rfl
           have p4 := hc 4 _ rfl
           have p5 := hc 5 _ rfl
           have p6 := hc 6 _ rfl
           have p7 := hc 7 _ rfl
           rw [hRL] at p6
           rw [hQL] at p7
           rw [ea] at b5
           subst ea11 ea12
           have HIN : Hid (Calls Tryz.prog 25 #[.agg #[.int .i64 f0, .int .i64 f1, .int .i64 f2, .int .i64 f3, .slice a4 n4 c4, .slice a5 n5 c5, .slice a6 n6 c6, .slice a7 MH c7, .slice a8 MC c8, .slice a9 L c9, .slice a10 MP c10, .slice (some ⟨gR, 0, none⟩) K c11, .slice (some ⟨gQ, 0, none⟩) K c12], .int .i64 j, .agg #[.string P.name, .int .i64 P.entry, .int .i64 P.action, .int .i64 P.restarts, .int .i64 P.inputs, .int .i64 P.outputs, .slice P.ra RL P.rc, .slice P.pa QL P.pc]] wr.drew (RetK (.bool true) wr.drew)) := by
            have := inner_any P j f0 f1 f2 f3 a4 a5 a6 a7 a8 a9 a10 n4 n5 n6 MH MC L MP c4 c5 c6 c7 c8 c9 c10 gR K c11 gQ K c12 G (P.rs.length + 24) kR G2 (P.ps.length + 24) kQ wr.drew (hPo.grown (Keeps.refl _ wr).drew) ⟨hlt, HT.out.1⟩ ⟨hlt, HT.out.2⟩ rfl rfl ⟨hkR, hkR2⟩ ⟨hkQ, hkQ2⟩ (by omega) (by omega) hr1 hr2 (hRow1.kept (Keeps.refl _ wr).drew) (hRow2.kept (Keeps.refl _ wr).drew) (by omega)
            unfold Par.v at this
            rw [hRL, hQL] at this
            exact this
           have hBL := hI.len
           rw [HX.out.1] at hBL
           clear hI hPj hc hPo hRb hQb m3 m4 m5 m6 m7 hR hQ eR hkR hkR2 eQ hkQ hkQ2 hRow1 hRow2 hr1 hr2 hRL hQL ea hk
           go_upto_region 33 with fail
           refine wp_region_held_drew (S := fun w' => Blk w' B [.int .i64 f0, .int .i64 f1, .int .i64 f2, .int .i64 f3, .slice a4 n4 c4, .slice a5 n5 c5, .slice a6 n6 c6, .slice a7 MH c7, .slice a8 MC c8, .slice a9 L c9, .slice a10 MP c10, .slice (some ⟨gR, 0, none⟩) K c11, .slice (some ⟨gQ, 0, none⟩) K c12] 30 ∧ w'.cell? ⟨C, 5, none⟩ = some (.slice (some ⟨g2, o2, none⟩) K x.pc) ∧ w'.cell? ⟨g2, o2 + j * 8, none⟩ = some (.string P.name) ∧ w'.cell? ⟨g2, o2 + j * 8 + 1, none⟩ = some (.int .i64 P.entry) ∧ w'.cell? ⟨g2, o2 + j * 8 + 2, none⟩ = some (.int .i64 P.action) ∧ w'.cell? ⟨g2, o2 + j * 8 + 3, none⟩ = some (.int .i64 P.restarts) ∧ w'.cell? ⟨g2, o2 + j * 8 + 4, none⟩ = some (.int .i64 P.inputs) ∧ w'.cell? ⟨g2, o2 + j * 8 + 5, none⟩ = some (.int .i64 P.outputs) ∧ w'.cell? ⟨g2, o2 + j * 8 + 6, none⟩ = some (.slice P.ra RL P.rc) ∧ w'.cell? ⟨g2, o2 + j * 8 + 7, none⟩ = some (.slice P.pa QL P.pc)) Tryz.mixd ⟨hBL.drew, b5, p0, p1, p2, p3, p4, p5, p6, p7⟩ (fun hHeld => ?_)
           simp only [t1, t2, List.length_nil, Nat.reduceAdd, t4, Array.replicate_zero, t6, List.append_toArray, List.nil_append, t8]
           refine hk 0 (.agg #[.int .i64 f0, .int .i64 f1, .int .i64 f2, .int .i64 f3, .slice a4 n4 c4, .slice a5 n5 c5, .slice a6 n6 c6, .slice a7 MH c7, .slice a8 MC c8, .slice a9 L c9, .slice a10 MP c10, .slice (some ⟨gR, 0, none⟩) K c11, .slice (some ⟨gQ, 0, none⟩) K c12]) hHeld ?_ (hr := by intro w hS; exact exec_load_row 30 (.tmp 2) rfl B rfl 30 _ (0, 0) _ hS.1 Tryz.underlying30 rfl Tryz.size30)
           refine hk 1 (.int .i64 (j : Int)) hHeld ?_
           refine hk 2 (.pointer (some ⟨C, 5, none⟩)) hHeld ?_
           refine hk 3 (.slice (some ⟨g2, o2, none⟩) K x.pc) hHeld ?_
           refine hk 4 (.int .i64 (j : Int)) hHeld ?_
           refine hk 5 (.pointer (some ⟨g2, o2 + j * 8, none⟩)) hHeld ?_
           refine hk 6 (.agg #[.string P.name, .int .i64 P.entry, .int .i64 P.action, .int .i64 P.restarts, .int .i64 P.inputs, .int .i64 P.outputs, .slice P.ra RL P.rc, .slice P.pa QL P.pc]) hHeld ?_
           simp only [Act.put, s1, s2, s3]
           refine rd 7 fun Kq hK => ?_
           go_simp
           refine HIN.out.mono ?_
           rintro e w1 ⟨rfl, hK1⟩
           have HI1 : Hid (KI w x B C lv xv lo O w1) := (HI.out.kept (Keeps.refl _ wr).drew).kept hK1
           refine hK.out _ _ ⟨hBL.drew.kept hK1 fun e => e, cell_kept (w := wr.drew) b5 hK1 fun e => e, cell_kept (w := wr.drew) p0 hK1 fun e => e, cell_kept (w := wr.drew) p1 hK1 fun e => e, cell_kept (w := wr.drew) p2 hK1 fun e => e, cell_kept (w := wr.drew) p3 hK1 fun e => e, cell_kept (w := wr.drew) p4 hK1 fun e => e, cell_kept (w := wr.drew) p5 hK1 fun e => e, cell_kept (w := wr.drew) p6 hK1 fun e => e, cell_kept (w := wr.drew) p7 hK1 fun e => e⟩ (fun hHeld => ?_)
           simp only [Act.put, s1, s2, s3]
           refine hk 8 (.bool false) hHeld ?_
           simp only [Act.put, s1, s2, s3]
           refine wpAnyH_done (by kernel_rfl) ?_ _
           clear hHeld hK hK1 b5 p0 p1 p2 p3 p4 p5 p6 p7 hBL HIN
           go_wp2
           go_roundw
           case rel => exact ⟨j + 1, by omega, by go_num, HI1.out⟩
           case measure => simp [intOf]; omega
          ·
           have hjz : ¬ (j : Int) < K := by omega
           have HI5 : Hid (KI w x B C lv xv lo O wr) := hI
           clear hI
           clear hlt hk HI
           go_wp2
           go_ret
           exact ⟨rfl, HI5.out.keeps⟩
end Go.Proofs.YtlnmlbkeemahcaaGreat
