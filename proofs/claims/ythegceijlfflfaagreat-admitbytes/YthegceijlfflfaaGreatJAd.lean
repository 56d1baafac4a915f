import Derived.Test.YthegceijlfflfaaGreatCk
import Derived.Test.YthegceijlfflfaaGreatJPu
import Derived.Test.YthegceijlfflfaaGreatJOa
import Derived.Test.YthegceijlfflfaaGreatJSb
namespace Go.Proofs.YthegceijlfflfaaGreat
open Go.RowKit
set_option linter.unusedVariables false
set_option linter.unusedSimpArgs false
set_option maxRecDepth 6000
def Core.b (X : Core) : Core := ⟨none, 0, X.ws⟩
def Par.b (P : Par) : Par := ⟨P.name, P.entry, P.action, P.restarts, P.inputs, P.outputs, none, 0, P.rs, none, 0, P.ps⟩
def Cfg.b (x : Cfg) : Cfg := ⟨x.frames, x.major, x.kernel, x.room, none, 0, x.cs.map Core.b, none, 0, x.ps.map Par.b, none, 0, x.hs⟩
theorem Cfg.b_pure {x y : Cfg} (h : x.pure = y.pure) : x.b = y.b := by
 have e1 : ∀ l : List Core, l.map Core.b = (l.map Core.ws).map fun ws => (⟨none, 0, ws⟩ : Core) := fun l => by rw [List.map_map]; rfl
 have e2 : ∀ l : List Par, l.map Par.b = (l.map Par.pure).map fun P => (⟨P.name, P.entry, P.action, P.restarts, P.inputs, P.outputs, none, 0, P.rs, none, 0, P.ps⟩ : Par) := fun l => by rw [List.map_map]; rfl
 obtain ⟨n1, n2, n3, n4, ca1, cc1, cs, pa1, pc1, ps, ha1, kc1, hs⟩ := x
 obtain ⟨n1', n2', n3', n4', ca2, cc2, cs', pa2, pc2, ps', ha2, kc2, hs'⟩ := y
 simp only [Cfg.pure, PCfg.mk.injEq] at h
 obtain ⟨rfl, rfl, rfl, rfl, hcs, hps, rfl⟩ := h
 simp only [Cfg.b, e1, e2, hcs, hps]
theorem endsL_b (d : Bool) (n : Int) (ps : List Par) (i : Nat) : endsL d n (ps.map Par.b) i = endsL d n ps i := by
 unfold endsL
 simp only [List.getElem?_map]
 congr 1
 funext k
 cases ps[k]? <;> rfl
theorem dstsOf_b (x : Cfg) (n : Nat) : dstsOf x.b n = dstsOf x n := by
 simp only [dstsOf, Cfg.b, endsL_b, List.length_map]
theorem chSz_b (x : Cfg) (n : Nat) : chSz x.b n = chSz x n := by
 unfold chSz
 rw [dstsOf_b]
 rfl
theorem chAt_b (x : Cfg) (c : Int) (n : Nat) : chAt x.b c n = chAt x c n := by
 induction n with
 | zero => rfl
 | succ n ih => simp only [chAt, ih, chSz_b]
theorem rtSz_b (x : Cfg) (i : Nat) : rtSz x.b i = rtSz x i := by
 simp only [rtSz, Cfg.b, List.getElem?_map]
 cases x.ps[i]? <;> rfl
theorem rtAt_b (x : Cfg) (c : Int) (n : Nat) : rtAt x.b c n = rtAt x c n := by
 induction n with
 | zero => rfl
 | succ n ih => simp only [rtAt, ih, rtSz_b]
theorem len_b (x : Cfg) : x.b.ps.length = x.ps.length ∧ x.b.cs.length = x.cs.length := ⟨List.length_map .., List.length_map ..⟩
theorem endW_b (x : Cfg) : x.b.endW = x.endW := by
 have e1 : chB x.b (16 * x.kernel) = chB x (16 * x.kernel) := by unfold chB; rw [(len_b x).1]
 have e2 : chE x.b (16 * x.kernel) = chE x (16 * x.kernel) := by unfold chE; rw [chAt_b, e1]; rfl
 have e3 : rtB x.b (16 * x.kernel) = rtB x (16 * x.kernel) := by unfold rtB; rw [e2]
 show rtAt x.b (rtB x.b (16 * x.kernel)) x.b.ps.length / 16 = _
 rw [rtAt_b, e3, (len_b x).1]
 rfl
theorem mayB_b (x : Cfg) : x.b.mayB = x.mayB := by
 have e1 : (chnB (x.ps.map Par.b) x.hs) = chnB x.ps x.hs := by
  funext n
  unfold chnB
  cases x.hs[n]? with
  | none => rfl
  | some h => simp only [joined, endsL_b, List.length_map]
 simp only [Cfg.mayB, Cfg.b, List.length_map, List.all_map, e1]
 rfl
theorem kerB_b (x : Cfg) : x.b.kerB = x.kerB := by
 have e1 : x.b.hitB = x.hitB := by simp only [Cfg.hitB, Cfg.b, List.any_map]; rfl
 have e2 : x.b.fitB = x.fitB := by unfold Cfg.fitB; rw [mayB_b, endW_b]; rfl
 unfold Cfg.kerB
 rw [e1, e2]
 rfl
theorem rgnsF_b (x : Cfg) (p : Nat) (P : Par) : rgnsF x.b p P.b = rgnsF x p P := by
 unfold rgnsF
 congr 2
 funext i
 congr 1
 show rgnF' x.b p P.b i = _
 unfold rgnF'
 show (match P.rs[i]? with | some r => rgnF x.b p P.b i r | none => []) = _
 cases P.rs[i]? with
 | none => rfl
 | some r => simp only [rgnF, Cfg.b, ← List.map_take, List.any_map]; rfl
theorem prtsF_b (x : Cfg) (p : Nat) (P : Par) : prtsF x.b p P.b = prtsF x p P := rfl
theorem parF_b (x : Cfg) (p : Nat) (P : Par) : parF x.b p P.b = parF x p P := by
 unfold parF
 rw [rgnsF_b, prtsF_b]
 have e : (x.b.ps.take p).any (fun Q => Q.name.toList == P.b.name.toList) = (x.ps.take p).any (fun Q => Q.name.toList == P.name.toList) := by
  simp only [Cfg.b, ← List.map_take, List.any_map]; rfl
 rw [e]
 rfl
theorem parsF_b (x : Cfg) : parsF x.b = parsF x := by
 unfold parsF
 rw [(len_b x).1]
 congr 2
 funext p
 congr 1
 simp only [parF', Cfg.b, List.getElem?_map]
 cases x.ps[p]? with
 | none => rfl
 | some P => exact parF_b x p P
theorem cntQ_b (q : Prt) (ps : List Par) : cntQ q (ps.map Par.b) = cntQ q ps := by
 unfold cntQ
 rw [List.flatMap_map]
 rfl
theorem chnsF_b (x : Cfg) : chnsF x.b = chnsF x := by
 unfold chnsF
 show firstF ((List.range x.hs.length).map fun p => firstF (chnF' x.b p)) = _
 congr 2
 funext p
 congr 1
 unfold chnF'
 show (match x.hs[p]? with | some h => chnF x.b p h | none => []) = _
 cases x.hs[p]? with
 | none => rfl
 | some h => simp only [chnF, Cfg.b, cntQ_b]
theorem winsF_b (x : Cfg) (p : Nat) (X : Core) : winsF x.b p X.b = winsF x p X := by
 unfold winsF
 show firstF ((List.range X.ws.length).map fun i => firstF (winF' x.b p X.b i)) = _
 congr 2
 funext i
 congr 1
 unfold winF'
 show (match X.ws[i]? with | some y => winF x.b p i y | none => []) = _
 cases X.ws[i]? with
 | none => rfl
 | some y =>
  have e : hasW y.p (x.b.cs.take p) = hasW y.p (x.cs.take p) := by
   simp only [hasW, Cfg.b, ← List.map_take, List.any_map]; rfl
  simp only [winF]
  rw [e, (len_b x).1]
theorem corsF_b (x : Cfg) : corsF x.b = corsF x := by
 unfold corsF
 rw [(len_b x).2]
 congr 2
 funext p
 congr 1
 simp only [corF', Cfg.b, List.getElem?_map]
 cases x.cs[p]? with
 | none => rfl
 | some X =>
  show corF x.b p X.b = corF x p X
  unfold corF
  rw [winsF_b]
  rfl
theorem chk_b (x : Cfg) : chk x.b = chk x := by
 unfold chk cfgF
 rw [parsF_b, chnsF_b, corsF_b, kerB_b, (len_b x).1, (len_b x).2]
 rfl
theorem chk_pure {x y : Cfg} (h : x.pure = y.pure) : chk x = chk y := by rw [← chk_b x, Cfg.b_pure h, chk_b]
end Go.Proofs.YthegceijlfflfaaGreat
namespace Go.Proofs.YthegceijlfflfaaGreat
open Go.RowKit
set_option linter.unusedVariables false
set_option linter.unusedSimpArgs false
set_option maxRecDepth 6000
theorem results_ctc {P : Program} {fn : Func} {p u p2 : Tmp} {ty ty2 : TypeId} (h : fn.results = #[.cell p ty, .tmp u, .cell p2 ty2]) (tmps : Array Value) (w : World) (g g2 : Nat) (t t2 : TypeId) (cs cs2 : Array Value) (d d2 : TypeDesc)
  (hp : tmps.getD p undef = .pointer (some ⟨g, 0, none⟩)) (hg : w.heap[g]? = some (.cells cs t (0, 0))) (hp2 : tmps.getD p2 undef = .pointer (some ⟨g2, 0, none⟩)) (hg2 : w.heap[g2]? = some (.cells cs2 t2 (0, 0)))
  (hu : P.underlying ty = some d) (hd : (match d with | .struct _ | .array _ _ => true | _ => false) = true) (hi : (P.info? ty).map (·.size) = some cs.size)
  (hu2 : P.underlying ty2 = some d2) (hd2 : (match d2 with | .struct _ | .array _ _ => true | _ => false) = true) (hi2 : (P.info? ty2).map (·.size) = some cs2.size) :
  (results fn tmps).run P w = .ok (.tuple #[.agg cs, tmps.getD u undef, .agg cs2]) w := by
 have hp' : tmps[p]?.getD undef = .pointer (some ⟨g, 0, none⟩) := by simpa using hp
 have hp2' : tmps[p2]?.getD undef = .pointer (some ⟨g2, 0, none⟩) := by simpa using hp2
 simp [results, h, hp', hp2', asAddr, run_loadVar_row w g t ty cs (0, 0) d hg hu hd hi, run_loadVar_row w g2 t2 ty2 cs2 (0, 0) d2 hg2 hu2 hd2 hi2]
def AdmP (w : World) (B : List UInt8) (e : Ending) (w' : World) : Prop :=
 Keeps (fun _ => False) w w' ∧
 ((∃ y : Cfg, dec B = .ok y.pure ∧ y.In w' w'.heap.size ∧ (((chk y).n = 0 ∧ e = .returned (.tuple #[y.v, .int .i64 0, .agg #[.int .i64 0, .int .i64 0]])) ∨ ((chk y).n ≠ 0 ∧ e = .returned (.tuple #[.agg zCfg.toArray, .int .i64 (chk y).n, .agg #[.int .i64 (chk y).a, .int .i64 (chk y).b]])))) ∨
  (∃ (q : Nat) (k : Int), dec B = .error (q, k) ∧ e = .returned (.tuple #[.agg zCfg.toArray, .int .i64 424, .agg #[.int .i64 q, .int .i64 k]])))
set_option maxHeartbeats 4000000 in
theorem admit_any (B : List UInt8) (a : Option Addr) (cap : Nat) (w : World) (hs : Seg w a B) (hcap : B.length ≤ cap ∧ cap ≤ maxLen) (hB : B.length ≤ 16384) (hlt : B ≠ [] → ∀ y, a = some y → y.block < w.heap.size) :
  Calls Tryz.prog 7 #[.slice a B.length cap] w (AdmP w B) := by
 obtain ⟨L, hL⟩ : ∃ L, B.length = L := ⟨_, rfl⟩
 have HS : Hid (Seg w a B ∧ B.length = L ∧ (B ≠ [] → ∀ y, a = some y → y.block < w.heap.size) ∧ B.length ≤ 16384 ∧ L ≤ cap ∧ cap ≤ maxLen) := ⟨hs, hL, hlt, hB, by omega, hcap.2⟩
 rw [hL]
 clear hs hL hlt hB hcap
 go_enter Tryz.func7, Tryz.ntmps7
 go_wp2_with fail
 obtain ⟨C, hC⟩ : ∃ C, C = w.heap.size := ⟨_, rfl⟩
 obtain ⟨W, hW⟩ : ∃ W, W = (w.alloc (.cells #[.int .i64 0, .int .i64 0, .int .i64 0, .int .i64 0, .slice none 0 0, .slice none 0 0, .slice none 0 0] 26)).alloc (.cells #[.int .i64 0, .int .i64 0] 33) := ⟨_, rfl⟩
 have HW : Hid (Blk W C zCfg 26 ∧ Blk W (C + 1) [.int .i64 0, .int .i64 0] 33 ∧ Keeps (fun _ => False) w W ∧ C = w.heap.size) := by
  rw [hW, hC]
  refine ⟨(Blk.new w _ _).alloc _, ?_, ((Keeps.refl _ w).alloc _).alloc _, rfl⟩
  have := Blk.new (w.alloc (.cells #[.int .i64 0, .int .i64 0, .int .i64 0, .int .i64 0, .slice none 0 0, .slice none 0 0, .slice none 0 0] 26)) #[.int .i64 0, .int .i64 0] 33
  simpa using this
 rw [← hW, ← hC]
 clear hW hC
 have HR := decode_short B a cap W (HS.out.1.keptB HW.out.2.2.1 fun _ _ _ e => e) (by have := HS.out; omega) HS.out.2.2.2.1 (fun h1 y h2 => Nat.lt_of_lt_of_le (HS.out.2.2.1 h1 y h2) HW.out.2.2.1.size)
 rw [HS.out.2.1] at HR
 refine HR.mono ?_
 clear HR
 rintro e w1 ⟨hK1, ⟨hl, _⟩ | ⟨_, ⟨y, hd, rfl, hY⟩ | ⟨q, k, hd, rfl⟩⟩⟩
 ·
  exfalso; have := HS.out; omega
 ·
  obtain ⟨m1, m2, m3, m4, da, dc, ds, qa, qc, qs, ea, ec, es⟩ := y
  obtain ⟨Y, hYY⟩ : ∃ Y : Cfg, Y = ⟨m1, m2, m3, m4, da, dc, ds, qa, qc, qs, ea, ec, es⟩ := ⟨_, rfl⟩
  rw [← hYY] at hd hY ⊢
  obtain ⟨K1, hk1⟩ : ∃ L, ds.length = L := ⟨_, rfl⟩
  obtain ⟨K2, hk2⟩ : ∃ L, qs.length = L := ⟨_, rfl⟩
  obtain ⟨K3, hk3⟩ : ∃ L, es.length = L := ⟨_, rfl⟩
  have hyv : Y.v = .agg #[.int .i64 m1, .int .i64 m2, .int .i64 m3, .int .i64 m4, .slice da K1 dc, .slice qa K2 qc, .slice ea K3 ec] := by rw [hYY, ← hk1, ← hk2, ← hk3]
  rw [hyv]
  obtain ⟨W2, hW2⟩ : ∃ W2, W2 = w1.alloc (.cells #[.int .i64 m1, .int .i64 m2, .int .i64 m3, .int .i64 m4, .slice da K1 dc, .slice qa K2 qc, .slice ea K3 ec] 26) := ⟨_, rfl⟩
  obtain ⟨T, hT⟩ : ∃ T, T = w1.heap.size := ⟨_, rfl⟩
  have hKW2 : Keeps (fun _ => False) w1 W2 := by rw [hW2]; exact (Keeps.refl _ _).alloc _
  have hBT : Blk W2 T #[.int .i64 m1, .int .i64 m2, .int .i64 m3, .int .i64 m4, .slice da K1 dc, .slice qa K2 qc, .slice ea K3 ec].toList 26 := by rw [hW2, hT]; exact Blk.new _ _ _
  have hYi : Y.In W2 w1.heap.size := hY.in.below (hKW2.below (Nat.le_refl _) fun _ e => e.elim)
  have HC : Hid (Calls _ _ _ _ _) := Check_any Y W2 w1.heap.size hYi hKW2.size
  rw [hyv] at HC
  have hTC : C + 1 < T := by rw [hT]; exact Nat.lt_of_lt_of_le HW.out.2.1.lt hK1.size
  have H2 : Hid (Keeps (fun _ => False) W w1 ∧ Keeps (fun _ => False) w1 W2 ∧ dec B = .ok Y.pure ∧ Y.In W2 w1.heap.size ∧ Y.v = .agg #[.int .i64 m1, .int .i64 m2, .int .i64 m3, .int .i64 m4, .slice da K1 dc, .slice qa K2 qc, .slice ea K3 ec] ∧ Blk W2 T #[.int .i64 m1, .int .i64 m2, .int .i64 m3, .int .i64 m4, .slice da K1 dc, .slice qa K2 qc, .slice ea K3 ec].toList 26 ∧ C + 1 < T ∧ T = w1.heap.size ∧ Y.Lsts w1 W.heap.size) := ⟨hK1, hKW2, hd, hYi, hyv, hBT, hTC, hT, hY⟩
  have c0 := hBT.cell (i := 0) rfl
  have c1 := hBT.cell (i := 1) rfl
  have c2 := hBT.cell (i := 2) rfl
  have c3 := hBT.cell (i := 3) rfl
  have c4 := hBT.cell (i := 4) rfl
  have c5 := hBT.cell (i := 5) rfl
  have c6 := hBT.cell (i := 6) rfl
  clear hyv hY hd hYY hk1 hk2 hk3 hKW2 hBT hYi hTC hK1
  rw [hW2, hT] at c0 c1 c2 c3 c4 c5 c6
  go_wp2_with fail
  rw [← hW2]
  refine HC.out.mono ?_
  clear HC c0 c1 c2 c3 c4 c5 c6
  rintro e w2 ⟨rfl, hK2⟩
  obtain ⟨F, hF⟩ : ∃ F, chk Y = F := ⟨_, rfl⟩
  have HF : Hid (chk Y = F) := hF
  rw [hF]
  clear hF
  obtain ⟨fn, fa, fb⟩ := F
  simp only
  obtain ⟨U, hU⟩ : ∃ U, U = w2.alloc (.cells #[.int .i64 fa, .int .i64 fb] 33) := ⟨_, rfl⟩
  obtain ⟨V, hV⟩ : ∃ V, V = w2.heap.size := ⟨_, rfl⟩
  have hKU : Keeps (fun _ => False) w2 U := by rw [hU]; exact (Keeps.refl _ _).alloc _
  have hK2U : Keeps (fun _ => False) W2 U := hK2.trans hKU fun _ _ e => e
  have hKWU : Keeps (fun _ => False) W U := (H2.out.1.trans H2.out.2.1 fun _ _ e => e).trans hK2U fun _ _ e => e
  have H3 : Hid (Keeps (fun _ => False) W2 U ∧ Blk U V [.int .i64 fa, .int .i64 fb] 33 ∧ Blk U T #[.int .i64 m1, .int .i64 m2, .int .i64 m3, .int .i64 m4, .slice da K1 dc, .slice qa K2 qc, .slice ea K3 ec].toList 26 ∧ Blk U C zCfg 26 ∧ Blk U (C + 1) [.int .i64 0, .int .i64 0] 33 ∧ T < V ∧ Keeps (fun _ => False) W U) := by
   refine ⟨hK2U, by rw [hU, hV]; exact Blk.new _ _ _, H2.out.2.2.2.2.2.1.kept hK2U fun e => e, HW.out.1.kept hKWU fun e => e, HW.out.2.1.kept hKWU fun e => e, ?_, hKWU⟩
   rw [hV]; exact Nat.lt_of_lt_of_le H2.out.2.2.2.2.2.1.lt hK2.size
  clear hKU hK2U hKWU hK2
  by_cases hn : fn = 0
  ·
   subst hn
   have HT : Hid (Blk (w2.alloc (.cells #[.int .i64 fa, .int .i64 fb] 33)) T #[.int .i64 m1, .int .i64 m2, .int .i64 m3, .int .i64 m4, .slice da K1 dc, .slice qa K2 qc, .slice ea K3 ec].toList 26) := by rw [← hU]; exact H3.out.2.2.1
   have HC1 : Hid (Blk (w2.alloc (.cells #[.int .i64 fa, .int .i64 fb] 33)) C zCfg 26) := by rw [← hU]; exact H3.out.2.2.2.1
   rw [← hT]
   go_wp2_with (first | (refine wpList_load_row rfl 26 (.tmp 5) rfl T rfl 26 _ (0, 0) _ HT.out Tryz.underlying26 rfl Tryz.size26 ?_) | (refine wpList_store_row rfl 26 (.tmp 2) (.tmp 32) rfl C #[.int .i64 m1, .int .i64 m2, .int .i64 m3, .int .i64 m4, .slice da K1 dc, .slice qa K2 qc, .slice ea K3 ec] rfl rfl 26 _ HC1.out Tryz.size26 rfl (all26 ..) ?_; refine Hid.out ?_))
   unfold Hid
   rw [← hU]
   obtain ⟨w5, hw5⟩ : ∃ w5, w5 = U.setRow C #[.int .i64 m1, .int .i64 m2, .int .i64 m3, .int .i64 m4, .slice da K1 dc, .slice qa K2 qc, .slice ea K3 ec] := ⟨_, rfl⟩
   have hK5 : Keeps (· = C) U w5 := by rw [hw5]; exact (Keeps.refl _ _).setRow C _ fun _ => rfl
   have hC5 : Blk w5 C #[.int .i64 m1, .int .i64 m2, .int .i64 m3, .int .i64 m4, .slice da K1 dc, .slice qa K2 qc, .slice ea K3 ec].toList 26 := by rw [hw5]; exact H3.out.2.2.2.1.setRow _
   have HD5 : Hid (Blk w5 (C + 1) [.int .i64 0, .int .i64 0] 33) := H3.out.2.2.2.2.1.kept hK5 (by omega)
   obtain ⟨w6, hw6⟩ : ∃ w6, w6 = w5.setRow (C + 1) #[.int .i64 0, .int .i64 0] := ⟨_, rfl⟩
   have hK6 : Keeps (· = C + 1) w5 w6 := by rw [hw6]; exact (Keeps.refl _ _).setRow (C + 1) _ fun _ => rfl
   have H6 : Hid (Blk w6 C #[.int .i64 m1, .int .i64 m2, .int .i64 m3, .int .i64 m4, .slice da K1 dc, .slice qa K2 qc, .slice ea K3 ec].toList 26 ∧ Blk w6 (C + 1) [.int .i64 0, .int .i64 0] 33 ∧ Keeps (fun k => k = C ∨ k = C + 1) U w6) := by
    refine ⟨hC5.kept hK6 (by omega), by rw [hw6]; exact HD5.out.setRow _, (hK5.mono fun _ _ e => .inl e).trans hK6 fun _ _ e => .inr e⟩
   rw [← hw5]
   clear hw5 hK5 hC5 hK6 hU HT HC1 hV hW2 hT
   go_wp2_with (refine wpList_store_row rfl 33 (.tmp 4) (.tmp 33) rfl (C + 1) #[.int .i64 0, .int .i64 0] rfl rfl 33 _ HD5.out Tryz.size33 rfl (all29 ..) ?_; refine Hid.out ?_)
   unfold Hid
   rw [← hw6]
   clear hw6 HD5
   go_wp2
   refine bodyPost_ret (results_ctc rfl _ _ C (C + 1) 26 33 _ _ _ _ rfl H6.out.1 rfl H6.out.2.1 Tryz.underlying26 rfl Tryz.size26 Tryz.underlying33 rfl Tryz.size33) rfl ?_
   have hk : Keeps (fun k => k = C ∨ k = C + 1) w1 w6 := ((H2.out.2.1.trans H3.out.1 fun _ _ e => e).mono fun _ _ e => e.elim).trans H6.out.2.2 fun _ _ e => e
   refine ⟨HW.out.2.2.1.trans (H3.out.2.2.2.2.2.2.mono fun _ _ e => e.elim) (fun _ _ e => e) |>.trans H6.out.2.2 fun b hb e => by have := HW.out.2.2.2; omega, .inl ⟨Y, H2.out.2.2.1, ?_, .inl ⟨by rw [HF.out], ?_⟩⟩⟩
   ·
    have hlo : ∀ k, k = C ∨ k = C + 1 → k < W.heap.size := fun k e => by have := HW.out.2.1.lt; omega
    have h5 := H2.out.2.2.2.2.2.2.2.2
    exact Cfg.Lsts.in (lo := W.heap.size) ⟨h5.cs.kept hk hlo, h5.ps.kept hk hlo, h5.hs.kept hk hlo, h5.ns⟩
   ·
    rw [H2.out.2.2.2.2.1]; rfl
  ·
   rw [← hT]
   have hn1 : ¬ fn = 0 := hn
   have hn2 : (fn == 0) = false := by simp; omega
   go_upto_region 6 with fail
   rw [← hU, ← hV]
   clear hU hV hW2 hT
   have b1 := (H3.out.2.1.drew).cell (i := 0) rfl
   have b2 := (H3.out.2.1.drew).cell (i := 1) rfl
   refine wp_region_held_drew (S := (fun w' => w'.cell? ⟨V, 0, none⟩ = some (.int .i64 fa) ∧ w'.cell? ⟨V, 1, none⟩ = some (.int .i64 fb))) Tryz.mixd ⟨b1, b2⟩ (fun hHeld => ?_)
   simp only [List.size_toArray, List.length_cons, List.length_nil, Nat.reduceAdd, Array.replicate_succ, Array.replicate_zero, List.push_toArray, List.append_toArray, List.nil_append, List.cons_append]
   refine tk 0 (.agg #[.int .i64 0, .int .i64 0, .int .i64 0, .int .i64 0, .slice none 0 0, .slice none 0 0, .slice none 0 0]) hHeld ?_
   simp only [Act.put, s1, s2, s3]
   refine tk 1 (.int .i64 fn) hHeld ?_
   simp only [Act.put, s1, s2, s3]
   refine tk 2 (.agg #[.int .i64 fa, .int .i64 fb]) hHeld ?_
   simp only [Act.put, s1, s2, s3]
   refine wpAnyH_ready (rs := [3]) (by kernel_rfl) (by simp) ?_
   refine AllReadyH.cons (o := ⟨none, .store 26 (.tmp 2) (.tmp 29), 0, "admit.go:22", #[⟨0, .data⟩, ⟨0, .phase⟩, ⟨1, .textOnly .lateStores⟩, ⟨2, .textOnly .lateStores⟩], none⟩) rfl (fun K hK => ?_) AllReadyH.nil
   rw [if_pos (by kernel_rfl)]
   refine wp_store_row 26 _ _ rfl C #[.int .i64 0, .int .i64 0, .int .i64 0, .int .i64 0, .slice none 0 0, .slice none 0 0, .slice none 0 0] (by rfl) (by rfl) 26 _ H3.out.2.2.2.1.drew Tryz.size26 rfl (all26 ..) ?_
   obtain ⟨w5, hw5⟩ : ∃ w5, w5 = U.drew.setRow C #[.int .i64 0, .int .i64 0, .int .i64 0, .int .i64 0, .slice none 0 0, .slice none 0 0, .slice none 0 0] := ⟨_, rfl⟩
   have hK5 : Keeps (· = C) U w5 := by rw [hw5]; exact (Keeps.refl _ _).drew.setRow C _ fun _ => rfl
   have hC5 : Blk w5 C zCfg 26 := by rw [hw5]; exact H3.out.2.2.2.1.drew.setRow _
   have HD5 : Hid (Blk w5 (C + 1) [.int .i64 0, .int .i64 0] 33) := H3.out.2.2.2.2.1.kept hK5 (by omega)
   have hV5 : Blk w5 V [.int .i64 fa, .int .i64 fb] 33 := H3.out.2.1.kept hK5 (by have := H3.out.2.2.2.2.2.1; have := H2.out.2.2.2.2.2.2.1; omega)
   rw [← hw5]
   refine hK.out _ _ ⟨hV5.cell (i := 0) rfl, hV5.cell (i := 1) rfl⟩ (fun hHeld => ?_)
   simp only [Act.put, s1, s2, s3]
   refine tk 4 (.int .i64 fn) hHeld ?_
   simp only [Act.put, s1, s2, s3]
   refine wpAnyH_ready (rs := [5]) (by kernel_rfl) (by simp) ?_
   refine AllReadyH.cons (o := ⟨none, .store 33 (.tmp 4) (.tmp 31), 0, "admit.go:22", #[⟨2, .data⟩, ⟨4, .chain⟩, ⟨0, .phase⟩, ⟨1, .phase⟩, ⟨2, .phase⟩, ⟨3, .phase⟩, ⟨4, .phase⟩], none⟩) rfl (fun K hK => ?_) AllReadyH.nil
   rw [if_pos (by kernel_rfl)]
   refine wp_store_row 33 _ _ rfl (C + 1) #[.int .i64 fa, .int .i64 fb] (by rfl) (by rfl) 33 _ HD5.out Tryz.size33 rfl (all29 ..) ?_
   obtain ⟨w6, hw6⟩ : ∃ w6, w6 = w5.setRow (C + 1) #[.int .i64 fa, .int .i64 fb] := ⟨_, rfl⟩
   have hK6 : Keeps (· = C + 1) w5 w6 := by rw [hw6]; exact (Keeps.refl _ _).setRow (C + 1) _ fun _ => rfl
   have hV6 : Blk w6 V [.int .i64 fa, .int .i64 fb] 33 := hV5.kept hK6 (by have := H3.out.2.2.2.2.2.1; have := H2.out.2.2.2.2.2.2.1; omega)
   have H6 : Hid (Blk w6 C zCfg 26 ∧ Blk w6 (C + 1) [.int .i64 fa, .int .i64 fb] 33 ∧ Keeps (fun k => k = C ∨ k = C + 1) U w6) := by
    refine ⟨hC5.kept hK6 (by omega), by rw [hw6]; exact HD5.out.setRow _, (hK5.mono fun _ _ e => .inl e).trans hK6 fun _ _ e => .inr e⟩
   rw [← hw6]
   refine hK.out _ _ ⟨hV6.cell (i := 0) rfl, hV6.cell (i := 1) rfl⟩ (fun hHeld => ?_)
   simp only [Act.put, s1, s2, s3]
   refine wpAnyH_done (by kernel_rfl) ?_ _
   have HN : Hid (¬ fn = 0) := hn
   clear hw6 HD5 hw5 hK5 hC5 hK6 hV5 hV6 hHeld b1 b2 hn1 hn2 hn
   go_wp2
   (try simp only [Exit.inBlock, Exit.then])
   refine bodyPost_ret (results_ctc rfl _ _ C (C + 1) 26 33 _ _ _ _ rfl H6.out.1 rfl H6.out.2.1 Tryz.underlying26 rfl Tryz.size26 Tryz.underlying33 rfl Tryz.size33) rfl ?_
   have hk : Keeps (fun k => k = C ∨ k = C + 1) w1 w6 := ((H2.out.2.1.trans H3.out.1 fun _ _ e => e).mono fun _ _ e => e.elim).trans H6.out.2.2 fun _ _ e => e
   refine ⟨HW.out.2.2.1.trans (H3.out.2.2.2.2.2.2.mono fun _ _ e => e.elim) (fun _ _ e => e) |>.trans H6.out.2.2 fun b hb e => by have := HW.out.2.2.2; omega, .inl ⟨Y, H2.out.2.2.1, ?_, .inr ⟨by rw [HF.out]; exact HN.out, ?_⟩⟩⟩
   ·
    have hlo : ∀ k, k = C ∨ k = C + 1 → k < W.heap.size := fun k e => by have := HW.out.2.1.lt; omega
    have h5 := H2.out.2.2.2.2.2.2.2.2
    exact Cfg.Lsts.in (lo := W.heap.size) ⟨h5.cs.kept hk hlo, h5.ps.kept hk hlo, h5.hs.kept hk hlo, h5.ns⟩
   ·
    rw [HF.out]; rfl
 ·
  obtain ⟨_, hk⟩ := dec_err hd
  have hk0 : ¬ k = 0 := by omega
  have hk1 : (k == 0) = false := by simp; omega
  obtain ⟨U, hU⟩ : ∃ U, U = w1.alloc (.cells #[.int .i64 0, .int .i64 0, .int .i64 0, .int .i64 0, .slice none 0 0, .slice none 0 0, .slice none 0 0] 26) := ⟨_, rfl⟩
  have hKU : Keeps (fun _ => False) w1 U := by rw [hU]; exact (Keeps.refl _ _).alloc _
  have hKWU : Keeps (fun _ => False) W U := hK1.trans hKU fun _ _ e => e
  have H3 : Hid (Blk U C zCfg 26 ∧ Blk U (C + 1) [.int .i64 0, .int .i64 0] 33 ∧ Keeps (fun _ => False) W U ∧ dec B = .error (q, k)) := ⟨HW.out.1.kept hKWU fun e => e, HW.out.2.1.kept hKWU fun e => e, hKWU, hd⟩
  have HC1 : Hid (Blk (w1.alloc (.cells #[.int .i64 0, .int .i64 0, .int .i64 0, .int .i64 0, .slice none 0 0, .slice none 0 0, .slice none 0 0] 26)) C zCfg 26) := by rw [← hU]; exact H3.out.1
  clear hKU hKWU hK1 hd hk
  go_wp2_with (refine wpList_store_row rfl 26 (.tmp 2) (.tmp 18) rfl C #[.int .i64 0, .int .i64 0, .int .i64 0, .int .i64 0, .slice none 0 0, .slice none 0 0, .slice none 0 0] rfl rfl 26 _ HC1.out Tryz.size26 rfl (all26 ..) ?_; refine Hid.out ?_)
  unfold Hid
  rw [← hU]
  obtain ⟨w5, hw5⟩ : ∃ w5, w5 = U.setRow C #[.int .i64 0, .int .i64 0, .int .i64 0, .int .i64 0, .slice none 0 0, .slice none 0 0, .slice none 0 0] := ⟨_, rfl⟩
  have hK5 : Keeps (· = C) U w5 := by rw [hw5]; exact (Keeps.refl _ _).setRow C _ fun _ => rfl
  have hC5 : Blk w5 C zCfg 26 := by rw [hw5]; exact H3.out.1.setRow _
  have HD5 : Hid (Blk w5 (C + 1) [.int .i64 0, .int .i64 0] 33) := H3.out.2.1.kept hK5 (by omega)
  obtain ⟨w6, hw6⟩ : ∃ w6, w6 = w5.setRow (C + 1) #[.int .i64 q, .int .i64 k] := ⟨_, rfl⟩
  have hK6 : Keeps (· = C + 1) w5 w6 := by rw [hw6]; exact (Keeps.refl _ _).setRow (C + 1) _ fun _ => rfl
  have H6 : Hid (Blk w6 C zCfg 26 ∧ Blk w6 (C + 1) [.int .i64 q, .int .i64 k] 33 ∧ Keeps (fun k => k = C ∨ k = C + 1) U w6) := by
   refine ⟨hC5.kept hK6 (by omega), by rw [hw6]; exact HD5.out.setRow _, (hK5.mono fun _ _ e => .inl e).trans hK6 fun _ _ e => .inr e⟩
  rw [← hw5]
  clear hw5 hK5 hC5 hK6 hU HC1
  go_wp2_with (refine wpList_store_row rfl 33 (.tmp 4) (.tmp 21) rfl (C + 1) #[.int .i64 q, .int .i64 k] rfl rfl 33 _ HD5.out Tryz.size33 rfl (all29 ..) ?_; refine Hid.out ?_)
  unfold Hid
  rw [← hw6]
  clear hw6 HD5
  go_wp2
  refine bodyPost_ret (results_ctc rfl _ _ C (C + 1) 26 33 _ _ _ _ rfl H6.out.1 rfl H6.out.2.1 Tryz.underlying26 rfl Tryz.size26 Tryz.underlying33 rfl Tryz.size33) rfl ?_
  exact ⟨HW.out.2.2.1.trans (H3.out.2.2.1.mono fun _ _ e => e.elim) (fun _ _ e => e) |>.trans H6.out.2.2 fun b hb e => by have := HW.out.2.2.2; omega, .inr ⟨q, k, H3.out.2.2.2, rfl⟩⟩
end Go.Proofs.YthegceijlfflfaaGreat
