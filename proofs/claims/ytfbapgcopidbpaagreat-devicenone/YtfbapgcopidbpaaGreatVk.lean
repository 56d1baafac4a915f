import Derived.Test.YtfbapgcopidbpaaGreatVg
namespace Go.Proofs.YtfbapgcopidbpaaGreat
open Go.RowKit Go.Shelf
open Mq (SegW wvs wvs_length wvs_get run_make_words run_copy_wb segW_of_blk Mm lay)
set_option linter.unusedVariables false
set_option maxRecDepth 6000
set_option linter.unusedSimpArgs false
def wAt (xs : List UInt32) (p : Nat) : Nat := (xs.getD p 0).toNat
theorem wAt_eq (xs : List UInt32) (p : Nat) (h : p < xs.length) : xs[p].toNat = wAt xs p := by unfold wAt; rw [List.getD_eq_getElem?_getD, List.getElem?_eq_getElem h]; rfl
def hrX (xs : List UInt32) (p : Nat) (most : Int) : List UInt32 := if most ≤ wAt xs p then xs else lay xs p [UInt32.ofNat (wAt xs p + 1)]
def hrT (xs : List UInt32) (p : Nat) (most : Int) : Int := if most ≤ wAt xs p then 5 else 0
def HrP (b g : Nat) (xs : List UInt32) (p : Nat) (most : Int) (w : World) (e : Ending) (w' : World) : Prop :=
 e = .returned (.tuple #[.int .i64 (hrT xs p most), .int .i64 0]) ∧ Mm w' b g (hrX xs p most) ∧ Keeps (· = g) w w'
theorem hear_any (b g : Nat) (xs : List UInt32) (p : Nat) (most : Int) (w : World) (h : Mm w b g xs) (hp : p < xs.length) (h0 : 0 ≤ most) (h1 : most ≤ 1000000) :
  Calls Tryz.prog 18 #[.agg #[.int .i64 p, .int .u32 most], .pointer (some ⟨b, 0, none⟩)] w (HrP b g xs p most w) := by
 obtain ⟨W, hW⟩ : ∃ W, W = w.alloc (.cells #[.int .i64 (p : Int), .int .u32 most] 76) := ⟨_, rfl⟩
 obtain ⟨B, hB⟩ : ∃ B, B = w.heap.size := ⟨_, rfl⟩
 have hK : Keeps (fun _ => False) w W := by rw [hW]; exact (Keeps.refl _ _).alloc _
 have hm := h.kept hK (fun h => h) fun h => h
 have hb : Blk W B [.int .i64 (p : Int), .int .u32 most] 76 := by rw [hW, hB]; exact Blk.new _ _ _
 have c0 := hb.cell (i := 0) rfl
 have c1 := hb.cell (i := 1) rfl
 have hr := Mq.read_in b g xs p W hm hp
 rw [wAt_eq xs p hp] at hr
 obtain ⟨V, hV⟩ : ∃ V, wAt xs p = V := ⟨_, rfl⟩
 rw [hV] at hr
 have HC : Hid (Calls Tryz.prog 36 #[.pointer (some ⟨b, 0, none⟩), .int .i64 (p : Int)] W fun e w' => e = .returned (.tuple #[.int .u32 (V : Int), .int .i64 0]) ∧ w' = W) := hr
 have HW : Hid (Mm W b g xs ∧ Keeps (fun _ => False) w W ∧ wAt xs p = V) := ⟨hm, hK, hV⟩
 by_cases hc : most ≤ V
 ·
  have HA : Hid (hrX xs p most = xs ∧ hrT xs p most = 5) := ⟨by unfold hrX; rw [hV, if_pos hc], by unfold hrT; rw [hV, if_pos hc]⟩
  clear h hK hm hb hr hV
  go_enter Tryz.func18, Tryz.ntmps18
  go_upto_region 1 with fail
  rw [← hW, ← hB]
  clear hW hB
  go_wp2_with fail
  refine HC.out.mono ?_
  rintro e w1 ⟨rfl, rfl⟩
  go_wp2
  go_ret2
  exact ⟨by rw [HA.out.2]; rfl, by rw [HA.out.1]; exact HW.out.1, HW.out.2.1.mono fun _ _ h => h.elim⟩
 ·
  have hV1 : (V : Int) < most := by omega
  have hu : (V + 1 : Int) % 4294967296 = V + 1 := by omega
  have hw := Mq.write_in b g xs p (UInt32.ofNat (V + 1)) W hm hp
  have hn : ((UInt32.ofNat (V + 1)).toNat : Int) = V + 1 := by rw [UInt32.toNat_ofNat']; omega
  rw [hn] at hw
  have HX : Hid (Calls Tryz.prog 22 #[.pointer (some ⟨b, 0, none⟩), .int .i64 (p : Int), .int .u32 ((V : Int) + 1)] W fun e w' => e = .returned (.int .i64 0) ∧ Mm w' b g (lay xs p [UInt32.ofNat (V + 1)]) ∧ Keeps (· = g) W w') := hw
  have HA : Hid (hrX xs p most = lay xs p [UInt32.ofNat (V + 1)] ∧ hrT xs p most = 0) := ⟨by unfold hrX; rw [hV, if_neg hc], by unfold hrT; rw [hV, if_neg hc]⟩
  clear h hK hm hb hr hV hw hn hc
  go_enter Tryz.func18, Tryz.ntmps18
  go_upto_region 1 with fail
  rw [← hW, ← hB]
  clear hW hB
  go_wp2_with fail
  refine HC.out.mono ?_
  rintro e w1 ⟨rfl, rfl⟩
  go_wp2_with fail
  refine HX.out.mono ?_
  rintro e w2 ⟨rfl, hm2, hK2⟩
  have H2 : Hid (Mm w2 b g (lay xs p [UInt32.ofNat (V + 1)]) ∧ Keeps (· = g) w1 w2) := ⟨hm2, hK2⟩
  clear hm2 hK2
  go_wp2
  go_ret2
  exact ⟨by rw [HA.out.2]; rfl, by rw [HA.out.1]; exact H2.out.1, (HW.out.2.1.mono fun _ _ h => h.elim).trans H2.out.2 fun _ _ h => h⟩
end Go.Proofs.YtfbapgcopidbpaaGreat
namespace Go.Proofs.YtfbapgcopidbpaaGreat
open Go.RowKit Go.Shelf
open Mq (SegW wvs wvs_length wvs_get run_make_words run_copy_wb segW_of_blk Mm lay)
set_option linter.unusedVariables false
set_option maxRecDepth 6000
set_option linter.unusedSimpArgs false
def atN (x : Cfg) (i : Nat) : Nat := (stA x i + 4).toNat
theorem Gd.atN {x : Cfg} (g : Gd x) {i : Nat} (hi : i < x.ps.length) : ((atN x i : Nat) : Int) = stA x i + 4 ∧ (atN x i : Int) < 16 * x.frames := by
 have := g.at hi
 unfold Go.Proofs.YtfbapgcopidbpaaGreat.atN
 omega
def outs (x : Cfg) (i : Nat) : Int := match x.ps[i]? with | some P => P.outputs | none => 0
theorem Gd.outs {x : Cfg} (g : Gd x) (i : Nat) : 0 ≤ outs x i ∧ outs x i ≤ 16 := by
 unfold Go.Proofs.YtfbapgcopidbpaaGreat.outs
 cases h : x.ps[i]? with
 | none => simp
 | some P =>
  have := (g.gp i P h).dev.2
  rw [inR_iff] at this
  exact this
theorem Ears.at {x : Cfg} {l : List Value} (h : Ears x (stA x) x.ps.length l) (g : Gd x) {i : Nat} (hi : i < x.ps.length) : l[i * 2]? = some (.int .i64 (atN x i : Int)) ∧ l[i * 2 + 1]? = some (.int .u32 (outs x i)) := by
 obtain ⟨P, hP⟩ : ∃ P, x.ps[i]? = some P := ⟨_, List.getElem?_eq_getElem hi⟩
 have h1 := h.each i P hi hP
 rw [← (g.atN hi).1] at h1
 have : outs x i = P.outputs := by unfold outs; rw [hP]
 rw [this]
 exact h1
def OutP (x : Cfg) (b g : Nat) (xs : List UInt32) (p : Int) (w : World) (e : Ending) (w' : World) : Prop :=
 Keeps (· = g) w w' ∧ ((inP x p = true ∧ e = .returned (.tuple #[.int .i64 (hrT xs (atN x p.toNat) (outs x p.toNat)), .int .i64 0]) ∧ Mm w' b g (hrX xs (atN x p.toNat) (outs x p.toNat))) ∨
  (inP x p = false ∧ e = .returned (.tuple #[.int .i64 0, .int .i64 1]) ∧ Mm w' b g xs))
set_option maxHeartbeats 1000000 in
theorem output_any (x : Cfg) (d E : Nat) (mv : Value) (l : List Value) (b g : Nat) (xs : List UInt32) (p : Int) (w : World) (hd : Blk w d [.int .i64 x.frames, .slice (some ⟨E, 0, none⟩) x.ps.length x.ps.length, mv] 71) (he : Blk w E l 76) (hl : Ears x (stA x) x.ps.length l)
  (hg : Gd x) (hm : Mm w b g xs) (hx : (xs.length : Int) = 16 * x.frames) (hne : d ≠ g ∧ E ≠ g) :
  Calls Tryz.prog 8 #[.pointer (some ⟨d, 0, none⟩), .pointer (some ⟨b, 0, none⟩), .int .i64 p] w (OutP x b g xs p w) := by
 obtain ⟨W, hW⟩ : ∃ W, W = w.alloc (.cells #[.int .i64 p] 3) := ⟨_, rfl⟩
 obtain ⟨B, hB⟩ : ∃ B, B = w.heap.size := ⟨_, rfl⟩
 have hK : Keeps (fun _ => False) w W := by rw [hW]; exact (Keeps.refl _ _).alloc _
 have hb : Blk W B [.int .i64 p] 3 := by rw [hW, hB]; exact Blk.new _ _ _
 have hfr := hg.frames
 have hs : SegI W (some ⟨B, 0, none⟩) [p] := by
  refine .inr ⟨B, 0, rfl, fun j q hj i v hv => ?_⟩
  cases j with
  | zero =>
   simp at hj
   subst hj
   cases i with
   | zero => simp at hv; subst hv; exact hb.cell rfl
   | succ i => simp at hv
  | succ j => simp at hj
 have HC : Hid (Calls Tryz.prog 17 #[.pointer (some ⟨d, 0, none⟩), .pointer (some ⟨b, 0, none⟩), .slice (some ⟨B, 0, none⟩) 1 1] W (FitP x [p] W)) :=
  fits_same x d E mv b g xs (some ⟨B, 0, none⟩) 1 [p] W (hd.kept hK fun h => h) (hm.kept hK (fun h => h) fun h => h) (by omega) hs (by unfold maxLen; simp)
 have HW : Hid (Keeps (fun _ => False) w W ∧ Mm w b g xs ∧ Blk w d [.int .i64 x.frames, .slice (some ⟨E, 0, none⟩) x.ps.length x.ps.length, mv] 71 ∧ Blk w E l 76 ∧ Ears x (stA x) x.ps.length l ∧ Gd x ∧ (xs.length : Int) = 16 * x.frames ∧ d ≠ g ∧ E ≠ g) := ⟨hK, hm, hd, he, hl, hg, hx, hne⟩
 clear hK hb hfr hs hd he hl hg hm hx hne
 go_enter Tryz.func8, Tryz.ntmps8
 go_wp2_with fail
 rw [← hW, ← hB]
 clear hW hB
 refine HC.out.mono ?_
 rintro e w1 ⟨rfl, hK1⟩
 have hA : ([p].all (inP x)) = inP x p := by simp
 rw [hA]
 clear hA HC
 have HK1 : Hid (Keeps (fun _ => False) w w1) := HW.out.1.trans hK1 fun _ _ h => h
 clear hK1
 cases hi : inP x p with
 | false =>
  have HI : Hid (inP x p = false) := hi
  clear hi
  rw [if_neg (by decide)]
  go_wp2
  go_ret2
  exact ⟨HK1.out.mono fun _ _ h => h.elim, .inr ⟨HI.out, rfl, HW.out.2.1.kept HK1.out (fun h => h) fun h => h⟩⟩
 | true =>
  have HI : Hid (inP x p = true) := hi
  rw [if_pos rfl]
  unfold inP at hi
  simp only [Bool.and_eq_true, decide_eq_true_eq] at hi
  obtain ⟨i, rfl⟩ : ∃ i : Nat, p = i := ⟨p.toNat, by omega⟩
  have hi2 : i < x.ps.length := by omega
  have hdw := HW.out.2.2.1.kept HK1.out fun h => h
  have hew := HW.out.2.2.2.1.kept HK1.out fun h => h
  have hea := HW.out.2.2.2.2.1.at HW.out.2.2.2.2.2.1 hi2
  have hat := HW.out.2.2.2.2.2.1.atN hi2
  have hou := HW.out.2.2.2.2.2.1.outs i
  have d1 := hdw.cell (i := 1) rfl
  have e0 := hew.cell hea.1
  have e1 := hew.cell hea.2
  have hxl := HW.out.2.2.2.2.2.2.1
  have HC : Hid (Calls Tryz.prog 18 #[.agg #[.int .i64 (atN x i : Int), .int .u32 (outs x i)], .pointer (some ⟨b, 0, none⟩)] w1 (HrP b g xs (atN x i) (outs x i) w1)) := hear_any b g xs (atN x i) (outs x i) w1 (HW.out.2.1.kept HK1.out (fun h => h) fun h => h) (by omega) hou.1 (by omega)
  obtain ⟨L, hL⟩ : ∃ L, x.ps.length = L := ⟨_, rfl⟩
  rw [hL] at d1 hi2
  have hi3 : (i : Int) < L := by omega
  obtain ⟨A, hA⟩ : ∃ A, atN x i = A := ⟨_, rfl⟩
  obtain ⟨O, hO⟩ : ∃ O, outs x i = O := ⟨_, rfl⟩
  rw [hA, hO] at HC
  rw [hA] at e0
  rw [hO] at e1
  have HA : Hid (atN x i = A ∧ outs x i = O) := ⟨hA, hO⟩
  clear hi hdw hew hea hat hou hxl hL hA hO
  go_wp2_with fail
  refine HC.out.mono ?_
  rintro e w2 ⟨rfl, hm2, hK2⟩
  have H2 : Hid (Mm w2 b g (hrX xs A O) ∧ Keeps (· = g) w1 w2) := ⟨hm2, hK2⟩
  clear hm2 hK2 HC e0 e1 d1
  obtain ⟨Tt, hT⟩ : ∃ T, T = hrT xs A O := ⟨_, rfl⟩
  rw [← hT]
  have HT : Hid (Tt = hrT xs A O) := hT
  clear hT
  go_wp2
  go_ret2
  refine ⟨(HK1.out.mono fun _ _ h => h.elim).trans H2.out.2 fun _ _ h => h, .inl ⟨HI.out, ?_, ?_⟩⟩
  ·
   rw [Int.toNat_natCast, HA.out.1, HA.out.2, ← HT.out]; rfl
  ·
   rw [Int.toNat_natCast, HA.out.1, HA.out.2]; exact H2.out.1
end Go.Proofs.YtfbapgcopidbpaaGreat
namespace Go.Proofs.YtfbapgcopidbpaaGreat
open Go.RowKit Go.Shelf
open Mq (SegW wvs wvs_length wvs_get run_make_words run_copy_wb segW_of_blk Mm lay)
set_option linter.unusedVariables false
set_option maxRecDepth 6000
set_option linter.unusedSimpArgs false
def begX (x : Cfg) (ps : List Int) (xs : List UInt32) : List UInt32 := ps.foldl (fun xs p => lay xs (atN x p.toNat) [0]) xs
def BegP (x : Cfg) (b g : Nat) (xs : List UInt32) (ps : List Int) (w : World) (e : Ending) (w' : World) : Prop :=
 Keeps (· = g) w w' ∧ ((ps.all (inP x) = true ∧ e = .returned (.int .i64 0) ∧ Mm w' b g (begX x ps xs)) ∨ (ps.all (inP x) = false ∧ e = .returned (.int .i64 1) ∧ Mm w' b g xs))
end Go.Proofs.YtfbapgcopidbpaaGreat
namespace Go.Proofs.YtfbapgcopidbpaaGreat
open Go.RowKit Go.Shelf
open Mq (SegW wvs wvs_length wvs_get run_make_words run_copy_wb segW_of_blk Mm lay)
set_option linter.unusedVariables false
set_option maxRecDepth 6000
set_option linter.unusedSimpArgs false
theorem input_nil (p e : Int) (i : Value) (w : World) : Calls Tryz.prog 7 #[.pointer none, .int .i64 p, .int .i64 e, i] w fun r w' => r = .returned (.tuple #[.int .i64 0, .int .u32 0]) ∧ w' = w := by
 go_enter Tryz.func7, Tryz.ntmps7
 go_wp2
 go_ret2
 exact ⟨rfl, rfl⟩
def InP (ws : List UInt32) (i : Nat) (w : World) (r : Ending) (w' : World) : Prop :=
 Keeps (fun _ => False) w w' ∧ ((ws.length ≤ i ∧ r = .returned (.tuple #[.int .i64 7, .int .u32 0])) ∨ (i < ws.length ∧ r = .returned (.tuple #[.int .i64 0, .int .u32 (wAt ws i)])))
theorem wpList_look_run {ops : Array Oper} {rest : List Oper} {o : Oper} {a : Act} {Q : Exit → Act → World → Prop} {P : Program} {w : World} (hgd : o.guard = none) (m x : Operand) (t : TypeId)
  (ho : o.op = .lookup t m x false) (vm vx v' : Value) (hm : a.eval m = vm) (hx : a.eval x = vx)
  (hr : (Instr.lookup t vm vx false).run P w = .ok v' w) (h : wpList P ops Q rest (a.put o.dst v') w) : wpList P ops Q (o :: rest) a w :=
 wpList_plain hgd fun _ hK => by
  unfold Oper.wp execOp
  simp only [ho, hm, hx, hr, Sem.run_bind, Sem.run_pure, Result.andThen_ok]
  exact hK _ _ h
theorem input_walk (d m : Nat) (v0 v1 : Value) (p e : Int) (i : Nat) (hi : i < 4294967296) (w : World) (hd : Blk w d [v0, v1, .map (some m)] 71) (a : Option Addr) (ws : List UInt32) (hs : SegW w a ws) (hl : ws.length ≤ 1048576)
  (HL : Hid ((Instr.lookup 69 (.map (some m)) (kv e p) false).run Tryz.prog w = .ok (.slice a ws.length ws.length) w)) :
  Calls Tryz.prog 7 #[.pointer (some ⟨d, 0, none⟩), .int .i64 p, .int .i64 e, .int .u32 (i : Int)] w (InP ws i w) := by
 have d2 := hd.cell (i := 2) rfl
 obtain ⟨n, hn⟩ : ∃ n, ws.length = n := ⟨_, rfl⟩
 have HS : Hid (SegW w a ws ∧ ws.length = n) := ⟨hs, hn⟩
 rw [hn] at HL hl
 have hu : (n : Int) % 4294967296 = n := by omega
 by_cases hc : n ≤ i
 ·
  have hc1 : (n : Int) ≤ i := by omega
  clear hd hs hn
  unfold kv at HL
  go_enter Tryz.func7, Tryz.ntmps7
  go_wp2_with (at_lookup; refine wpList_look_run rfl (.tmp 16) (.tmp 19) 69 rfl (.map (some m)) (.agg #[.int .i64 e, .int .i64 p]) (.slice a n n) rfl rfl HL.out ?_)
  go_ret2
  exact ⟨Keeps.refl _ _, .inl ⟨by have := HS.out.2; omega, rfl⟩⟩
 ·
  have hc1 : (i : Int) < n := by omega
  have hc2 : ¬ (n : Int) ≤ i := by omega
  rcases hs with h | ⟨g, o, rfl, hcell⟩
  ·
   exact absurd hn (by rw [h]; simp; omega)
  have y := hcell i (by omega)
  rw [wAt_eq] at y
  obtain ⟨V, hV⟩ : ∃ V, wAt ws i = V := ⟨_, rfl⟩
  rw [hV] at y
  have HV : Hid (wAt ws i = V) := hV
  clear hd hn hcell hV
  unfold kv at HL
  go_enter Tryz.func7, Tryz.ntmps7
  go_wp2_with (at_lookup; refine wpList_look_run rfl (.tmp 16) (.tmp 19) 69 rfl (.map (some m)) (.agg #[.int .i64 e, .int .i64 p]) (.slice (some ⟨g, o, none⟩) n n) rfl rfl HL.out ?_)
  go_still Tryz.mixed
  go_wp2
  go_ret2
  exact ⟨(Keeps.refl _ _).drew, .inr ⟨by have := HS.out.2; omega, by rw [HV.out]; rfl⟩⟩
def tells (R : List Tr) (e p : Int) : List UInt32 := match R.find? (fun r => decide (r.e = e) && decide (r.p = p)) with | some r => r.ws | none => []
theorem input_any (d m lo : Nat) (v0 v1 : Value) (R : List Tr) (p e : Int) (i : Nat) (hi : i < 4294967296) (hp : I64 p) (he : I64 e) (w : World) (hd : Blk w d [v0, v1, .map (some m)] 71) (ht : Td w m lo R) (hl : ∀ r ∈ R, r.ws.length ≤ 1048576) :
  Calls Tryz.prog 7 #[.pointer (some ⟨d, 0, none⟩), .int .i64 p, .int .i64 e, .int .u32 (i : Int)] w (InP (tells R e p) i w) := by
 obtain ⟨kl, hkl⟩ := key73 e p he hp
 unfold tells
 cases hf : R.find? (fun r => decide (r.e = e) && decide (r.p = p)) with
 | none =>
  refine input_walk d m v0 v1 p e i hi w hd none [] (.inl rfl) (by simp) ?_
  refine ht.map.look_none law73 under69 (zero57 w) hkl fun q hq he => ?_
  obtain ⟨r, hr, rfl⟩ := List.mem_map.1 hq
  obtain ⟨h1, h2⟩ := kv_inj he
  have := List.find?_eq_none.1 hf r hr
  simp [h1, h2] at this
 | some r =>
  have hr := List.mem_of_find?_eq_some hf
  have h1 := List.find?_some hf
  simp only [Bool.and_eq_true, decide_eq_true_eq] at h1
  refine input_walk d m v0 v1 p e i hi w hd (some ⟨r.g, 0, none⟩) r.ws (segW_of_blk (ht.blk r hr).1) (hl r hr) ?_
  refine ht.map.look_some law73 under69 hkl ?_
  rw [← h1.1, ← h1.2]
  exact List.mem_map.2 ⟨r, hr, rfl⟩
end Go.Proofs.YtfbapgcopidbpaaGreat
