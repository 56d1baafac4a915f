import Derived.Test.YtlnmlbkeemahcaaGreatQeWin
namespace Go.Proofs.YtlnmlbkeemahcaaGreat
open Go.RowKit
set_option linter.unusedVariables false
set_option linter.unusedSimpArgs false
set_option maxRecDepth 6000
def cyc : List Win → Int
 | [] => 0
 | y :: ys => y.u + y.s + cyc ys
def Win.In2 (y : Win) : Prop := 1 ≤ y.u ∧ y.u ≤ 1000000 ∧ 82 ≤ y.s ∧ y.s ≤ 1000000
theorem cyc_take {ws : List Win} {k : Nat} {y : Win} (h : ws[k]? = some y) : cyc (ws.take (k + 1)) = cyc (ws.take k) + (y.u + y.s) := by
 induction ws generalizing k with
 | nil => simp at h
 | cons z ws ih =>
  cases k with
  | zero => simp at h; subst h; simp [cyc]
  | succ k =>
   simp only [List.take_succ_cons, cyc]
   rw [ih (by simpa using h)]
   omega
theorem cyc_bd {ws : List Win} (h : ∀ y ∈ ws, y.In2) : 0 ≤ cyc ws ∧ cyc ws ≤ 2000000 * ws.length := by
 induction ws with
 | nil => simp [cyc]
 | cons z ws ih =>
  have h1 := ih fun y hy => h y (List.mem_cons_of_mem _ hy)
  have h2 := h z (List.mem_cons_self ..)
  unfold Win.In2 at h2
  simp only [cyc, List.length_cons]
  omega
set_option maxHeartbeats 4000000 in
theorem cycles_any (ws : List Win) (a : Option Addr) (cap : Nat) (w : World) (hS : SegA Win.vs 3 w a ws) (hlen : ws.length ≤ cap ∧ cap ≤ maxLen) (h16 : ws.length ≤ 1000) (hin : ∀ y ∈ ws, y.In2) :
  Calls Tryz.prog 83 #[.slice a ws.length cap] w fun e w' => e = .returned (.int .i64 (cyc ws)) ∧ KF w w' := by
 have HS : Hid (SegA Win.vs 3 w a ws ∧ (∀ y ∈ ws, y.In2)) := ⟨hS, hin⟩
 obtain ⟨L, hL⟩ : ∃ L, ws.length = L := ⟨_, rfl⟩
 have HL : Hid (ws.length = L) := hL
 have hcc : (L : Int) ≤ cap ∧ (cap : Int) ≤ 9223372036854775807 := by unfold maxLen at hlen; omega
 rw [hL] at h16 ⊢
 clear hS hin hL hlen
 go_enter Tryz.func83, Tryz.ntmps83
 go_wp2
 go_loopw [3, 8] (fun s i wr => ∃ j : Nat, j ≤ L ∧ i = .int .i64 j ∧ s = .int .i64 (cyc (ws.take j)) ∧ KF w wr) (fun _ i _ => L - (intOf i).toNat)
 case atStart => exact ⟨0, by omega, rfl, rfl, Keeps.refl _ _⟩
 case round =>
  obtain ⟨k, hk, rfl, rfl, hO⟩ := hrel
  by_cases hlt : k < L
  ·
   obtain ⟨X, hX⟩ : ∃ X, ws[k]? = some X := ⟨_, List.getElem?_eq_getElem (by have := HL.out; omega)⟩
   have hXb := HS.out.2 X (List.mem_of_getElem? hX)
   unfold Win.In2 at hXb
   have hb := cyc_bd (ws := ws.take k) fun y hy => HS.out.2 y (List.mem_of_mem_take hy)
   have hl : (ws.take k).length ≤ 1000 := by rw [List.length_take]; omega
   obtain ⟨g, o, ha, hc⟩ := (HS.out.1.kept hO fun _ _ _ h => h).at hX
   have c0 := hc 0 _ rfl
   rw [Nat.add_zero] at c0
   have c1 := hc 1 _ rfl
   have c2 := hc 2 _ rfl
   obtain ⟨s, hs⟩ : ∃ s, cyc (ws.take k) = s := ⟨_, rfl⟩
   have HK : Hid (KF w wr ∧ cyc (ws.take (k + 1)) = s + (X.u + X.s)) := ⟨hO, by rw [cyc_take hX, hs]⟩
   rw [hs] at hb ⊢
   clear hs
   have q1 : IntKind.i64.wrap (X.u + X.s) = X.u + X.s := by rw [IntKind.wrap_i64]; omega
   have q2 : IntKind.i64.wrap (s + (X.u + X.s)) = s + (X.u + X.s) := by rw [IntKind.wrap_i64]; omega
   clear hO hX hc hl hXb hb
   subst ha
   go_wp2
   go_roundw
   case rel => exact ⟨k + 1, by omega, by go_num, by rw [HK.out.2], HK.out.1.alloc _⟩
   case measure => simp [intOf]; omega
  ·
   have hkL : k = L := by omega
   subst hkL
   have HK : Hid (KF w wr) := hO
   clear hO
   rw [List.take_of_length_le (by rw [HL.out]; omega)]
   go_wp2
   go_ret
   exact ⟨rfl, HK.out⟩
def Prt.is (q : Prt) (p : Prt) : Bool := decide (p.ch = q.ch) && (p.src == q.src)
def cntQ (q : Prt) (ps : List Par) : Nat := (ps.flatMap (·.ps)).countP q.is
theorem cntQ_take {q : Prt} {ps : List Par} {k : Nat} {X : Par} (h : ps[k]? = some X) : cntQ q (ps.take (k + 1)) = cntQ q (ps.take k) + X.ps.countP q.is := by
 unfold cntQ
 rw [List.take_add_one, h]
 simp [List.flatMap_append, List.countP_append]
theorem cntQ_le {q : Prt} {ps : List Par} (h : ∀ P ∈ ps, P.ps.length ≤ 1000) : cntQ q ps ≤ ps.length * 1000 := by
 induction ps with
 | nil => simp [cntQ]
 | cons P ps ih =>
  have h1 := ih fun y hy => h y (List.mem_cons_of_mem _ hy)
  have h2 := h P (List.mem_cons_self ..)
  have h3 := List.countP_le_length (l := P.ps) (p := q.is)
  unfold cntQ at h1 ⊢
  simp only [List.flatMap_cons, List.countP_append, List.length_cons]
  omega
theorem countP_take1 {q : Prt} {ps : List Prt} {k : Nat} {X : Prt} (h : ps[k]? = some X) : (ps.take (k + 1)).countP q.is = (ps.take k).countP q.is + (if q.is X then 1 else 0) := by
 rw [List.take_add_one, h]
 simp [List.countP_append, List.countP_cons]
structure CpI (w : World) (x : Cfg) (q : Prt) (C Q N : Nat) (w' : World) : Prop where
 one : One w x C N w'
 lk : Blk w' Q [.int .i64 q.ch, .bool q.src] 57
theorem CpI.kept {w : World} {x : Cfg} {q : Prt} {C Q N : Nat} {w' w'' : World} (h : CpI w x q C Q N w') (hK : KF w' w'') : CpI w x q C Q N w'' :=
 ⟨h.one.kept hK, h.lk.kept hK fun h => h⟩
set_option maxHeartbeats 4000000 in
theorem countPorts_any (x : Cfg) (q : Prt) (w : World) (N : Nat) (hi : x.In w N) (hN : N ≤ w.heap.size) (hp : x.ps.length ≤ 1000) (hpp : ∀ P ∈ x.ps, P.ps.length ≤ 1000) :
  Calls Tryz.prog 75 #[x.v, q.v] w fun e w' => e = .returned (.int .i64 (cntQ q x.ps : Int)) ∧ KF w w' := by
 obtain ⟨f, mj, kn, rm, ca, cc, cs, pa, pc, ps, qa, qc, qs⟩ := x
 obtain ⟨ch, src⟩ := q
 dsimp only at hp hpp
 have HO := One.mk' hi hN
 obtain ⟨W0, hW0⟩ : ∃ W0, W0 = Cfg.laid w ⟨f, mj, kn, rm, ca, cc, cs, pa, pc, ps, qa, qc, qs⟩ := ⟨_, rfl⟩
 obtain ⟨C, hC⟩ : ∃ C, C = w.heap.size := ⟨_, rfl⟩
 rw [← hW0, ← hC] at HO
 obtain ⟨W, hW⟩ : ∃ W, W = W0.alloc (.cells #[.int .i64 ch, .bool src] 57) := ⟨_, rfl⟩
 obtain ⟨Q, hQ⟩ : ∃ Q, Q = w.heap.size + 1 := ⟨_, rfl⟩
 have hQ0 : Q = W0.heap.size := by rw [hQ, hW0]; simp [Cfg.laid]
 have HO : Hid (CpI w ⟨f, mj, kn, rm, ca, cc, cs, pa, pc, ps, qa, qc, qs⟩ ⟨ch, src⟩ C Q N W) := by
  rw [hW]; exact ⟨HO.kept ((Keeps.refl _ _).alloc _), by rw [hQ0]; exact Blk.new _ _ _⟩
 obtain ⟨L, hL⟩ : ∃ L, ps.length = L := ⟨_, rfl⟩
 have HL : Hid (ps.length = L ∧ (∀ P ∈ ps, P.ps.length ≤ 1000) ∧ (ps.length ≤ 1000)) := ⟨hL, hpp, hp⟩
 have hcc : (L : Int) ≤ pc ∧ (pc : Int) ≤ 9223372036854775807 := by have := hi.plen; unfold maxLen at this; dsimp only at this; omega
 simp only [Cfg.v, Cfg.laid, hL] at hW0 ⊢
 have c5 : W.cell? ⟨C, 5, none⟩ = some (.slice pa L pc) := by have := HO.out.one.cfg.cell (i := 5) rfl; rw [← hL]; exact this
 clear hi hN hL hp hpp hQ0
 go_enter Tryz.func75, Tryz.ntmps75
 go_upto_region 1 with fail
 rw [← hW0, ← hW, ← hQ, ← hC]
 clear hW hC hW0 hQ
 go_wp2
 go_loopw [5, 13] (fun s i wr => ∃ j : Nat, j ≤ L ∧ i = .int .i64 j ∧ s = .int .i64 (cntQ ⟨ch, src⟩ (ps.take j) : Int) ∧ CpI w ⟨f, mj, kn, rm, ca, cc, cs, pa, pc, ps, qa, qc, qs⟩ ⟨ch, src⟩ C Q N wr) (fun _ i _ => L - (intOf i).toNat)
 case atStart => exact ⟨0, by omega, rfl, rfl, HO.out⟩
 case round =>
  obtain ⟨k, hk, rfl, rfl, hO⟩ := hrel
  clear c5
  by_cases hlt : k < L
  ·
   obtain ⟨X, hX⟩ : ∃ X, ps[k]? = some X := ⟨_, List.getElem?_eq_getElem (by have := HL.out.1; omega)⟩
   obtain ⟨g0, o0, e, hc⟩ := hO.one.cin.par hX
   dsimp only at e
   subst e
   obtain ⟨wz, hwz⟩ : ∃ wz, wz = wr := ⟨_, rfl⟩
   subst hwz
   have hXi := hO.one.cin.pin X (List.mem_of_getElem? hX)
   have p0 := hc 0 _ rfl
   rw [Nat.add_zero] at p0
   have p1 := hc 1 _ rfl
   have p2 := hc 2 _ rfl
   have p3 := hc 3 _ rfl
   have p4 := hc 4 _ rfl
   have p5 := hc 5 _ rfl
   have p6 := hc 6 _ rfl
   have p7 := hc 7 _ rfl
   obtain ⟨XL, hXL⟩ : ∃ XL, X.ps.length = XL := ⟨_, rfl⟩
   obtain ⟨RL, hRL⟩ : ∃ RL, X.rs.length = RL := ⟨_, rfl⟩
   rw [hXL] at p7
   rw [hRL] at p6
   have hxc : (XL : Int) ≤ X.pc ∧ (X.pc : Int) ≤ 9223372036854775807 := by have := hXi.plen; unfold maxLen at this; omega
   have hn : cntQ ⟨ch, src⟩ (ps.take k) ≤ 1000000 := by
    have h1 := cntQ_le (q := ⟨ch, src⟩) (ps := ps.take k) fun P hP => HL.out.2.1 P (List.mem_of_mem_take hP)
    have h2 := HL.out.2.2
    rw [List.length_take] at h1
    omega
   have hX1 : XL ≤ 1000 := by have := HL.out.2.1 X (List.mem_of_getElem? hX); omega
   obtain ⟨S, hS⟩ : ∃ S, cntQ ⟨ch, src⟩ (ps.take k) = S := ⟨_, rfl⟩
   rw [hS] at hn ⊢
   obtain ⟨W1, hW1⟩ : ∃ W1, W1 = wz.alloc (.cells #[.string X.name, .int .i64 X.entry, .int .i64 X.action, .int .i64 X.restarts, .int .i64 X.inputs, .int .i64 X.outputs, .slice X.ra RL X.rc, .slice X.pa XL X.pc] 41) := ⟨_, rfl⟩
   obtain ⟨D, hD⟩ : ∃ D, D = wz.heap.size := ⟨_, rfl⟩
   have HK : Hid (CpI w ⟨f, mj, kn, rm, ca, cc, cs, some ⟨g0, o0, none⟩, pc, ps, qa, qc, qs⟩ ⟨ch, src⟩ C Q N W1 ∧ cntQ ⟨ch, src⟩ (ps.take k) = S ∧ ps[k]? = some X ∧ X.ps.length = XL) := by
    rw [hW1]; exact ⟨hO.kept ((Keeps.refl _ _).alloc _), hS, hX, hXL⟩
   have d7 : W1.cell? ⟨D, 7, none⟩ = some (.slice X.pa XL X.pc) := by rw [hW1, hD]; exact (Blk.new wz _ _).cell rfl
   clear hO hX hXL hRL hXi hc hS
   go_upto_region 5 with fail
   rw [← hW1, ← hD]
   clear hW1 hD p0 p1 p2 p3 p4 p5 p6 p7
   go_wp2
   go_loopw [5, 20] (fun s i wr => ∃ j : Nat, j ≤ XL ∧ i = .int .i64 j ∧ s = .int .i64 ((S + (X.ps.take j).countP (Prt.is ⟨ch, src⟩) : Nat) : Int) ∧ CpI w ⟨f, mj, kn, rm, ca, cc, cs, some ⟨g0, o0, none⟩, pc, ps, qa, qc, qs⟩ ⟨ch, src⟩ C Q N wr) (fun _ i _ => XL - (intOf i).toNat)
   case atStart => exact ⟨0, by omega, rfl, rfl, HK.out.1⟩
   case round =>
    obtain ⟨j, hj, rfl, rfl, hO⟩ := hrel
    clear d7
    by_cases hlj : j < XL
    ·
     obtain ⟨y, hy⟩ : ∃ y, X.ps[j]? = some y := ⟨_, List.getElem?_eq_getElem (by have := HK.out.2.2.2; omega)⟩
     have hXi := hO.one.cin.pin X (List.mem_of_getElem? HK.out.2.2.1)
     obtain ⟨g1, o1, ha1, hg1⟩ := hXi.pseg.at hy
     have y0 := hg1 0 _ rfl
     rw [Nat.add_zero] at y0
     have y1 := hg1 1 _ rfl
     obtain ⟨W2, hW2⟩ : ∃ W2, W2 = wr.alloc (.cells #[.int .i64 y.ch, .bool y.src] 57) := ⟨_, rfl⟩
     obtain ⟨G, hG⟩ : ∃ G, G = wr.heap.size := ⟨_, rfl⟩
     have hB1 : Blk W2 G y.vs 57 := by rw [hW2, hG]; exact Blk.new _ _ _
     have d0 := hB1.cell (i := 0) rfl
     have d1 := hB1.cell (i := 1) rfl
     have HJ : Hid (CpI w ⟨f, mj, kn, rm, ca, cc, cs, some ⟨g0, o0, none⟩, pc, ps, qa, qc, qs⟩ ⟨ch, src⟩ C Q N W2) := by
      rw [hW2]; exact hO.kept ((Keeps.refl _ _).alloc _)
     have e0 := HJ.out.lk.cell (i := 0) rfl
     have e1 := HJ.out.lk.cell (i := 1) rfl
     have hT := List.countP_le_length (l := X.ps.take j) (p := Prt.is ⟨ch, src⟩)
     rw [List.length_take] at hT
     have hTT := countP_take1 (q := ⟨ch, src⟩) hy
     obtain ⟨T, hTe⟩ : ∃ T, (X.ps.take j).countP (Prt.is ⟨ch, src⟩) = T := ⟨_, rfl⟩
     rw [hTe] at hT hTT ⊢
     have HT : Hid ((X.ps.take (j + 1)).countP (Prt.is ⟨ch, src⟩) = T + (if Prt.is ⟨ch, src⟩ y then 1 else 0)) := hTT
     have hTb : T ≤ 1000 := by omega
     clear hO hXi hg1 hB1 hy hT hTT hTe
     rw [ha1]
     go_upto_region 8 with fail
     rw [← hW2, ← hG]
     clear hW2 hG y0 y1
     go_wp2
     all_goals
      refine ⟨⟨j + 1, by omega, by go_num, ?_, HJ.out⟩, by simp [intOf]; omega⟩
      rw [HT.out]
      by_cases e1 : y.ch = ch <;> by_cases e2 : y.src = src <;> first | contradiction | (simp [Prt.is, e1, e2] <;> omega)
    ·
     have hjL : j = XL := by omega
     have HJ : Hid (CpI w ⟨f, mj, kn, rm, ca, cc, cs, some ⟨g0, o0, none⟩, pc, ps, qa, qc, qs⟩ ⟨ch, src⟩ C Q N wr) := hO
     have HS2 : Hid (cntQ ⟨ch, src⟩ (ps.take (k + 1)) = S + (X.ps.take j).countP (Prt.is ⟨ch, src⟩)) := by
      refine Hid.mkq ?_
      rw [cntQ_take HK.out.2.2.1, HK.out.2.1, List.take_of_length_le (by rw [HK.out.2.2.2]; omega)]
     clear hO
     obtain ⟨T, hT⟩ : ∃ T, S + (X.ps.take j).countP (Prt.is ⟨ch, src⟩) = T := ⟨_, rfl⟩
     have HS3 : Hid (cntQ ⟨ch, src⟩ (ps.take (k + 1)) = T) := by rw [HS2.out]; exact hT
     rw [hT]
     clear hT HS2
     go_wp2
     go_roundw
     case rel => exact ⟨k + 1, by omega, by go_num, by rw [HS3.out], HJ.out⟩
     case measure => simp [intOf]; omega
  ·
   have hkL : k = L := by omega
   subst hkL
   have HJ : Hid (CpI w ⟨f, mj, kn, rm, ca, cc, cs, pa, pc, ps, qa, qc, qs⟩ ⟨ch, src⟩ C Q N wr) := hO
   clear hO
   rw [List.take_of_length_le (by rw [HL.out.1]; omega)]
   go_wp2
   go_ret
   exact ⟨rfl, HJ.out.one.keeps⟩
def bt (s : ByteArray) (i : Nat) : Nat := if h : i < s.size then (s[i]'h).toNat else 0
theorem bt_of {s : ByteArray} {i : Nat} (h : i < s.size) : (s[i]'h).toNat = bt s i := by unfold bt; rw [dif_pos h]
def chrB (b : Nat) : Bool := letB b || ((decide (48 ≤ b) && decide (b ≤ 57)) || decide (b = 45))
def nameB (s : ByteArray) : Bool := decide (1 ≤ s.size) && (decide (s.size ≤ 16) && (letB (bt s 0) && (List.range s.size).all fun i => chrB (bt s i)))
set_option maxHeartbeats 4000000 in
theorem isName_any (s : ByteArray) (hs : s.size ≤ 9223372036854775807) (w : World) : Calls Tryz.prog 58 #[.string s] w fun e w' => e = .returned (.bool (nameB s)) ∧ w' = w := by
 obtain ⟨B, hB⟩ : ∃ B, nameB s = B := ⟨_, rfl⟩
 have HB : Hid (nameB s = B) := hB
 rw [hB]
 clear hB
 obtain ⟨L, hL⟩ : ∃ L, s.size = L := ⟨_, rfl⟩
 have HL : Hid (s.size = L) := hL
 rw [hL] at hs
 by_cases h1 : L < 1
 ·
  have q1 : decide ((L : Int) < 1) = true := by rw [decide_eq_true_eq]; omega
  go_enter Tryz.func58, Tryz.ntmps58
  go_wp2
  go_ret
  rw [← HB.out]
  unfold nameB
  rw [HL.out, show decide (1 ≤ L) = false by simp; omega]
  exact ⟨rfl, rfl⟩
 ·
  have q1 : decide ((L : Int) < 1) = false := by rw [decide_eq_false_iff_not]; omega
  by_cases h2 : 16 < L
  ·
   have q2 : decide ((16 : Int) < L) = true := by rw [decide_eq_true_eq]; omega
   go_enter Tryz.func58, Tryz.ntmps58
   go_wp2
   go_ret
   rw [← HB.out]
   unfold nameB
   rw [HL.out, show decide (L ≤ 16) = false by simp; omega]
   simp
  ·
   have q2 : decide ((16 : Int) < L) = false := by rw [decide_eq_false_iff_not]; omega
   have HB2 : Hid ((letB (bt s 0) && (List.range L).all fun i => chrB (bt s i)) = B) := by
    refine Hid.mkq ?_
    rw [← HB.out]
    unfold nameB
    rw [HL.out, show decide (1 ≤ L) = true by simp; omega, show decide (L ≤ 16) = true by simp; omega]
    simp
   have hb0 := bt_of (s := s) (i := 0) (by omega)
   have hl0 : 0 < s.size := by omega
   have HC : Hid (∀ (b : Nat) (w : World), Calls Tryz.prog 90 #[.int .u8 (b : Int)] w fun e w' => e = .returned (.bool (letB b)) ∧ w' = w) := isLetter_any
   go_enter Tryz.func58, Tryz.ntmps58
   go_wp2_with fail
   refine (HC.out _ _).mono ?_
   rintro e w1 ⟨rfl, rfl⟩
   obtain ⟨b, hb⟩ : ∃ b, letB (bt s 0) = b := ⟨_, rfl⟩
   rw [hb] at HB2 ⊢
   clear hb
   clear q1 q2 hb0
   cases b with
   | false =>
    go_wp2
    go_ret
    exact ⟨by rw [← HB2.out]; rfl, rfl⟩
   | true =>
    rw [Bool.true_and] at HB2
    go_wp2
    go_loopw [21] (fun i wr => ∃ j : Nat, j ≤ L ∧ i = .int .i64 j ∧ (∀ i, i < j → chrB (bt s i) = true) ∧ wr = w1) (fun i _ => L - (intOf i).toNat)
    case atStart => exact ⟨0, by omega, rfl, fun i hi => by omega, rfl⟩
    case round =>
     obtain ⟨k, hk, rfl, hno, rfl⟩ := hrel
     have HN : Hid (∀ i, i < k → chrB (bt s i) = true) := hno
     clear hno
     by_cases hlt : k < L
     ·
      have hlk : k < s.size := by omega
      have hbk := bt_of hlk
      obtain ⟨c, hc⟩ : ∃ c, bt s k = c := ⟨_, rfl⟩
      have HCc : Hid (bt s k = c) := hc
      rw [hc] at hbk
      clear hc
      go_wp2_with fail
      refine (HC.out _ _).mono ?_
      rintro e w2 ⟨rfl, rfl⟩
      clear hbk
      obtain ⟨b, hb⟩ : ∃ b, letB c = b := ⟨_, rfl⟩
      have HBb : Hid (letB c = b) := hb
      rw [hb]
      clear hb
      have HOK : chrB c = true → ∀ i, i < k + 1 → chrB (bt s i) = true := fun h i hi => by
       by_cases e : i = k
       ·
        subst e; rw [HCc.out]; exact h
       ·
        exact HN.out i (by omega)
      have HBAD : chrB c = false → B = false := fun h => by
       rw [← HB2.out]
       rw [List.all_eq_false]
       exact ⟨k, List.mem_range.2 hlt, by rw [HCc.out, h]; simp⟩
      have HOK := Hid.mkq HOK
      have HBAD := Hid.mkq HBAD
      cases b with
      | true =>
       have HX : Hid (chrB c = true) := by refine Hid.mkq ?_; unfold chrB; rw [HBb.out]; rfl
       go_wp2
       go_roundw
       case rel => exact ⟨k + 1, by omega, by go_num, HOK.out HX.out, by trivial⟩
       case measure => simp [intOf]; omega
      | false =>
       by_cases hc1 : c < 48
       ·
        have q1 : decide ((c : Int) < 48) = true := by rw [decide_eq_true_eq]; omega
        by_cases hc2 : c = 45
        ·
         have HX : Hid (chrB c = true) := by refine Hid.mkq ?_; unfold chrB; rw [hc2]; rfl
         have q2 : ((c : Int) == 45) = true := by rw [hc2]; rfl
         clear hc2
         go_wp2
         go_roundw
         case rel => exact ⟨k + 1, by omega, by go_num, HOK.out HX.out, by trivial⟩
         case measure => simp [intOf]; omega
        ·
         have HX : Hid (chrB c = false) := by
          refine Hid.mkq ?_; unfold chrB; rw [HBb.out]; simp; omega
         have q2 : ((c : Int) == 45) = false := by simp; omega
         go_wp2
         go_ret
         rw [HBAD.out HX.out]
         exact ⟨rfl, rfl⟩
       ·
        have q1 : decide ((c : Int) < 48) = false := by rw [decide_eq_false_iff_not]; omega
        by_cases hc2 : 57 < c
        ·
         have q2 : decide ((57 : Int) < c) = true := by rw [decide_eq_true_eq]; omega
         have q3 : ((c : Int) == 45) = false := by simp; omega
         have HX : Hid (chrB c = false) := by
          refine Hid.mkq ?_; unfold chrB; rw [HBb.out]; simp; omega
         go_wp2
         go_ret
         rw [HBAD.out HX.out]
         exact ⟨rfl, rfl⟩
        ·
         have q2 : decide ((57 : Int) < c) = false := by rw [decide_eq_false_iff_not]; omega
         have HX : Hid (chrB c = true) := by
          refine Hid.mkq ?_; unfold chrB; rw [HBb.out]; simp; omega
         go_wp2
         go_roundw
         case rel => exact ⟨k + 1, by omega, by go_num, HOK.out HX.out, by trivial⟩
         case measure => simp [intOf]; omega
     ·
      have hkL : k = L := by omega
      go_wp2
      go_ret
      refine ⟨?_, rfl⟩
      have : B = true := by
       rw [← HB2.out, List.all_eq_true]
       intro i hi
       exact HN.out i (by rw [List.mem_range] at hi; omega)
      rw [this]
      rfl
end Go.Proofs.YtlnmlbkeemahcaaGreat
