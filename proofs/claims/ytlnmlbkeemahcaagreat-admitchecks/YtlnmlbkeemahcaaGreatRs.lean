import Derived.Test.YtlnmlbkeemahcaaGreatRd
import Derived.Test.YtlnmlbkeemahcaaGreatO
import Derived.Handy
namespace Go.Proofs.YtlnmlbkeemahcaaGreat
open Go.RowKit
set_option linter.unusedVariables false
set_option maxRecDepth 6000
theorem Tryz.info113' : (Tryz.prog.info? 113).map (fun i => (i.zero, i.size, i.bytes)) = some (some (.agg #[.int .i64 0, .int .i64 0, .int .i64 0, .int .i64 0, .int .i64 0]), 5, 40) := by kernel_rfl
structure Pc where
 pos : Int
 size : Int
 ow : Ow
abbrev Pc.vs (x : Pc) : List Value := [.int .i64 x.pos, .int .i64 x.size, .int .i64 x.ow.kind, .int .i64 x.ow.idx, .int .i64 x.ow.port]
def ePc : Elem Pc := ⟨Pc.vs, 5, 113, fun _ => rfl, by decide, fun _ _ => True, fun _ => [], fun h _ _ => h⟩
theorem ePc_bl (x : Pc) : ePc.bl x = [] := rfl
def ann : Int → List (Ow × Int) → List Pc
 | _, [] => []
 | a, (o, k) :: t => ⟨a, k, o⟩ :: ann (a + k) t
def szH (l : List (Ow × Int)) : Int := (l.map (·.2)).sum
theorem ann_append (a : Int) (l m : List (Ow × Int)) : ann a (l ++ m) = ann a l ++ ann (a + szH l) m := by
 induction l generalizing a with
 | nil => simp [ann, szH]
 | cons h t ih =>
  obtain ⟨o, k⟩ := h
  simp only [List.cons_append, ann, ih, szH, List.map_cons, List.sum_cons]
  rw [Int.add_assoc]
theorem szH_append (l m : List (Ow × Int)) : szH (l ++ m) = szH l + szH m := by simp [szH]
theorem ann_length (a : Int) (l : List (Ow × Int)) : (ann a l).length = l.length := by
 induction l generalizing a with
 | nil => rfl
 | cons h t ih => obtain ⟨o, k⟩ := h; simp [ann, ih]
structure PcI (w : World) (x : Cfg) (C N : Nat) (l : List Pc) (u : Value) (w' : World) : Prop where
 one : One w x C N w'
 row : Row ePc w' (C + 1) u l
 sz : C + 1 ≤ w'.heap.size
 cw : C = w.heap.size
section
variable {w w' w'' : World} {x : Cfg} {C N : Nat} {l : List Pc} {u : Value}
theorem PcI.grow (h : PcI w x C N l u w') (hK : KF w' w'') : PcI w x C N l u w'' := ⟨h.one.kept hK, h.row.kept hK fun _ h => h.elim, Nat.le_trans h.sz hK.size, h.cw⟩
theorem PcI.push (h : PcI w x C N l u w') (p : Pc) (hl : l.length < 1000000) :
  ∃ v' W', (∀ ty, (Builtin.append_ #[108, 108] ty #[u, .slice (some ⟨w'.heap.size, 0, none⟩) 1 1]).run Tryz.prog (w'.alloc (.cells p.vs.toArray 113)) = .ok v' W') ∧ PcI w x C N (l ++ [p]) v' W' ∧ Keeps (fun k => some k = u.ownBlock) w' W' ∧ (v'.ownBlock = u.ownBlock ∨ ∃ k, v'.ownBlock = some k ∧ w'.heap.size ≤ k) := by
 obtain ⟨i0, hi, hz0, hz1, hz2⟩ := info_parts Tryz.info113'
 have h1 : ∀ v ∈ p.vs, v.oneCell' = true := by
  intro v hv
  simp only [Pc.vs, List.mem_cons, List.not_mem_nil, or_false] at hv
  rcases hv with rfl | rfl | rfl | rfl | rfl <;> rfl
 obtain ⟨v', W', happ, hown', hfr', hKa⟩ := append_new 108 113 i0 _ 5 40 Tryz.underlying108 hi hz0 hz1 hz2 rfl (by omega) u l.length (l.flatMap Pc.vs) h.row.own p.vs.toArray rfl (by simpa using h1) (by unfold maxLen; omega) (by omega)
 have hrow : Row ePc W' (C + 1) v' (l ++ [p]) := h.row.push trivial (fun k hk => by cases hk) h.sz (show W'.ownsRow 0 113 5 v' (l.length + 1) (l.flatMap Pc.vs ++ p.vs) from by simpa using hown') hfr' hKa
 have hn := h.one.n
 have hcw := h.cw
 have hlow := h.row.low
 refine ⟨v', W', happ, ⟨h.one.kept' hKa (fun e => by have := hlow C e.symm; omega) (fun k e => by have := hlow k e.symm; omega) (fun k e => by have := hlow k e.symm; omega), hrow, Nat.le_trans h.sz hKa.size, hcw⟩, hKa, hfr'⟩
structure PcJ (w : World) (x : Cfg) (C N : Nat) (l : List Pc) (u : Value) (E : Nat) (vs : List Value) (t : TypeId) (w' : World) : Prop where
 pi : PcI w x C N l u w'
 bx : Blk w' E vs t
 ne : u.ownBlock ≠ some E
theorem PcJ.grow {E : Nat} {vs : List Value} {t : TypeId} (h : PcJ w x C N l u E vs t w') (hK : KF w' w'') : PcJ w x C N l u E vs t w'' := ⟨h.pi.grow hK, h.bx.kept hK fun h => h, h.ne⟩
theorem PcJ.push {E : Nat} {vs : List Value} {t : TypeId} (h : PcJ w x C N l u E vs t w') (p : Pc) (hl : l.length < 1000000) :
  ∃ v' W', (∀ ty, (Builtin.append_ #[108, 108] ty #[u, .slice (some ⟨w'.heap.size, 0, none⟩) 1 1]).run Tryz.prog (w'.alloc (.cells p.vs.toArray 113)) = .ok v' W') ∧ PcJ w x C N (l ++ [p]) v' E vs t W' := by
 obtain ⟨v', W', h1, h2, h3, h4⟩ := h.pi.push p hl
 refine ⟨v', W', h1, h2, h.bx.kept h3 fun e => h.ne e.symm, fun e => ?_⟩
 rcases h4 with h4 | ⟨k, h4, h5⟩
 ·
  exact h.ne (h4 ▸ e)
 ·
  rw [h4] at e; cases e; have := h.bx.lt; omega
end
def pcA (a : Int) (j : Nat) : List Pc := ⟨a, 2, ⟨2, 0, 0⟩⟩ :: ann (a + 2) (partH j)
theorem szH_partH (j : Nat) : szH (partH j) = 24 * j := by
 induction j with
 | zero => rfl
 | succ j ih => rw [partH_succ, szH_append, ih]; simp [szH]; omega
theorem pcA_succ (a : Int) (j : Nat) : pcA a (j + 1) = pcA a j ++ [⟨a + 2 + 24 * j, 2, ⟨3, j, 0⟩⟩] ++ [⟨a + 2 + 24 * j + 2, 17, ⟨4, j, 0⟩⟩] ++ [⟨a + 2 + 24 * j + 2 + 17, 5, ⟨5, j, 0⟩⟩] := by
 unfold pcA
 rw [partH_succ, ann_append, szH_partH]
 simp [ann]
theorem pcA_len (a : Int) (j : Nat) : (pcA a j).length = 1 + 3 * j := by
 induction j with
 | zero => rfl
 | succ j ih => rw [pcA_succ]; simp [ih]; omega
def destHl (D : List Dst) (k : Int) : List (Ow × Int) := D.map fun d => (⟨8, d.p, d.q⟩, k)
theorem destH_all (D : List Dst) (k : Int) : destH D k D.length = destHl D k := by unfold destH destHl; rw [List.take_length]
theorem szH_destHl (D : List Dst) (k : Int) : szH (destHl D k) = D.length * k := by
 induction D with
 | nil => simp [szH, destHl]
 | cons d t ih =>
  have : szH (destHl (d :: t) k) = k + szH (destHl t k) := by simp [szH, destHl]
  rw [this, ih]
  simp only [List.length_cons, Int.natCast_add, Int.natCast_one, Int.add_mul, Int.one_mul]
  omega
theorem destHl_snoc (D : List Dst) (d : Dst) (k : Int) : destHl (D ++ [d]) k = destHl D k ++ [(⟨8, d.p, d.q⟩, k)] := by simp [destHl]
theorem szH_chansH {x : Cfg} (b : Int) (n : Nat) (hn : n ≤ x.hs.length) : b + szH (chansH x n) = chAt x b n := by
 induction n with
 | zero => simp [chansH, szH, chAt]
 | succ n ih =>
  have hh : x.hs[n]? = some x.hs[n] := List.getElem?_eq_getElem (by omega)
  rw [chansH_succ hh, chAt_succ hh, szH_append, ← ih (by omega)]
  unfold chanH
  rw [szH_append, destH_all, szH_destHl]
  simp only [szH, List.map_cons, List.map_nil, List.sum_cons, List.sum_nil]
  omega
def pcB (x : Cfg) (a : Int) (n : Nat) : List Pc := pcA a x.ps.length ++ ann (chB x a) (chansH x n)
def pcD (x : Cfg) (a : Int) (n : Nat) (h : Chn) (D : List Dst) : List Pc := pcB x a n ++ [⟨chAt x (chB x a) n, 2, ⟨6, n, 0⟩⟩] ++ [⟨chAt x (chB x a) n + 2, h.stg, ⟨7, n, 0⟩⟩] ++ ann (chAt x (chB x a) n + 2 + h.stg) (destHl D h.prt)
theorem pcD_snoc (x : Cfg) (a : Int) (n : Nat) (h : Chn) (D : List Dst) (d : Dst) : pcD x a n h (D ++ [d]) = pcD x a n h D ++ [⟨chAt x (chB x a) n + 2 + h.stg + D.length * h.prt, h.prt, ⟨8, d.p, d.q⟩⟩] := by
 unfold pcD
 rw [destHl_snoc, ann_append, szH_destHl, ← List.append_assoc]
 rfl
theorem pcB_succ {x : Cfg} {a : Int} {n : Nat} {h : Chn} (hh : x.hs[n]? = some h) : pcB x a (n + 1) = pcD x a n h (dstsOf x n) := by
 have hn : n ≤ x.hs.length := by have := (List.getElem?_eq_some_iff.1 hh).1; omega
 unfold pcB pcD pcB
 rw [chansH_succ hh, ann_append, szH_chansH _ _ hn]
 unfold chanH
 rw [destH_all]
 simp [ann, List.append_assoc]
theorem pcD_len (x : Cfg) (a : Int) (n : Nat) (h : Chn) (D : List Dst) : (pcD x a n h D).length = (pcB x a n).length + 2 + D.length := by
 unfold pcD; simp [ann_length, destHl]; omega
theorem pcB_len {x : Cfg} (hm : x.mayB = true) (a : Int) (n : Nat) (hn : n ≤ x.hs.length) : (pcB x a n).length ≤ 25 + 6 * n := by
 induction n with
 | zero => have := (Cfg.mayB_iff.1 hm).2.2.1; unfold pcB; simp [pcA_len, ann, chansH]; omega
 | succ n ih =>
  have hh : x.hs[n]? = some x.hs[n] := List.getElem?_eq_getElem (by omega)
  have h4 := (Cfg.mayB_chn hm hh).2.2.2
  have h5 : (dstsOf x n).length ≤ 4 := h4
  rw [pcB_succ hh, pcD_len]
  have := ih (by omega)
  omega
theorem szH_rep (o : Ow) (k : Nat) : szH (List.replicate k (o, (16 : Int))) = 16 * k := by
 induction k with
 | zero => rfl
 | succ k ih => rw [List.replicate_succ', szH_append, ih]; simp [szH]; omega
theorem szH_tabsH {x : Cfg} (b : Int) (n : Nat) (hn : n ≤ x.ps.length) : b + szH (tabsH x n) = rtAt x b n := by
 induction n with
 | zero => simp [tabsH, szH, rtAt]
 | succ n ih =>
  have hh : x.ps[n]? = some x.ps[n] := List.getElem?_eq_getElem (by omega)
  rw [tabsH_succ hh, rtAt_succ hh, szH_append, ← ih (by omega), szH_rep]
  omega
theorem tabsH_len (x : Cfg) (n : Nat) : (tabsH x n).length ≤ 17 * n := by
 induction n with
 | zero => simp [tabsH]
 | succ n ih =>
  cases hh : x.ps[n]? with
  | none =>
   have : tabsH x (n + 1) = tabsH x n := by unfold tabsH; rw [List.range_succ, List.flatMap_append]; simp [hh]
   rw [this]; omega
  | some P => rw [tabsH_succ hh]; have := cntT_le P.rs 16; simp; omega
def pcAll (x : Cfg) (a : Int) : List Pc := pcB x a x.hs.length ++ ann (rtB x a) (tabsH x x.ps.length)
def PiecesP (x : Cfg) (w : World) (e : Ending) (w' : World) : Prop := ∃ u, e = .returned u ∧ Row ePc w' w.heap.size u (pcAll x (16 * x.kernel)) ∧ KF w w'
set_option maxHeartbeats 16000000 in
theorem pieces_any (x : Cfg) (hm : x.mayB = true) (w : World) (N : Nat) (hi : x.In w N) (hN : N ≤ w.heap.size) : Calls Tryz.prog 89 #[x.v] w (PiecesP x w) := by
 have HM : Hid (x.mayB = true) := hm
 have hk := Cfg.mayB_iff.1 hm
 have hk0 := hk.1
 have hk1 := hk.2.1
 have h8 := hk.2.2.1
 have h16 := hk.2.2.2.1
 obtain ⟨W, hW⟩ : ∃ W, W = x.laid w := ⟨_, rfl⟩
 obtain ⟨C, hC⟩ : ∃ C, C = w.heap.size := ⟨_, rfl⟩
 have HO : Hid (One w x C N W ∧ C + 1 ≤ W.heap.size ∧ C = w.heap.size) := by rw [hW, hC]; exact ⟨One.mk' hi hN, by simp [Cfg.laid], rfl⟩
 obtain ⟨L, hL⟩ : ∃ L, x.ps.length = L := ⟨_, rfl⟩
 obtain ⟨H, hH⟩ : ∃ H, x.hs.length = H := ⟨_, rfl⟩
 have HLH : Hid (x.ps.length = L ∧ x.hs.length = H) := ⟨hL, hH⟩
 have hpc : (L : Int) ≤ x.pc ∧ (x.pc : Int) ≤ 9223372036854775807 := by have := hi.plen; unfold maxLen at this; omega
 have hhc : (H : Int) ≤ x.hc ∧ (x.hc : Int) ≤ 9223372036854775807 := by have := hi.hlen; unfold maxLen at this; omega
 rw [hL] at h8
 rw [hH] at h16
 obtain ⟨a, ha⟩ : ∃ a, 16 * x.kernel = a := ⟨_, rfl⟩
 have HA : Hid (16 * x.kernel = a) := ha
 have hab : 0 ≤ a ∧ a ≤ 16384 := by omega
 have v0 : IntKind.i64.wrap (16 * x.kernel) = a := by rw [IntKind.wrap_i64]; omega
 have v1 : IntKind.i64.wrap (a + 2) = a + 2 := by rw [IntKind.wrap_i64]; omega
 simp only [Cfg.v, Cfg.laid, hL, hH] at hW ⊢
 clear hk hm hi hN hL hH hk0 hk1 ha
 go_enter Tryz.func89, Tryz.ntmps89
 go_upto_region 2 with fail
 rw [← hW, ← hC]
 clear hW hC
 have c2 := HO.out.1.cells.2.2.1
 have HP0 : Hid (PcI w x C N [] (.slice none 0 0) W) := ⟨HO.out.1, Row.nil _ _, HO.out.2.1, HO.out.2.2⟩
 obtain ⟨u1, W1, hap, hp1, _⟩ := HP0.out.push ⟨a, 2, ⟨2, 0, 0⟩⟩ (by simp)
 have HAP : Hid (∀ ty, (Builtin.append_ #[108, 108] ty #[.slice none 0 0, .slice (some ⟨W.heap.size, 0, none⟩) 1 1]).run Tryz.prog (W.alloc (.cells #[.int .i64 a, .int .i64 2, .int .i64 2, .int .i64 0, .int .i64 0] 113)) = .ok u1 W1) := hap
 have HP1 : Hid (PcI w x C N (pcA a 0) u1 W1) := hp1
 clear hap hp1
 go_wp2_with (at_builtin; go_must (refine wpList_append_run rfl (.tmp 17) (.tmp 21) 108 108 rfl (.slice none 0 0) (.slice (some ⟨W.heap.size, 0, none⟩) 1 1) u1 W1 rfl rfl HAP.out ?_; refine Hid.out ?_))
 unfold Hid
 clear HAP c2 HP0
 have c5 : W1.cell? ⟨C, 5, none⟩ = some (.slice x.pa L x.pc) := by rw [← HLH.out.1]; exact HP1.out.one.cells.2.2.2.2.2.1
 go_wp2
 go_loopw [3, 4, 28] (fun u p i wr => ∃ j : Nat, j ≤ L ∧ i = .int .i64 j ∧ p = .int .i64 (a + 2 + 24 * j) ∧ PcI w x C N (pcA a j) u wr) (fun _ _ i _ => L - (intOf i).toNat)
 case atStart => exact ⟨0, by omega, rfl, by simp, HP1.out⟩
 case round =>
  obtain ⟨j, hj, rfl, rfl, hI⟩ := hrel
  clear c5
  by_cases hlt : j < L
  ·
   have hlen := pcA_len a j
   obtain ⟨u2, W2, ap2, p2, _⟩ := hI.push ⟨a + 2 + 24 * j, 2, ⟨3, j, 0⟩⟩ (by rw [hlen]; omega)
   obtain ⟨u4, W4, ap4, p4, _⟩ := p2.push ⟨a + 2 + 24 * j + 2, 17, ⟨4, j, 0⟩⟩ (by simp [hlen]; omega)
   obtain ⟨u5, W5, ap5, p5, _⟩ := p4.push ⟨a + 2 + 24 * j + 2 + 17, 5, ⟨5, j, 0⟩⟩ (by simp [hlen]; omega)
   rw [← pcA_succ] at p5
   obtain ⟨A, hAe⟩ : ∃ A, a + 2 + 24 * (j : Int) = A := ⟨_, rfl⟩
   have HN : Hid (PcI w x C N (pcA a (j + 1)) u5 W5 ∧ a + 2 + 24 * ((j + 1 : Nat) : Int) = A + 24) := ⟨p5, by omega⟩
   have hAb : 0 ≤ A ∧ A ≤ 20000 := by omega
   rw [hAe] at ap2 ap4 ap5 ⊢
   have A2 : Hid (∀ ty, (Builtin.append_ #[108, 108] ty #[u3, .slice (some ⟨wr.heap.size, 0, none⟩) 1 1]).run Tryz.prog (wr.alloc (.cells #[.int .i64 A, .int .i64 2, .int .i64 3, .int .i64 j, .int .i64 0] 113)) = .ok u2 W2) := ap2
   have A4 : Hid (∀ ty, (Builtin.append_ #[108, 108] ty #[u2, .slice (some ⟨W2.heap.size, 0, none⟩) 1 1]).run Tryz.prog (W2.alloc (.cells #[.int .i64 (A + 2), .int .i64 17, .int .i64 4, .int .i64 j, .int .i64 0] 113)) = .ok u4 W4) := ap4
   have A5 : Hid (∀ ty, (Builtin.append_ #[108, 108] ty #[u4, .slice (some ⟨W4.heap.size, 0, none⟩) 1 1]).run Tryz.prog (W4.alloc (.cells #[.int .i64 (A + 2 + 17), .int .i64 5, .int .i64 5, .int .i64 j, .int .i64 0] 113)) = .ok u5 W5) := ap5
   have q1 : IntKind.i64.wrap (A + 2) = A + 2 := by rw [IntKind.wrap_i64]; omega
   have q2 : IntKind.i64.wrap (A + 2 + 17) = A + 2 + 17 := by rw [IntKind.wrap_i64]; omega
   have q3 : IntKind.i64.wrap (A + 24) = A + 24 := by rw [IntKind.wrap_i64]; omega
   clear hI p2 p4 p5 ap2 ap4 ap5 hAe hlen
   go_wp2_with (at_builtin; go_must (refine wpList_append_run rfl (.tmp 31) (.tmp 36) 108 108 rfl u3 (.slice (some ⟨wr.heap.size, 0, none⟩) 1 1) u2 W2 rfl rfl A2.out ?_; refine Hid.out ?_))
   unfold Hid
   go_wp2_with (at_builtin; go_must (refine wpList_append_run rfl (.tmp 38) (.tmp 44) 108 108 rfl u2 (.slice (some ⟨W2.heap.size, 0, none⟩) 1 1) u4 W4 rfl rfl A4.out ?_; refine Hid.out ?_))
   unfold Hid
   go_wp2_with (at_builtin; go_must (refine wpList_append_run rfl (.tmp 46) (.tmp 53) 108 108 rfl u4 (.slice (some ⟨W4.heap.size, 0, none⟩) 1 1) u5 W5 rfl rfl A5.out ?_; refine Hid.out ?_))
   unfold Hid
   clear A2 A4 A5
   go_wp2
   go_roundw
   case rel => exact ⟨j + 1, by omega, by go_num, by rw [HN.out.2], HN.out.1⟩
   case measure => simp [intOf]; omega
  ·
   obtain rfl : L = j := by omega
   have HPA : Hid (PcI w x C N (pcB x a 0) u3 wr ∧ a + 2 + 24 * (L : Int) = chB x a) := by
    refine ⟨?_, by unfold chB; rw [HLH.out.1]⟩
    have : pcB x a 0 = pcA a L := by unfold pcB; rw [HLH.out.1]; simp [chansH, ann]
    rw [this]; exact hI
   have c6 : wr.cell? ⟨C, 6, none⟩ = some (.slice x.ha H x.hc) := by rw [← HLH.out.2]; exact hI.one.cells.2.2.2.2.2.2
   rw [HPA.out.2]
   obtain ⟨B, hBe⟩ : ∃ B, chB x a = B := ⟨_, rfl⟩
   have HB : Hid (chB x a = B ∧ 0 ≤ B ∧ B ≤ 20000) := ⟨hBe, by have := HPA.out.2; omega, by have := HPA.out.2; omega⟩
   rw [hBe]
   clear hI HP1 hBe
   obtain ⟨wA, hwA⟩ : ∃ wA, wA = wr := ⟨_, rfl⟩
   subst hwA
   go_wp2
   go_loopw [3, 4, 61] (fun u p i wr => ∃ n : Nat, n ≤ H ∧ i = .int .i64 n ∧ p = .int .i64 (chAt x B n) ∧ PcI w x C N (pcB x a n) u wr) (fun _ _ i _ => H - (intOf i).toNat)
   case atStart => exact ⟨0, by omega, rfl, rfl, HPA.out.1⟩
   case round =>
    obtain ⟨n, hn, rfl, rfl, hI⟩ := hrel
    clear c6
    obtain ⟨wB, hwB⟩ : ∃ wB, wB = wr := ⟨_, rfl⟩
    subst hwB
    obtain ⟨uB, huB⟩ : ∃ uB, uB = u3 := ⟨_, rfl⟩
    subst huB
    by_cases hlt : n < H
    ·
     obtain ⟨h, hh⟩ : ∃ h, x.hs[n]? = some h := ⟨_, List.getElem?_eq_getElem (by have := HLH.out.2; omega)⟩
     have c6 : wB.cell? ⟨C, 6, none⟩ = some (.slice x.ha H x.hc) := by rw [← HLH.out.2]; exact hI.one.cells.2.2.2.2.2.2
     obtain ⟨g1, o1, hha, hg1⟩ := hI.one.cin.chn hh
     have y0 := hg1 0 _ rfl
     rw [Nat.add_zero] at y0
     have y1 := hg1 1 _ rfl
     have y2 := hg1 2 _ rfl
     obtain ⟨hsz, _, hd1, hd4⟩ := Cfg.mayB_chn HM.out hh
     have hbd := Chn.plc_bd hsz
     have hst : 3 ≤ h.stg ∧ h.stg ≤ 137 := by unfold Chn.stg; omega
     have hpt : 4 ≤ h.prt ∧ h.prt ≤ 139 := by unfold Chn.prt; split <;> omega
     have hlen := pcB_len HM.out a n (by rw [HLH.out.2]; exact hn)
     have hca := chAt_bd HM.out B n
     have hBb := HB.out.2
     obtain ⟨W1', hW1'⟩ : ∃ W1', W1' = wB.alloc (.cells #[.int .i64 h.kind, .int .i64 h.words, .int .i64 h.depth] 48) := ⟨_, rfl⟩
     obtain ⟨E, hE⟩ : ∃ E, E = wB.heap.size := ⟨_, rfl⟩
     have hJ1 : PcJ w x C N (pcB x a n) uB E h.vs 48 W1' := by
      have k1 : KF wB W1' := by rw [hW1']; exact (Keeps.refl _ _).alloc _
      refine ⟨hI.grow k1, by rw [hW1', hE]; exact Blk.new _ _ _, fun e => ?_⟩
      have := hI.row.lt E e
      omega
     obtain ⟨A, hAe⟩ : ∃ A, chAt x B n = A := ⟨_, rfl⟩
     obtain ⟨SG, hSG⟩ : ∃ SG, h.stg = SG := ⟨_, rfl⟩
     obtain ⟨u2, W2, ap2, p2⟩ := hJ1.push ⟨chAt x (chB x a) n, 2, ⟨6, n, 0⟩⟩ (by omega)
     have hAe2 : chAt x (chB x a) n = A := by rw [HB.out.1]; exact hAe
     rw [hAe2] at ap2
     have A2 : Hid (∀ ty, (Builtin.append_ #[108, 108] ty #[uB, .slice (some ⟨W1'.heap.size, 0, none⟩) 1 1]).run Tryz.prog (W1'.alloc (.cells #[.int .i64 A, .int .i64 2, .int .i64 6, .int .i64 n, .int .i64 0] 113)) = .ok u2 W2) := ap2
     have HC : Hid (PcJ w x C N (pcB x a n ++ [⟨chAt x (chB x a) n, 2, ⟨6, n, 0⟩⟩]) u2 E h.vs 48 W2 ∧ x.hs[n]? = some h ∧ h.sized = true ∧ h.stg = SG ∧ chAt x (chB x a) n = A ∧ (pcB x a n).length ≤ 25 + 6 * n) := ⟨p2, hh, hsz, hSG, hAe2, hlen⟩
     have q1 : IntKind.i64.wrap (A + 2) = A + 2 := by rw [IntKind.wrap_i64]; omega
     have q2 : IntKind.i64.wrap (2 + SG) = 2 + SG := by rw [IntKind.wrap_i64]; omega
     have q3 : IntKind.i64.wrap (A + (2 + SG)) = A + (2 + SG) := by rw [IntKind.wrap_i64]; omega
     have hA1 : 0 ≤ A ∧ A ≤ 40000 := by omega
     have HRS : Hid (∀ w, Calls Tryz.prog 113 #[h.v] w fun e w' => e = .returned (.int .i64 SG) ∧ KF w w') := fun w => by have := rStage_any h w; rw [Chn.stgO_yes hsz, hSG] at this; exact this
     have HRP : Hid (∀ w, Calls Tryz.prog 111 #[h.v] w fun e w' => e = .returned (.int .i64 h.prt) ∧ KF w w') := fun w => by have := rPort_any h w; rw [Chn.prtO_yes hsz] at this; exact this
     rw [hAe]
     clear hI hJ1 p2 ap2 hg1 hsz hd1 hd4 hbd hlen hca hBb hAe hAe2
     rw [hha] at c6 ⊢
     go_upto_region 17 with fail
     rw [← hW1', ← hE]
     clear hW1' hE y0 y1 y2 c6
     go_wp2_with (at_builtin; go_must (refine wpList_append_run rfl (.tmp 69) (.tmp 74) 108 108 rfl uB (.slice (some ⟨W1'.heap.size, 0, none⟩) 1 1) u2 W2 rfl rfl A2.out ?_; refine Hid.out ?_))
     unfold Hid
     clear A2
     have b0 := HC.out.1.bx.cell (i := 0) rfl
     have b1 := HC.out.1.bx.cell (i := 1) rfl
     have b2 := HC.out.1.bx.cell (i := 2) rfl
     go_wp2_with fail
     refine (HRS.out W2).mono ?_
     rintro e w3 ⟨rfl, hK⟩
     obtain ⟨u4, W4, ap4, p4⟩ := (HC.out.1.grow hK).push ⟨chAt x (chB x a) n + 2, h.stg, ⟨7, n, 0⟩⟩ (by have := HC.out.2.2.2.2.2; simp; omega)
     have A4 : Hid (∀ ty, (Builtin.append_ #[108, 108] ty #[u2, .slice (some ⟨w3.heap.size, 0, none⟩) 1 1]).run Tryz.prog (w3.alloc (.cells #[.int .i64 (A + 2), .int .i64 SG, .int .i64 7, .int .i64 n, .int .i64 0] 113)) = .ok u4 W4) := by
      rw [HC.out.2.2.2.2.1, HC.out.2.2.2.1] at ap4; exact ap4
     have HD4 : Hid (PcJ w x C N (pcD x a n h []) u4 E h.vs 48 W4) := by
      have : pcD x a n h [] = pcB x a n ++ [⟨chAt x (chB x a) n, 2, ⟨6, n, 0⟩⟩] ++ [⟨chAt x (chB x a) n + 2, h.stg, ⟨7, n, 0⟩⟩] := by unfold pcD; simp [destHl, ann]
      rw [this]; exact p4
     clear hK ap4 p4 b0 b1 b2
     go_wp2_with (at_builtin; go_must (refine wpList_append_run rfl (.tmp 76) (.tmp 84) 108 108 rfl u2 (.slice (some ⟨w3.heap.size, 0, none⟩) 1 1) u4 W4 rfl rfl A4.out ?_; refine Hid.out ?_))
     unfold Hid
     clear A4
     have b0 := HD4.out.bx.cell (i := 0) rfl
     have b1 := HD4.out.bx.cell (i := 1) rfl
     have b2 := HD4.out.bx.cell (i := 2) rfl
     go_wp2_with fail
     refine (HRS.out W4).mono ?_
     rintro e w5 ⟨rfl, hK⟩
     have HD5 : Hid (PcJ w x C N (pcD x a n h []) u4 E h.vs 48 w5) := HD4.out.grow hK
     clear hK b0 b1 b2
     have c5 : w5.cell? ⟨C, 5, none⟩ = some (.slice x.pa L x.pc) := by rw [← HLH.out.1]; exact HD5.out.pi.one.cells.2.2.2.2.2.1
     obtain ⟨PT, hPT⟩ : ∃ PT, h.prt = PT := ⟨_, rfl⟩
     rw [hPT] at HRP hpt
     have HPT : Hid (h.prt = PT) := hPT
     clear hPT
     obtain ⟨A0, hA0⟩ : ∃ A0, A + (2 + SG) = A0 := ⟨_, rfl⟩
     have HA0 : Hid (A + (2 + SG) = A0) := hA0
     have hA0b : 0 ≤ A0 ∧ A0 ≤ 41000 := by omega
     have q3' : IntKind.i64.wrap (A + (2 + SG)) = A0 := by rw [q3, hA0]
     clear hA0 q3
     go_wp2
     go_loopw [3, 4, 94] (fun u p i' wr => ∃ i : Nat, i ≤ L ∧ i' = .int .i64 i ∧ p = .int .i64 (A0 + ((endsL false n x.ps i).length : Int) * PT) ∧ PcJ w x C N (pcD x a n h (endsL false n x.ps i)) u E h.vs 48 wr) (fun _ _ i' _ => L - (intOf i').toNat)
     case atStart => exact ⟨0, by omega, rfl, by simp [endsL], HD5.out⟩
     case round =>
      obtain ⟨i, hi', rfl, rfl, hJ⟩ := hrel
      clear c5
      obtain ⟨wD, hwD⟩ : ∃ wD, wD = wr := ⟨_, rfl⟩
      subst hwD
      obtain ⟨uD, huD⟩ : ∃ uD, uD = u3 := ⟨_, rfl⟩
      subst huD
      by_cases hlt2 : i < L
      ·
       obtain ⟨X, hX⟩ : ∃ X, x.ps[i]? = some X := ⟨_, List.getElem?_eq_getElem (by have := HLH.out.1; omega)⟩
       obtain ⟨g0, o0, hpa, hc⟩ := hJ.pi.one.cin.par hX
       have p7 := hc 7 _ rfl
       have c5 : wD.cell? ⟨C, 5, none⟩ = some (.slice x.pa L x.pc) := by rw [← HLH.out.1]; exact hJ.pi.one.cells.2.2.2.2.2.1
       have hXi := hJ.pi.one.cin.pin X (List.mem_of_getElem? hX)
       obtain ⟨XL, hXL⟩ : ∃ XL, X.ps.length = XL := ⟨_, rfl⟩
       rw [hXL] at p7
       have hxc : (XL : Int) ≤ X.pc ∧ (X.pc : Int) ≤ 9223372036854775807 := by have := hXi.plen; unfold maxLen at this; omega
       have hX8 : XL ≤ 8 := by rw [← hXL]; exact (Par.mayB_iff.1 ((Cfg.mayB_iff.1 HM.out).2.2.2.2.1 X (List.mem_of_getElem? hX))).2.1
       have hel := endsL_len (b := false) (n := n) (Cfg.mayB_ends HM.out).2 i
       have HJ : Hid (PcJ w x C N (pcD x a n h (endsL false n x.ps i)) uD E h.vs 48 wD ∧ x.ps[i]? = some X ∧ X.ps.length = XL ∧ x.pa = some ⟨g0, o0, none⟩ ∧ (endsL false n x.ps i).length ≤ 64) := ⟨hJ, hX, hXL, hpa, by omega⟩
       rw [hpa] at c5 ⊢
       clear hJ hX hc hXi hXL hel hpa
       go_wp2
       clear p7 c5
       go_loopw [3, 4, 104] (fun u p i' wr => ∃ q : Nat, q ≤ XL ∧ i' = .int .i64 q ∧ p = .int .i64 (A0 + ((endsL false n x.ps i ++ portsOf false n i X.ps q).length : Int) * PT) ∧ PcJ w x C N (pcD x a n h (endsL false n x.ps i ++ portsOf false n i X.ps q)) u E h.vs 48 wr) (fun _ _ i' _ => XL - (intOf i').toNat)
       case atStart => exact ⟨0, by omega, rfl, by simp [portsOf], by simpa [portsOf] using HJ.out.1⟩
       case round =>
        obtain ⟨q, hq, rfl, rfl, hJ⟩ := hrel
        by_cases hlq : q < XL
        ·
         obtain ⟨y, hy⟩ : ∃ y, X.ps[q]? = some y := ⟨_, List.getElem?_eq_getElem (by have := HJ.out.2.2.1; omega)⟩
         have hXi := hJ.pi.one.cin.pin X (List.mem_of_getElem? HJ.out.2.1)
         obtain ⟨g2, o2, ha2, hg2⟩ := hXi.pseg.at hy
         obtain ⟨gg, oo, e, hc⟩ := hJ.pi.one.cin.par HJ.out.2.1
         rw [HJ.out.2.2.2.1] at e
         cases e
         have p7 := hc 7 _ rfl
         rw [HJ.out.2.2.1, ha2] at p7
         have c5 : wr.cell? ⟨C, 5, none⟩ = some (.slice (some ⟨g0, o0, none⟩) L x.pc) := by rw [← HLH.out.1, ← HJ.out.2.2.2.1]; exact hJ.pi.one.cells.2.2.2.2.2.1
         have t0 := hg2 0 _ rfl
         rw [Nat.add_zero] at t0
         have t1 := hg2 1 _ rfl
         obtain ⟨ch, sr⟩ := y
         dsimp only at t0 t1
         obtain ⟨D, hDe⟩ : ∃ D, endsL false n x.ps i ++ portsOf false n i X.ps q = D := ⟨_, rfl⟩
         have hDl : D.length ≤ 72 := by
          have h1 := portsOf_len false n i X.ps q
          have h2 := HJ.out.2.2.2.2
          rw [← hDe, List.length_append]; omega
         obtain ⟨W6, hW6⟩ : ∃ W6, W6 = wr.alloc (.cells #[.int .i64 ch, .bool sr] 57) := ⟨_, rfl⟩
         obtain ⟨Z, hZ⟩ : ∃ Z, Z = wr.heap.size := ⟨_, rfl⟩
         have k6 : KF wr W6 := by rw [hW6]; exact (Keeps.refl _ _).alloc _
         rw [hDe] at hJ ⊢
         have HQ : Hid (PcJ w x C N (pcD x a n h D) u3 E h.vs 48 W6 ∧ X.ps[q]? = some ⟨ch, sr⟩ ∧ endsL false n x.ps i ++ portsOf false n i X.ps q = D ∧ Blk W6 Z [.int .i64 ch, .bool sr] 57) := ⟨hJ.grow k6, hy, hDe, by rw [hW6, hZ]; exact Blk.new _ _ _⟩
         clear hJ hy hXi hg2 hc k6 hDe ha2
         go_upto_region 27 with fail
         rw [← hW6, ← hZ]
         clear hW6 hZ t0 t1 p7 c5
         have z0 := HQ.out.2.2.2.cell (i := 0) rfl
         have z1 := HQ.out.2.2.2.cell (i := 1) rfl
         obtain ⟨AT, hAT⟩ : ∃ AT, A0 + (D.length : Int) * PT = AT := ⟨_, rfl⟩
         have hDP : 0 ≤ (D.length : Int) * PT ∧ (D.length : Int) * PT ≤ 72 * 139 := by
          refine ⟨Int.mul_nonneg (by omega) (by omega), ?_⟩
          exact Int.mul_le_mul (by omega) (by omega) (by omega) (by omega)
         have hATb : 0 ≤ AT ∧ AT ≤ 60000 := by omega
         have HAT : Hid (A0 + (D.length : Int) * PT = AT) := hAT
         rw [hAT]
         clear hAT hDP
         by_cases hyes : ch = n ∧ sr = false
         ·
          have hch : ch = n := hyes.1
          have hsr : sr = false := hyes.2
          subst hsr
          clear hyes
          have e0 : (ch == (n : Int)) = true := by simp [hch]
          have HPO : Hid (portsOf false n i X.ps (q + 1) = portsOf false n i X.ps q ++ [⟨i, q, 0⟩]) := portsOf_yes HQ.out.2.1 hch rfl
          clear hch
          have b0 := HQ.out.1.bx.cell (i := 0) rfl
          have b1 := HQ.out.1.bx.cell (i := 1) rfl
          have b2 := HQ.out.1.bx.cell (i := 2) rfl
          go_wp2_with fail
          refine (HRP.out W6).mono ?_
          rintro e w7 ⟨rfl, hK⟩
          obtain ⟨u8, W8, ap8, p8⟩ := (HQ.out.1.grow hK).push ⟨chAt x (chB x a) n + 2 + h.stg + D.length * h.prt, h.prt, ⟨8, i, q⟩⟩ (by have := HC.out.2.2.2.2.2; rw [pcD_len]; omega)
          have hpos : chAt x (chB x a) n + 2 + h.stg + D.length * h.prt = AT := by
           rw [HC.out.2.2.2.2.1, HC.out.2.2.2.1, HPT.out, ← HAT.out, ← HA0.out]; omega
          have A8 : Hid (∀ ty, (Builtin.append_ #[108, 108] ty #[u3, .slice (some ⟨w7.heap.size, 0, none⟩) 1 1]).run Tryz.prog (w7.alloc (.cells #[.int .i64 AT, .int .i64 PT, .int .i64 8, .int .i64 i, .int .i64 q] 113)) = .ok u8 W8) := by
           rw [hpos, HPT.out] at ap8; exact ap8
          have HD8 : Hid (PcJ w x C N (pcD x a n h (endsL false n x.ps i ++ portsOf false n i X.ps (q + 1))) u8 E h.vs 48 W8 ∧ (endsL false n x.ps i ++ portsOf false n i X.ps (q + 1)).length = D.length + 1) := by
           rw [HPO.out, ← List.append_assoc, HQ.out.2.2.1, pcD_snoc]
           exact ⟨p8, by simp⟩
          clear hK ap8 p8 hpos b0 b1 b2 z0 z1
          go_wp2_with (at_builtin; go_must (refine wpList_append_run rfl (.tmp 125) (.tmp 133) 108 108 rfl u3 (.slice (some ⟨w7.heap.size, 0, none⟩) 1 1) u8 W8 rfl rfl A8.out ?_; refine Hid.out ?_))
          unfold Hid
          clear A8
          have b0 := HD8.out.1.bx.cell (i := 0) rfl
          have b1 := HD8.out.1.bx.cell (i := 1) rfl
          have b2 := HD8.out.1.bx.cell (i := 2) rfl
          have q5 : IntKind.i64.wrap (AT + PT) = AT + PT := by rw [IntKind.wrap_i64]; omega
          go_wp2_with fail
          refine (HRP.out W8).mono ?_
          rintro e w9 ⟨rfl, hK⟩
          have HD9 : Hid (PcJ w x C N (pcD x a n h (endsL false n x.ps i ++ portsOf false n i X.ps (q + 1))) u8 E h.vs 48 w9) := HD8.out.1.grow hK
          clear hK b0 b1 b2
          go_wp2
          go_roundw
          case rel =>
           refine ⟨q + 1, by omega, by go_num, ?_, HD9.out⟩
           rw [HD8.out.2, ← HAT.out]
           simp only [Int.natCast_add, Int.natCast_one, Int.add_mul, Int.one_mul]
           rw [Int.add_assoc]
          case measure => simp [intOf]; omega
         ·
          have HPO : Hid (portsOf false n i X.ps (q + 1) = portsOf false n i X.ps q) := portsOf_no HQ.out.2.1 hyes
          have HN : Hid (PcJ w x C N (pcD x a n h (endsL false n x.ps i ++ portsOf false n i X.ps (q + 1))) u3 E h.vs 48 W6 ∧ (endsL false n x.ps i ++ portsOf false n i X.ps (q + 1)).length = D.length) := by
           rw [HPO.out, HQ.out.2.2.1]; exact ⟨HQ.out.1, rfl⟩
          by_cases hch : ch = n
          ·
           obtain rfl : sr = true := by cases sr with | true => rfl | false => exact (hyes ⟨hch, rfl⟩).elim
           have e0 : (ch == (n : Int)) = true := by simp [hch]
           clear hch hyes
           go_wp2
           go_roundw
           case rel => exact ⟨q + 1, by omega, by go_num, by rw [HN.out.2, HAT.out], HN.out.1⟩
           case measure => simp [intOf]; omega
          ·
           have e0 : (ch == (n : Int)) = false := by simp [hch]
           clear hch hyes
           go_wp2
           go_roundw
           case rel => exact ⟨q + 1, by omega, by go_num, by rw [HN.out.2, HAT.out], HN.out.1⟩
           case measure => simp [intOf]; omega
        ·
         obtain rfl : XL = q := by omega
         have HN : Hid (PcJ w x C N (pcD x a n h (endsL false n x.ps (i + 1))) u3 E h.vs 48 wr ∧ (endsL false n x.ps (i + 1)).length = (endsL false n x.ps i ++ portsOf false n i X.ps XL).length) := by
          rw [endsL_succ HJ.out.2.1, HJ.out.2.2.1]; exact ⟨hJ, rfl⟩
         clear hJ
         go_wp2
         go_roundw
         case rel => exact ⟨i + 1, by omega, by go_num, by rw [HN.out.2], HN.out.1⟩
         case measure => simp [intOf]; omega
      ·
       obtain rfl : L = i := by omega
       have HN : Hid (PcI w x C N (pcB x a (n + 1)) uD wD ∧ A0 + ((endsL false n x.ps L).length : Int) * PT = chAt x B (n + 1)) := by
        rw [pcB_succ HC.out.2.1]
        unfold dstsOf
        rw [HLH.out.1]
        refine ⟨hJ.pi, ?_⟩
        rw [← HB.out.1, chAt_succ HC.out.2.1, HC.out.2.2.2.2.1, HC.out.2.2.2.1, HPT.out, ← HA0.out]
        unfold dstsOf
        rw [HLH.out.1]
        omega
       rw [HN.out.2]
       clear hJ
       go_wp2
       go_roundw
       case rel => exact ⟨n + 1, by omega, by go_num, rfl, HN.out.1⟩
       case measure => simp [intOf]; omega
    ·
     obtain rfl : H = n := by omega
     have HE0 : Hid (PcI w x C N (pcB x a H) uB wB ∧ chAt x B H = chE x a ∧ 0 ≤ chE x a ∧ chE x a ≤ 40000) := by
      have h1 : chAt x B H = chE x a := by unfold chE; rw [HB.out.1, HLH.out.2]
      have h2 := chAt_bd HM.out B H
      have h3 := HB.out.2
      exact ⟨hI, h1, by omega, by omega⟩
     rw [HE0.out.2.1]
     clear hI
     obtain ⟨Q0, hQ0⟩ : ∃ Q, chE x a = Q := ⟨_, rfl⟩
     have HQ0 : Hid (chE x a = Q0 ∧ 0 ≤ Q0 ∧ Q0 ≤ 40000) := ⟨hQ0, by have := HE0.out.2.2; omega, by have := HE0.out.2.2; omega⟩
     rw [hQ0]
     clear hQ0
     go_wp2
     go_loopw [4] (fun p wr => ∃ d : Nat, wr = wB ∧ p = .int .i64 (Q0 + d) ∧ (d : Int) ≤ fillN Q0) (fun p _ => (fillN Q0 - (intOf p - Q0)).toNat)
     case atStart => exact ⟨0, rfl, by simp, by unfold fillN; split <;> omega⟩
     case round =>
      obtain ⟨d, hwr, rfl, hd⟩ := hrel
      obtain rfl := hwr
      have hQb := HQ0.out.2
      have hr1 : (Q0 + (d : Int)).tmod 16 = (Q0 + d) % 16 := Int.tmod_eq_emod_of_nonneg (by omega)
      by_cases hz : (Q0 + (d : Int)) % 16 = 0
      ·
       rw [hz] at hr1
       have HF : Hid (Q0 + (d : Int) = rtB x a ∧ 0 ≤ rtB x a ∧ rtB x a ≤ 41000) := by
        have h1 : (d : Int) = fillN Q0 := by unfold fillN at hd ⊢; split at hd <;> split <;> omega
        have h2 : rtB x a = Q0 + d := by unfold rtB; rw [HQ0.out.1, h1]
        rw [h2]
        unfold fillN at hd
        refine ⟨rfl, by omega, ?_⟩
        split at hd <;> omega
       clear hd hQb
       rw [HF.out.1] at hr1 ⊢
       clear hz
       obtain ⟨RB, hRB⟩ : ∃ RB, rtB x a = RB := ⟨_, rfl⟩
       have HRB : Hid (rtB x a = RB ∧ 0 ≤ RB ∧ RB ≤ 41000) := ⟨hRB, by have := HF.out.2; omega, by have := HF.out.2; omega⟩
       rw [hRB] at hr1 ⊢
       clear hRB
       have c5 : wr.cell? ⟨C, 5, none⟩ = some (.slice x.pa L x.pc) := by rw [← HLH.out.1]; exact HE0.out.1.one.cells.2.2.2.2.2.1
       go_wp2
       clear hr1
       have HT0 : Hid (PcI w x C N (pcB x a H ++ ann RB (tabsH x 0)) uB wr) := by
        show PcI _ _ _ _ _ _ _
        rw [show tabsH x 0 = [] from rfl, show ann RB [] = [] from rfl, List.append_nil]
        exact HE0.out.1
       obtain ⟨wT, hwT⟩ : ∃ wT, wT = wr := ⟨_, rfl⟩
       subst hwT
       go_loopw [3, 4, 150] (fun u p i' wr => ∃ i : Nat, i ≤ L ∧ i' = .int .i64 i ∧ p = .int .i64 (rtAt x RB i) ∧ PcI w x C N (pcB x a H ++ ann RB (tabsH x i)) u wr) (fun _ _ i' _ => L - (intOf i').toNat)
       case atStart => exact ⟨0, by omega, rfl, rfl, HT0.out⟩
       case round =>
        obtain ⟨i, hi', rfl, rfl, hI⟩ := hrel
        clear c5
        obtain ⟨wU, hwU⟩ : ∃ wU, wU = wr := ⟨_, rfl⟩
        subst hwU
        obtain ⟨uU, huU⟩ : ∃ uU, uU = u3 := ⟨_, rfl⟩
        subst huU
        by_cases hlt : i < L
        ·
         obtain ⟨X, hX⟩ : ∃ X, x.ps[i]? = some X := ⟨_, List.getElem?_eq_getElem (by have := HLH.out.1; omega)⟩
         have hal := (Par.mayB_iff.1 ((Cfg.mayB_iff.1 HM.out).2.2.2.2.1 X (List.mem_of_getElem? hX))).2.2.1
         obtain ⟨g0, o0, hpa, _⟩ := hI.one.cin.par hX
         have HU : Hid (PcI w x C N (pcB x a H ++ ann RB (tabsH x i)) uU wU ∧ x.ps[i]? = some X ∧ x.pa = some ⟨g0, o0, none⟩ ∧ (∀ (t : Nat) W', t < 16 → One w x C N W' → Calls Tryz.prog 114 #[X.v, .int .i64 t] W' fun e w' => e = .returned (.bool (hasT X.rs t)) ∧ KF W' w')) :=
          ⟨hI, hX, hpa, fun t W' ht hO => touches_any X t W' N (hO.cin.pin X (List.mem_of_getElem? hX)) hO.nn hal ht⟩
         clear hI hX hal hpa
         go_wp2
         go_loopw [12, 153] (fun k i' wr => ∃ t : Nat, t ≤ 16 ∧ i' = .int .i64 t ∧ k = .int .i64 (1 + (cntT X.rs t : Int)) ∧ PcI w x C N (pcB x a H ++ ann RB (tabsH x i)) uU wr) (fun _ i' _ => 16 - (intOf i').toNat)
         case atStart => exact ⟨0, by omega, rfl, rfl, HU.out.1⟩
         case round =>
          obtain ⟨t, ht, rfl, rfl, hI⟩ := hrel
          by_cases hlt2 : t < 16
          ·
           obtain ⟨gg, oo, e, hc⟩ := hI.one.cin.par HU.out.2.1
           rw [HU.out.2.2.1] at e
           cases e
           have p0 := hc 0 _ rfl
           rw [Nat.add_zero] at p0
           have p1 := hc 1 _ rfl
           have p2 := hc 2 _ rfl
           have p3 := hc 3 _ rfl
           have p4 := hc 4 _ rfl
           have p5 := hc 5 _ rfl
           have p6 := hc 6 _ rfl
           have p7 := hc 7 _ rfl
           have c5 : wr.cell? ⟨C, 5, none⟩ = some (.slice (some ⟨g0, o0, none⟩) L x.pc) := by rw [← HLH.out.1, ← HU.out.2.2.1]; exact hI.one.cells.2.2.2.2.2.1
           have HC : Hid (Calls Tryz.prog 114 #[X.v, .int .i64 t] wr fun e w' => e = .returned (.bool (hasT X.rs t)) ∧ KF wr w') := HU.out.2.2.2 t wr hlt2 hI.one
           have HI : Hid (PcI w x C N (pcB x a H ++ ann RB (tabsH x i)) uU wr) := hI
           have hcl := cntT_le X.rs t
           clear hI hc
           go_wp2_with fail
           refine HC.out.mono ?_
           rintro e w1 ⟨rfl, hK⟩
           have HI1 : Hid (PcI w x C N (pcB x a H ++ ann RB (tabsH x i)) uU w1) := HI.out.grow hK
           clear hK HC p0 p1 p2 p3 p4 p5 p6 p7 c5
           obtain ⟨b, hb⟩ : ∃ b, hasT X.rs t = b := ⟨_, rfl⟩
           rw [hb]
           have HBt : Hid (cntT X.rs (t + 1) = cntT X.rs t + (if b then 1 else 0)) := by show _ = _; rw [cntT_succ, hb]
           clear hb
           have q8 : IntKind.i64.wrap (1 + (cntT X.rs t : Int) + 1) = 1 + (cntT X.rs t : Int) + 1 := by rw [IntKind.wrap_i64]; omega
           clear hcl
           cases b with
           | false =>
            go_wp2
            go_roundw
            case rel => exact ⟨t + 1, by omega, by go_num, by rw [HBt.out]; rfl, HI1.out⟩
            case measure => simp [intOf]; omega
           | true =>
            go_wp2
            go_roundw
            case rel => exact ⟨t + 1, by omega, by go_num, by rw [HBt.out]; simp [Int.add_assoc], HI1.out⟩
            case measure => simp [intOf]; omega
          ·
           obtain rfl : t = 16 := by omega
           have HI : Hid (PcI w x C N (pcB x a H ++ ann RB (tabsH x i)) uU wr) := hI
           clear hI
           rw [show ((16 : Nat) : Int) = 16 from rfl]
           obtain ⟨M, hM⟩ : ∃ M, 1 + cntT X.rs 16 = M := ⟨_, rfl⟩
           have hM17 : M ≤ 17 := by have := cntT_le X.rs 16; omega
           have HMM : Hid (1 + cntT X.rs 16 = M) := hM
           rw [show (1 + (cntT X.rs 16 : Int)) = (M : Int) by omega]
           clear hM
           obtain ⟨A, hAe⟩ : ∃ A, rtAt x RB i = A := ⟨_, rfl⟩
           have hAb : 0 ≤ A ∧ A ≤ 50000 := by have := rtAt_bd x RB i; have := HRB.out.2; omega
           have HAe : Hid (rtAt x RB i = A) := hAe
           rw [hAe]
           clear hAe
           go_wp2
           go_loopw [3, 4, 167] (fun u p i' wr => ∃ k : Nat, k ≤ M ∧ i' = .int .i64 k ∧ p = .int .i64 (A + 16 * (k : Int)) ∧ PcI w x C N (pcB x a H ++ ann RB (tabsH x i) ++ ann A (List.replicate k (⟨9, i, 0⟩, 16))) u wr) (fun _ _ i' _ => M - (intOf i').toNat)
           case atStart => exact ⟨0, by omega, rfl, by simp, by simpa [ann] using HI.out⟩
           case round =>
            obtain ⟨k, hk, rfl, rfl, hI⟩ := hrel
            by_cases hlk : k < M
            ·
             have hl1 := pcB_len HM.out a H (by rw [HLH.out.2]; omega)
             have hl2 := tabsH_len x i
             obtain ⟨u8, W8, ap8, p8, _⟩ := hI.push ⟨A + 16 * (k : Int), 16, ⟨9, i, 0⟩⟩ (by simp [ann_length]; omega)
             have A8 : Hid (∀ ty, (Builtin.append_ #[108, 108] ty #[u3, .slice (some ⟨wr.heap.size, 0, none⟩) 1 1]).run Tryz.prog (wr.alloc (.cells #[.int .i64 (A + 16 * (k : Int)), .int .i64 16, .int .i64 9, .int .i64 i, .int .i64 0] 113)) = .ok u8 W8) := ap8
             have HN : Hid (PcI w x C N (pcB x a H ++ ann RB (tabsH x i) ++ ann A (List.replicate (k + 1) (⟨9, i, 0⟩, 16))) u8 W8) := by
              rw [List.replicate_succ', ann_append, szH_rep, ← List.append_assoc]; exact p8
             have q9 : IntKind.i64.wrap (A + 16 * (k : Int) + 16) = A + 16 * (k : Int) + 16 := by rw [IntKind.wrap_i64]; omega
             clear hI ap8 p8 hl1 hl2
             go_wp2_with (at_builtin; go_must (refine wpList_append_run rfl (.tmp 169) (.tmp 174) 108 108 rfl u3 (.slice (some ⟨wr.heap.size, 0, none⟩) 1 1) u8 W8 rfl rfl A8.out ?_; refine Hid.out ?_))
             unfold Hid
             clear A8
             go_wp2
             go_roundw
             case rel => exact ⟨k + 1, by omega, by go_num, by congr 1; omega, HN.out⟩
             case measure => simp [intOf]; omega
            ·
             obtain rfl : M = k := by omega
             have HN : Hid (PcI w x C N (pcB x a H ++ ann RB (tabsH x (i + 1))) u3 wr ∧ A + 16 * (M : Int) = rtAt x RB (i + 1)) := by
              rw [tabsH_succ HU.out.2.1, ann_append, szH_tabsH _ _ (by rw [HLH.out.1]; exact hi'), HMM.out, HAe.out, ← List.append_assoc, rtAt_succ HU.out.2.1, HAe.out]
              exact ⟨hI, by have := HMM.out; omega⟩
             rw [HN.out.2]
             clear hI
             go_wp2
             go_roundw
             case rel => exact ⟨i + 1, by omega, by go_num, rfl, HN.out.1⟩
             case measure => simp [intOf]; omega
        ·
         obtain rfl : L = i := by omega
         have HN : Hid (Row ePc wU w.heap.size uU (pcAll x (16 * x.kernel)) ∧ KF w wU) := by
          refine ⟨?_, hI.one.keeps⟩
          have h1 := hI.row.lower' (lo' := w.heap.size) (by have := hI.cw; omega)
          unfold pcAll
          rw [HA.out, HLH.out.1, HLH.out.2, HRB.out.1]
          exact h1
         clear hI
         go_wp2
         go_ret
         exact ⟨_, rfl, HN.out.1, HN.out.2⟩
      ·
       have hr2 : ((Q0 + (d : Int)) % 16 != 0) = true := by simp; omega
       have HF : Hid (((d + 1 : Nat) : Int) ≤ fillN Q0) := by show _ ≤ _; unfold fillN at hd ⊢; split at hd <;> split <;> omega
       have q7 : IntKind.i64.wrap (Q0 + (d : Int) + 1) = Q0 + (d : Int) + 1 := by rw [IntKind.wrap_i64]; unfold fillN at hd; split at hd <;> omega
       clear hd hQb
       go_wp2
       go_roundw
       case rel => exact ⟨d + 1, by first | rfl | trivial, by simp [Int.add_assoc], HF.out⟩
       case measure =>
        have h1 := HF.out
        simp [intOf]
        omega
end Go.Proofs.YtlnmlbkeemahcaaGreat
namespace Go.Proofs.YtlnmlbkeemahcaaGreat
open Go.RowKit
set_option linter.unusedVariables false
set_option linter.unusedSimpArgs false
set_option maxRecDepth 6000
theorem portsOf_more {b : Bool} {n : Int} {p : Nat} {l : List Prt} {j : Nat} (m : Nat) {d : Dst} {t : List Dst} (h : portsOf b n p l j = d :: t) (hm : j + m ≤ l.length) : ∃ t, portsOf b n p l (j + m) = d :: t := by
 induction m with
 | zero => exact ⟨t, h⟩
 | succ m ih =>
  obtain ⟨t', h'⟩ := ih (by omega)
  rw [← Nat.add_assoc, portsOf_succ (List.getElem?_eq_getElem (show j + m < l.length by omega)), h']
  exact ⟨_, rfl⟩
theorem portsOf_head {b : Bool} {n : Int} {p : Nat} {l : List Prt} {j : Nat} {y : Prt} (h0 : portsOf b n p l j = []) (hy : l[j]? = some y) (h1 : y.ch = n) (h2 : y.src = b) : ∃ t, portsOf b n p l l.length = ⟨p, j, 0⟩ :: t := by
 have hj : j < l.length := (List.getElem?_eq_some_iff.1 hy).1
 have h3 := portsOf_yes (p := p) hy h1 h2
 rw [h0, List.nil_append] at h3
 obtain ⟨t, h4⟩ := portsOf_more (l.length - (j + 1)) h3 (by omega)
 rw [show j + 1 + (l.length - (j + 1)) = l.length by omega] at h4
 exact ⟨t, h4⟩
theorem endsL_head {b : Bool} {n : Int} {ps : List Par} {i : Nat} {P : Par} {d : Dst} {t : List Dst} (h0 : endsL b n ps i = []) (hP : ps[i]? = some P) (h1 : portsOf b n i P.ps P.ps.length = d :: t) : ∃ t, endsL b n ps ps.length = d :: t := by
 have hi : i < ps.length := (List.getElem?_eq_some_iff.1 hP).1
 have h3 : endsL b n ps (i + 1) = d :: t := by rw [endsL_succ hP, h0, h1]; rfl
 have : ∀ m, i + 1 + m ≤ ps.length → ∃ t, endsL b n ps (i + 1 + m) = d :: t := by
  intro m
  induction m with
  | zero => intro _; exact ⟨t, h3⟩
  | succ m ih =>
   intro hm
   obtain ⟨t', h'⟩ := ih (by omega)
   rw [← Nat.add_assoc, endsL_succ (List.getElem?_eq_getElem (show i + 1 + m < ps.length by omega)), h']
   exact ⟨_, rfl⟩
 obtain ⟨t', h'⟩ := this (ps.length - (i + 1)) (by omega)
 rw [show i + 1 + (ps.length - (i + 1)) = ps.length by omega] at h'
 exact ⟨t', h'⟩
set_option maxHeartbeats 4000000 in
theorem source_any (x : Cfg) (n : Int) (s : Dst) (t : List Dst) (hs : endsL true n x.ps x.ps.length = s :: t) (w : World) (N : Nat) (hi : x.In w N) (hN : N ≤ w.heap.size) :
  Calls Tryz.prog 88 #[x.v, .int .i64 n] w fun e w' => e = .returned (.tuple #[.int .i64 s.p, .int .i64 s.q]) ∧ KF w w' := by
 obtain ⟨W, hW⟩ : ∃ W, W = x.laid w := ⟨_, rfl⟩
 obtain ⟨C, hC⟩ : ∃ C, C = w.heap.size := ⟨_, rfl⟩
 have HO : Hid (One w x C N W) := by rw [hW, hC]; exact One.mk' hi hN
 obtain ⟨L, hL⟩ : ∃ L, x.ps.length = L := ⟨_, rfl⟩
 have HL : Hid (x.ps.length = L ∧ endsL true n x.ps L = s :: t) := ⟨hL, by rw [← hL]; exact hs⟩
 have hpc : (L : Int) ≤ x.pc ∧ (x.pc : Int) ≤ 9223372036854775807 := by have := hi.plen; unfold maxLen at this; omega
 have c5 : W.cell? ⟨C, 5, none⟩ = some (.slice x.pa L x.pc) := by have := HO.out.cfg.cell (i := 5) rfl; rw [← hL]; exact this
 clear hi hN hs
 unfold Cfg.v
 unfold Cfg.laid at hW
 simp only [hL] at hW ⊢
 clear hL
 go_enter Tryz.func88, Tryz.ntmps88
 go_upto_region 1 with fail
 rw [← hW, ← hC]
 clear hW hC
 go_wp2
 clear c5
 go_loopw [11] (fun i wr => ∃ j : Nat, j ≤ L ∧ i = .int .i64 j ∧ One w x C N wr ∧ endsL true n x.ps j = []) (fun i _ => L - (intOf i).toNat)
 case atStart => exact ⟨0, by omega, rfl, HO.out, rfl⟩
 case round =>
  obtain ⟨j, hj, rfl, hO, he⟩ := hrel
  by_cases hlt : j < L
  ·
   have hlt' : (j : Int) < L := by omega
   obtain ⟨P, hP⟩ : ∃ P, x.ps[j]? = some P := ⟨_, List.getElem?_eq_getElem (by have := HL.out.1; omega)⟩
   have hin := hO.cin.pin P (List.mem_of_getElem? hP)
   obtain ⟨g0, o0, ea, hg0⟩ := hO.cin.pseg.at hP
   have c5 : wr.cell? ⟨C, 5, none⟩ = some (.slice x.pa L x.pc) := by have := hO.cfg.cell (i := 5) rfl; rw [← HL.out.1]; exact this
   have p7 := hg0 7 _ rfl
   rw [ea] at c5
   obtain ⟨Q, hQ⟩ : ∃ Q, P.ps.length = Q := ⟨_, rfl⟩
   rw [hQ] at p7
   have hqc : (Q : Int) ≤ P.pc ∧ (P.pc : Int) ≤ 9223372036854775807 := by have := hin.plen; unfold maxLen at this; omega
   obtain ⟨ppa, hppa⟩ : ∃ a, P.pa = a := ⟨_, rfl⟩
   obtain ⟨ppc, hppc⟩ : ∃ a, P.pc = a := ⟨_, rfl⟩
   rw [hppa, hppc] at p7
   rw [hppc] at hqc
   have HR : Hid (One w x C N wr ∧ endsL true n x.ps j = [] ∧ x.ps[j]? = some P ∧ P.ps.length = Q ∧ P.pa = ppa ∧ x.pa = some ⟨g0, o0, none⟩ ∧ P.pc = ppc ∧ j < L) := ⟨hO, he, hP, hQ, hppa, ea, hppc, hlt⟩
   clear hO he hP hin hg0 ea hQ hppa hppc hj hlt
   obtain ⟨wz, hwz⟩ : ∃ wz, wz = wr := ⟨_, rfl⟩
   subst hwz
   go_wp2
   clear c5 p7
   go_loopw [21] (fun i wr => ∃ q : Nat, q ≤ Q ∧ i = .int .i64 q ∧ wr = wz ∧ portsOf true n j P.ps q = []) (fun i _ => Q - (intOf i).toNat)
   case atStart => exact ⟨0, by omega, rfl, rfl, rfl⟩
   case round =>
    obtain ⟨q, hq, rfl, rfl, he⟩ := hrel
    by_cases hql : q < Q
    ·
     have hql' : (q : Int) < Q := by omega
     obtain ⟨hO, he0, hP, hQ, hppa, ea, hppc, hjl⟩ := HR.out
     obtain ⟨y, hy⟩ : ∃ y, P.ps[q]? = some y := ⟨_, List.getElem?_eq_getElem (by omega)⟩
     have hin := hO.cin.pin P (List.mem_of_getElem? hP)
     obtain ⟨g0', o0', ea', hg0⟩ := hO.cin.pseg.at hP
     rw [ea] at ea'
     cases ea'
     have c5 : wr.cell? ⟨C, 5, none⟩ = some (.slice (some ⟨g0, o0, none⟩) L x.pc) := by have := hO.cfg.cell (i := 5) rfl; rw [← HL.out.1, ← ea]; exact this
     have p7 := hg0 7 _ rfl
     rw [hQ, hppa, hppc] at p7
     obtain ⟨g1, o1, e1, hg1⟩ := hin.pseg.at hy
     rw [hppa] at e1
     rw [e1] at p7
     have y0 := hg1 0 _ rfl
     rw [Nat.add_zero] at y0
     have y1 := hg1 1 _ rfl
     have HY : Hid (P.ps[q]? = some y ∧ portsOf true n j P.ps q = [] ∧ q < Q) := ⟨hy, he, hql⟩
     clear hO he0 hP hQ hppa ea hppc hin hg0 e1 hg1 hy he hq hql
     obtain ⟨ch, sr⟩ := y
     dsimp only at y0 y1
     by_cases hc : ch = n
     ·
      subst hc
      cases sr with
      | true =>
       have HF : Hid (s = ⟨j, q, 0⟩) := by
        obtain ⟨t1, h1⟩ := portsOf_head HY.out.2.1 HY.out.1 rfl rfl
        obtain ⟨t2, h2⟩ := endsL_head HR.out.2.1 HR.out.2.2.1 h1
        rw [HL.out.1, HL.out.2] at h2
        exact (List.cons.inj h2).1
       go_wp2
       go_returns
       rw [HF.out]
       exact ⟨rfl, HR.out.1.keeps⟩
      | false =>
       have HP : Hid (_ = _) := portsOf_no (p := j) (n := ch) (b := true) HY.out.1 (fun h => by cases h.2)
       go_wp2
       go_roundw
       case rel => exact ⟨q + 1, by have := HY.out.2.2; omega, by go_num, trivial, by rw [HP.out]; exact HY.out.2.1⟩
       case measure => have := HY.out.2.2; simp [intOf]; omega
     ·
      have HP : Hid (_ = _) := portsOf_no (p := j) (n := n) (b := true) HY.out.1 (fun h => hc h.1)
      have e1 : (ch == n) = false := by simp [hc]
      clear hc
      go_wp2
      go_roundw
      case rel => exact ⟨q + 1, by have := HY.out.2.2; omega, by go_num, trivial, by rw [HP.out]; exact HY.out.2.1⟩
      case measure => have := HY.out.2.2; simp [intOf]; omega
    ·
     obtain rfl : Q = q := by omega
     have HE : Hid (endsL true n x.ps (j + 1) = []) := by
      show _ = _
      rw [endsL_succ HR.out.2.2.1, HR.out.2.1, HR.out.2.2.2.1, he]; rfl
     clear he
     go_wp2
     go_roundw
     case rel => exact ⟨j + 1, by have := HR.out.2.2.2.2.2.2.2; omega, by go_num, HR.out.1, HE.out⟩
     case measure => have := HR.out.2.2.2.2.2.2.2; simp [intOf]; omega
  ·
   obtain rfl : L = j := by omega
   rw [HL.out.2] at he
   cases he
end Go.Proofs.YtlnmlbkeemahcaaGreat
