import Derived.Test.YtffhkapegmnklaaWa
import Derived.Deep.RegionHeld3
namespace Go.Proofs.Ytffhkapegmnklaa
open Go.RowKit Go.Shelf
attribute [local go_sem] Oper.semAt_some
set_option linter.unusedVariables false

theorem look_at {kvs : List (Int × Value)} {i : Nat} {k : Int} {v : Value} (hn : (kvs.map Prod.fst).Nodup) (h : kvs[i]? = some (k, v)) : look k kvs = some v := by
  obtain ⟨hi, he⟩ := List.getElem?_eq_some_iff.1 h
  have e : kvs = kvs.take i ++ (k, v) :: kvs.drop (i + 1) := by rw [← he, List.getElem_cons_drop, List.take_append_drop]
  rw [e] at hn ⊢
  exact look_split k hn

set_option maxRecDepth 20000 in
set_option maxHeartbeats 16000000 in
theorem wk_main (rm : Nat) (a1 : Option Addr) (ws : List Int) (c1 : Nat) (stop other : Int) (w : World) (lo : 1 ≤ rm) (hi : rm ≤ 4096) (hu : SegI w a1 ws) (bu : ∀ x ∈ ws, I64 x) (hot : I64 other)
    (l1 : (ws.length : Int) ≤ 2147483647) :
    Calls Try.prog 5 #[.int .i64 rm, .slice a1 ws.length c1, .int .i64 stop, .int .i64 other] w fun r w' => r = .returned (.bool true) ∧ Keeps (fun _ => False) w w' := by
  have HU : Hid (SegI w a1 ws ∧ ∀ x ∈ ws, I64 x) := ⟨hu, bu⟩
  have HOt : Hid (I64 other) := hot
  obtain ⟨n1, hn1⟩ : ∃ n, n = ws.length := ⟨_, rfl⟩
  rw [← hn1] at l1 ⊢
  have HN1 : Hid (n1 = ws.length) := hn1
  have H1 : Hid (∀ w, Calls Try.prog 16 #[.int .i64 rm] w _) := fun w => new_any rm w lo hi
  clear hu bu hn1 lo hi hot
  refine (callsIn_wide (n := 8)).1 ?_
  refine callsIn_of_wp_marks Try.func5 rfl trivial ?_ rfl
  refine wpIn_wide.2 ?_
  simp only [Try.ntmps5, List.size_toArray, List.length_cons, List.length_nil, Nat.reduceAdd, Nat.reduceSub, Array.replicate_succ, Array.replicate_zero, List.push_toArray, List.append_toArray, List.nil_append, List.cons_append]
  go_wp2_with fail
  obtain ⟨w0, hw0⟩ : ∃ w0, w0 = (w.alloc (.cells #[.int .i64 stop] 3)).alloc (.cells #[.bool false] 4) := ⟨_, rfl⟩
  rw [← hw0]
  refine (H1.out _).mono ?_
  rintro r w1 ⟨rfl, ⟨F1, hS1, hF1⟩, hK1⟩
  have HT : Hid (Wk w (w1.alloc (.cells #[ptr (w0.heap.size + 1)] 35)) w1.heap.size (w0.heap.size + 1) rm stop []) := by
    have hz : w0.heap.size = w.heap.size + 2 := by rw [hw0]; simp
    have hst : Blk w0 w.heap.size [.int .i64 stop] 3 := by rw [hw0]; exact (Blk.new w _ 3).alloc _
    have hR : Blk w0 (w.heap.size + 1) [.bool false] 4 := by
      have := Blk.new (w.alloc (.cells #[.int .i64 stop] 3)) #[.bool false] 4
      rw [World.size_alloc] at this
      rw [hw0]; exact this
    have hk0 : Keeps (fun _ => False) w w0 := by rw [hw0]; exact ((Keeps.refl _ w).alloc _).alloc _
    have hka : Keeps (fun _ => False) w1 (w1.alloc (.cells #[ptr (w0.heap.size + 1)] 35)) := (Keeps.refl _ w1).alloc _
    refine ⟨⟨F1, hS1.kept hka fun _ _ h => h, fun b hb => ⟨by have := hF1 b hb; omega, fun he => by have := hS1.lt b hb; omega⟩⟩, (hst.kept hK1 fun h => h).kept hka fun h => h, (hR.kept hK1 fun h => h).kept hka fun h => h, Blk.new w1 _ 35, by have := hK1.size; omega, (hk0.trans hK1 fun _ _ h => h).trans hka fun _ _ h => h⟩
  clear hS1 hF1 hK1 hw0 H1
  revert HT
  generalize w0.heap.size + 1 = s
  intro HT
  have c9 := HT.out.b9.cell (i := 0) rfl
  go_upto_block 0 with fail
  clear c9
  revert HT
  generalize w1.alloc (.cells #[ptr s] 35) = W9
  generalize w1.heap.size = S9
  intro HT
  go_cut [11] from 47 to 59 (fun i wc => ∃ kvs, Wk w wc S9 s rm stop kvs ∧ Things kvs)
  case rest =>
    obtain ⟨kvs, hT, hth⟩ := hcut
    have c9 := (hT.b9.alloc (.cells #[.slice none 0 0] 47)).cell (i := 0) rfl
    have HT0 : Hid (Wk w wc S9 s rm stop kvs ∧ Things kvs) := ⟨hT, hth⟩
    have hL4 : (kvs.length : Int) ≤ 4096 := by
      obtain ⟨F, hF, _⟩ := hT.ex
      have := ksl hF; omega
    clear hT hth HT HU
    go_wp2_with fail
    refine (all_any (some ⟨s, 0, none⟩) _).mono ?_
    rintro e X0 ⟨rfl, hX0⟩
    have hzz : (wc.alloc (.cells #[.slice none 0 0] 47)).heap.size = wc.heap.size + 1 := by simp
    have hKx : Keeps (fun _ => False) wc X0 := by rw [hX0]; exact ((Keeps.refl (fun _ => False) wc).alloc _).alloc _
    have hBt : Blk X0 wc.heap.size [.slice none 0 0] 47 := by rw [hX0]; exact (Blk.new wc _ 47).alloc _
    have hB1 : Blk X0 (wc.heap.size + 1) [ptr s] 35 := by rw [hX0, ← hzz]; exact Blk.new _ _ 35
    have hs0 : X0.heap.size = wc.heap.size + 2 := by rw [hX0, World.size_alloc, hzz]
    rw [hzz]
    have HS : Hid (Keeps (fun _ => False) wc X0 ∧ Blk X0 wc.heap.size [.slice none 0 0] 47 ∧ Blk X0 (wc.heap.size + 1) [ptr s] 35 ∧ X0.heap.size = wc.heap.size + 2) := ⟨hKx, hBt, hB1, hs0⟩
    clear hX0 hzz hKx hBt hB1 hs0 c9
    obtain ⟨Wt, hWt⟩ : ∃ Wt, Wt = wc.heap.size := ⟨_, rfl⟩
    obtain ⟨B1, hB1⟩ : ∃ B1, B1 = wc.heap.size + 1 := ⟨_, rfl⟩
    rw [← hB1, ← hWt] at HS ⊢
    have HWt : Hid (Wt = wc.heap.size ∧ B1 = wc.heap.size + 1) := ⟨hWt, hB1⟩
    clear hWt hB1
    have hfn := func_nil44 (.func 40) #[] #[.pointer (some ⟨B1, 0, none⟩)] X0
    have Hold : Hid (∀ W, Keeps (· = Wt) X0 W → Keeps (fun _ => False) wc W) := fun W hK => HS.out.1.trans hK fun b hb he => by have := HWt.out.1; omega
    go_wp2
    clear hfn
    refine (wpIn_wide (n := 8)).1 ?_
    refine range_list rfl (by omega) (gf := 40) (lb := #[.pointer (some ⟨B1, 0, none⟩)]) rfl trivial (enters_of Try.func40 (by kernel_rfl) rfl) (all_lists 7 B1 s rm kvs HT0.out.2)
      (fun W hK => ?good) (fun _ => rfl) (fun g i W => Coll X0 Wt g i kvs W) (fun _ _ => False) (fun g i W W' hK h => h.kept (by have := HS.out.2.2.2; have := HWt.out.1; omega) hK fun b hb => hb) (fun _ _ _ _ h => h)
      (fun g W hK hg1 hg2 => ⟨hg2, hg1, hK.mono fun _ _ h => h.elim, .slice none 0 0, HS.out.2.1.kept hK fun h => h, World.ownsRow_nil _ _ _ _, fun k hk => by simp [Value.ownBlock] at hk⟩) ?body ?done ?stop
    case good =>
      have hK' := Hold.out W (hK.mono fun _ _ h => h.elim)
      obtain ⟨F, hF, _⟩ := (HT0.out.1.grown hK').ex
      exact ⟨(HS.out.2.2.1.kept hK fun h => h).cell rfl, F, hF⟩
    case stop =>
      rintro c W h _
      exact h.elim
    case body =>
      intro l g i x W hx hC hgB
      obtain ⟨n, hn⟩ := HT0.out.2 x (List.mem_of_getElem? hx)
      obtain ⟨xk, xv⟩ := x
      simp only at hn
      subst hn
      unfold encA
      gi_wp2
      refine ⟨trivial, ?_⟩
      intro W2 hlt hC2
      obtain ⟨v, hBv, hrow, hfr⟩ := hC2.row
      have hiL : i < kvs.length := (List.getElem?_eq_some_iff.1 hx).1
      obtain ⟨v', W', happ, hown', hG⟩ := append_pair xk n v i _ hrow (by omega)
      obtain ⟨gv, capv, rfl, _, _⟩ := owns_some hown' (by omega)
      have hz0 : Wt < X0.heap.size := by have := HS.out.2.2.2; have := HWt.out.1; omega
      have hKn : ∀ b, b ≤ g → ¬ (some b = v.ownBlock) := fun b hb he => by have := hfr b he.symm; omega
      have hlo := hC2.lo
      have hBw : Blk W' Wt [v] 47 := hBv.kept hG.keeps (hKn Wt (by omega))
      have c0 := hBv.cell (i := 0) rfl
      have d0 := hBw.cell (i := 0) rfl
      have f0 := hBw.frozen 0
      have HAP : Hid (∀ ty, _) := happ
      have HF : Hid (KeptAt X0.heap.size g W2 (W'.setCell ⟨Wt, 0, none⟩ (.slice (some ⟨gv, 0, none⟩) (i + 1) capv)) ∧ Coll X0 Wt g (i + 1) kvs (W'.setCell ⟨Wt, 0, none⟩ (.slice (some ⟨gv, 0, none⟩) (i + 1) capv))) := by
        have hgw := hC2.hi
        have hkk : ∀ b, b ≤ g → b ≠ Wt → (W'.setCell ⟨Wt, 0, none⟩ (.slice (some ⟨gv, 0, none⟩) (i + 1) capv)).heap[b]? = W2.heap[b]? := fun b hb hne =>
          (Below.heap_setCell W' ⟨Wt, 0, none⟩ _ b hne).trans (hG.keeps.block b (by omega) (hKn b hb))
        refine ⟨⟨hkk _ (by omega) (by omega), hkk _ (by omega) (by omega), hkk _ (by omega) (by omega)⟩, ?_, hlo, ?_, _, hBw.setCell 0 _, ?_, ?_⟩
        · have := hG.keeps.size; simp; omega
        · refine (hC2.k.trans (T := fun b => some b = v.ownBlock) (S := (· = Wt)) hG.keeps fun b hb he => ?_).setCell _ _ fun _ => rfl
          exact absurd he (hKn b (by omega))
        · rw [take_snoc kvs i _ hx, flat_append]
          refine owns_kept (S := (· = Wt)) hown' ((Keeps.refl _ W').setCell _ _ fun _ => rfl) fun k hk he => ?_
          rcases hG.fresh with h | ⟨k', h, h2⟩
          · rw [h] at hk; have := hfr k hk; omega
          · rw [h] at hk; cases hk; omega
        · intro k hk
          rcases hG.fresh with h | ⟨k', h, h2⟩
          · rw [h] at hk; exact hfr k hk
          · rw [h] at hk; cases hk; omega
      clear happ hown' hG hBv hBw hrow hfr hC hC2 hKn hlo hz0 hx hiL hlt hgB
      gi_wp2_with (gi_at_builtin; go_must (refine wpListIn_append_run rfl (.tmp 67) (.tmp 71) 47 47 rfl v (.slice (some ⟨W2.heap.size, 0, none⟩) 1 1) (.slice (some ⟨gv, 0, none⟩) (i + 1) capv) W' rfl rfl HAP.out ?_; refine Hid.out ?_))
      unfold Hid
      gi_wp2
      exact HF.out
    case done =>
      intro g W hC hD
      obtain ⟨v, hBv, hrow, hfr⟩ := hC.row
      rw [List.take_length] at hrow
      have hKw := Hold.out W hC.k
      have hT := HT0.out.1.grown hKw
      -- the list that was told
      have hv : ∃ a c, v = .slice a kvs.length c ∧ SegP W a kvs ∧ (kvs.length : Int) ≤ c ∧ (c : Int) ≤ 9223372036854775807 ∧ ∀ x, a = some x → g < x.block := by
        rcases hrow.2 with ⟨h, h2⟩ | ⟨g', cap, cur, h, _, _, h3, h4, _⟩
        · exact ⟨none, 0, by rw [h, h2], .inl (List.eq_nil_of_length_eq_zero h2), by omega, by omega, fun x hx => by cases hx⟩
        · refine ⟨some ⟨g', 0, none⟩, cap, h, .inr ⟨g', rfl, fun j p hj => ?_⟩, by omega, by unfold maxLen at h4; omega, fun x hx => by cases hx; exact hfr g' (by rw [h]; rfl)⟩
          have hcs := hrow.cells (g := g') (by rw [h]; rfl)
          obtain ⟨q1, q2⟩ := flat_get kvs j _ hj
          have r1 := hcs _ _ q1
          have r2 := hcs _ _ q2
          rw [addr_add, Nat.zero_add, Nat.mul_comm] at r1 r2
          exact ⟨r1, r2⟩
      obtain ⟨av, cv, rfl, hsg, hcv1, hcv2, hcv3⟩ := hv
      obtain ⟨L, hL⟩ : ∃ L, L = kvs.length := ⟨_, rfl⟩
      rw [← hL] at hcv1 hL4 hBv
      have hlen : ∀ q, Calls Try.prog 22 #[ptr s] (W.drewN q) fun e w' => e = .returned (.int .i64 L) ∧ w' = W.drewN q := fun q => by
        obtain ⟨F, hF, _⟩ := hT.ex
        have := len_any s rm kvs F (W.drewN q) (hF.kept (S := fun _ => False) ((Keeps.refl _ W).drewN q) fun _ _ h => h)
        rw [← hL] at this
        exact this
      have HLen : Hid (∀ q, Calls Try.prog 22 #[ptr s] (W.drewN q) fun e w' => e = .returned (.int .i64 L) ∧ w' = W.drewN q) := hlen
      have HW : Hid (Wk w W S9 s rm stop kvs ∧ Blk W Wt [.slice av L cv] 47 ∧ Blk W B1 [ptr s] 35 ∧ SegP W av kvs ∧ L = kvs.length ∧ W.heap[X0.heap.size]? = some (.deferred (some [])) ∧ (∀ x, av = some x → X0.heap.size + 2 < x.block) ∧ ∃ F : Nat → Prop, Sf W s rm kvs F ∧ ∀ b, F b → w.heap.size + 2 ≤ b ∧ b ≠ S9 ∧ b < Wt) := by
        have hB := HS.out.2.2.1
        obtain ⟨F, hF, hF2⟩ := HT0.out.1.ex
        refine ⟨hT, hBv, hB.kept hC.k (by have := HWt.out; omega), hsg, hL, hD, fun x hx => by have := hcv3 x hx; have := hC.lo; omega, F, hF.kept hKw fun _ _ h => h, fun b hb => ⟨(hF2 b hb).1, (hF2 b hb).2, by have := hF.lt b hb; have := HWt.out.1; omega⟩⟩
      have cw := hBv.cell (i := 0) rfl
      have c9 := hT.b9.cell (i := 0) rfl
      clear hC hD hBv hrow hfr hKw hT hsg hcv3 hlen hL
      gi_wp2
      go_wp2
      go_quiet ((go_at_call 22; exact (HLen.out _).mono fun e w2 h2 => ⟨h2.1, _, h2.2⟩))
      have hKq : Keeps (fun _ => False) W (W.drewN nq) := (Keeps.refl _ W).drewN nq
      have HQ : Hid (Wk w (W.drewN nq) S9 s rm stop kvs ∧ Blk (W.drewN nq) Wt [.slice av L cv] 47 ∧ Blk (W.drewN nq) B1 [ptr s] 35 ∧ SegP (W.drewN nq) av kvs ∧ L = kvs.length ∧ (W.drewN nq).heap[X0.heap.size]? = some (.deferred (some [])) ∧ (∀ x, av = some x → X0.heap.size + 2 < x.block) ∧ ∃ F : Nat → Prop, Sf (W.drewN nq) s rm kvs F ∧ ∀ b, F b → w.heap.size + 2 ≤ b ∧ b ≠ S9 ∧ b < Wt) := by
        obtain ⟨F, hF, hF2⟩ := HW.out.2.2.2.2.2.2.2
        exact ⟨HW.out.1.grown hKq, HW.out.2.1.drewN nq, HW.out.2.2.1.drewN nq, HW.out.2.2.2.1.kept hKq fun _ _ _ h => h, HW.out.2.2.2.2.1, HW.out.2.2.2.2.2.1, HW.out.2.2.2.2.2.2.1, F, hF.kept hKq fun _ _ h => h, hF2⟩
      clear hKq cw c9 HLen HW
      revert HQ
      generalize W.drewN nq = Wq
      intro HQ
      have hwX : wc.heap.size < X0.heap.size := by have := HS.out.2.2.2; have := HWt.out.1; omega
      have hwR : w.heap.size + 1 < X0.heap.size := by have := HT0.out.1.r.lt; omega
      obtain ⟨D1, hD1⟩ : ∃ D1, D1 = X0.heap.size := ⟨_, rfl⟩
      rw [← hD1] at HQ hwR ⊢
      have HDR : Hid (w.heap.size + 1 < D1 ∧ Wt < D1 ∧ B1 = Wt + 1 ∧ B1 < D1) := ⟨hwR, by have := HS.out.2.2.2; have := HWt.out; omega, by have := HWt.out; omega, by have := HS.out.2.2.2; have := HWt.out; omega⟩
      have HTh : Hid (Things kvs) := HT0.out.2
      clear hwX hwR hD1 HS HWt Hold HT0
      go_wp2
      obtain ⟨Y0, hY0⟩ : ∃ Y0, Y0 = Wq.alloc (.cells #[.int .i64 0] 3) := ⟨_, rfl⟩
      have hKy : Keeps (fun _ => False) Wq Y0 := by rw [hY0]; exact (Keeps.refl (fun _ => False) Wq).alloc _
      have hBi : Blk Y0 Wq.heap.size [.int .i64 0] 3 := by rw [hY0]; exact Blk.new Wq _ 3
      have hzy : Y0.heap.size = Wq.heap.size + 1 := by rw [hY0]; simp
      rw [← hY0]
      have HY : Hid (Keeps (fun _ => False) Wq Y0 ∧ Blk Y0 Wq.heap.size [.int .i64 0] 3 ∧ Y0.heap.size = Wq.heap.size + 1) := ⟨hKy, hBi, hzy⟩
      clear hKy hBi hzy hY0
      obtain ⟨Ib, hIb⟩ : ∃ Ib, Ib = Wq.heap.size := ⟨_, rfl⟩
      rw [← hIb] at HY ⊢
      have HIb : Hid (Ib = Wq.heap.size) := hIb
      clear hIb
      have Hold : Hid (∀ X, Keeps (· = Ib) Y0 X → Keeps (fun _ => False) Wq X) := fun X hK => HY.out.1.trans hK fun b hb he => by have := HIb.out; omega
      refine (wpIn_wide (n := 8)).1 ?_
      refine range_list rfl (by omega) (gf := 40) (lb := #[.pointer (some ⟨B1, 0, none⟩)]) rfl trivial (enters_of Try.func40 (by kernel_rfl) rfl) (all_lists 7 B1 s rm kvs HTh.out)
        (fun X hK => ?good2) (fun _ => rfl) (fun g i X => g < X.heap.size ∧ Keeps (· = Ib) Y0 X ∧ Blk X Ib [.int .i64 i] 3) (fun c X => c = Code.exit 4 ∧ Keeps (· = Ib) Y0 X)
        (fun g i X X' hK h => ⟨Nat.lt_of_lt_of_le h.1 hK.size, h.2.1.trans hK fun b hb he => by omega, h.2.2.kept hK fun he => by have := HY.out.2.2; omega⟩) (fun c X X' hK h => ⟨h.1, h.2.trans hK fun b hb he => by omega⟩)
        (fun g X hK hg1 hg2 => ⟨hg2, hK.mono fun _ _ h => h.elim, HY.out.2.1.kept hK fun h => h⟩) ?body2 ?done2 ?stop2
      case good2 =>
        have hK' := Hold.out X (hK.mono fun _ _ h => h.elim)
        obtain ⟨F, hF, _⟩ := (HQ.out.1.grown hK').ex
        exact ⟨(HQ.out.2.2.1.kept hK' fun h => h).cell rfl, F, hF⟩
      case body2 =>
        intro l g i x X hx hC hgB
        obtain ⟨n, hn⟩ := HTh.out x (List.mem_of_getElem? hx)
        obtain ⟨xk, xv⟩ := x
        simp only at hn
        subst hn
        have hiL : i < L := by have := (List.getElem?_eq_some_iff.1 hx).1; have := HQ.out.2.2.2.2.1; omega
        unfold encA
        gi_wp2
        refine ⟨trivial, ?_⟩
        intro X2 hlt hC2
        have hKW := Hold.out X2 hC2.2.1
        have cI := hC2.2.2.cell (i := 0) rfl
        have fI := hC2.2.2.frozen 0
        have cw := (HQ.out.2.1.kept hKW fun h => h).cell (i := 0) rfl
        have cst := (HQ.out.1.st.kept hKW fun h => h).cell (i := 0) rfl
        have hsg := HQ.out.2.2.2.1.kept hKW fun _ _ _ h => h
        rcases hsg with h0 | ⟨gg, hag, hcc⟩
        · rw [h0] at hx; simp at hx
        obtain ⟨q1, q2⟩ := hcc i _ hx
        simp only at q1 q2
        rw [hag] at cw
        have hi1 : (i : Int) < (L : Int) := by omega
        have hne1 : w.heap.size ≠ Ib := fun he => by have := HQ.out.1.st.lt; have := HIb.out; omega
        have hKs : Keeps (· = Ib) X2 (X2.setCell ⟨Ib, 0, none⟩ (.int .i64 ((i : Int) + 1))) := (Keeps.refl _ X2).setCell _ _ fun _ => rfl
        have HF : Hid (KeptAt Y0.heap.size g X2 (X2.setCell ⟨Ib, 0, none⟩ (.int .i64 ((i : Int) + 1))) ∧ g < (X2.setCell ⟨Ib, 0, none⟩ (.int .i64 ((i : Int) + 1))).heap.size ∧ Keeps (· = Ib) Y0 (X2.setCell ⟨Ib, 0, none⟩ (.int .i64 ((i : Int) + 1))) ∧ Blk (X2.setCell ⟨Ib, 0, none⟩ (.int .i64 ((i : Int) + 1))) Ib [.int .i64 ((i + 1 : Nat) : Int)] 3) := by
          have hz := HY.out.2.2
          refine ⟨⟨Below.heap_setCell X2 ⟨Ib, 0, none⟩ _ _ (show _ ≠ Ib by omega), Below.heap_setCell X2 ⟨Ib, 0, none⟩ _ _ (show _ ≠ Ib by omega), Below.heap_setCell X2 ⟨Ib, 0, none⟩ _ _ (show _ ≠ Ib by omega)⟩, by simp; exact hC2.1, hC2.2.1.setCell _ _ fun _ => rfl, ?_⟩
          have := hC2.2.2.setCell 0 (.int .i64 ((i : Int) + 1))
          simpa using this
        clear hC hC2 hKW hx hgB hlt hag hcc hKs
        by_cases hst : (((i : Int) + 1) == stop) = true
        · gi_wp2
          exact ⟨HF.out.1, rfl, HF.out.2.2.1⟩
        · have hst' : (((i : Int) + 1) == stop) = false := by simpa using hst
          clear hst
          gi_wp2
          exact HF.out
      case stop2 =>
        rintro c X ⟨rfl, hK⟩ hD2
        have hKW := Hold.out X hK
        have hT := HQ.out.1.grown hKW
        obtain ⟨F, hF, hF2⟩ := HQ.out.2.2.2.2.2.2.2
        have hFX := hF.kept hKW fun _ _ h => h
        have hsgX := HQ.out.2.2.2.1.kept hKW fun _ _ _ h => h
        have cw := (HQ.out.2.1.kept hKW fun h => h).cell (i := 0) rfl
        have c9 := hT.b9.cell (i := 0) rfl
        have hwi := within_any s rm kvs F av cv other X hFX HTh.out hsgX (fun x hx hf => by have := HQ.out.2.2.2.2.2.2.1 x hx; have := hF2 _ hf; have := HDR.out; omega) HOt.out hcv2 (by rw [← HQ.out.2.2.2.2.1]; exact hcv1)
        rw [← HQ.out.2.2.2.2.1] at hwi
        have HWi : Hid (Calls _ _ _ _ _) := hwi
        have hqs := Hold.out
        have HX : Hid (Wk w X S9 s rm stop kvs ∧ (∀ b, F b → w.heap.size + 2 ≤ b ∧ b ≠ S9 ∧ b < Wt) ∧ X.heap[D1]? = some (.deferred (some [])) ∧ X.heap[Y0.heap.size]? = some (.deferred (some [])) ∧ Blk X B1 [ptr s] 35 ∧ D1 < Y0.heap.size) := by
          refine ⟨hT, hF2, obj_kept HQ.out.2.2.2.2.2.1 hKW fun h => h, hD2, HQ.out.2.2.1.kept hKW fun h => h, ?_⟩
          have h1 := (Array.getElem?_eq_some_iff.1 HQ.out.2.2.2.2.2.1).1
          have := HY.out.2.2; have := HIb.out; omega
        clear hKW hT hF hF2 hFX hsgX hwi hqs hK hD2
        gi_wp2
        go_wp2_with fail
        refine HWi.out.mono ?_
        rintro e X6 ⟨rfl, ⟨kv6, F6, hS6, ht6, hF6⟩, hK6⟩
        obtain ⟨hT, hF2, d1, d2, hB, hDY⟩ := HX.out
        have hT6 := hT.moved (fun b hb => ⟨(hF2 b hb).1, (hF2 b hb).2.1⟩) hK6 hS6 hF6
        have hdr := HDR.out
        have nf : ∀ b, Wt ≤ b → ¬ F b := fun b hb hf => by have := hF2 b hf; omega
        have h6 : (kv6.length : Int) ≤ 4096 := by have := ksl hS6; omega
        have H6 : Hid (Wk w X6 S9 s rm stop kv6 ∧ Things kv6 ∧ X6.heap[D1]? = some (.deferred (some [])) ∧ X6.heap[Y0.heap.size]? = some (.deferred (some [])) ∧ Blk X6 B1 [ptr s] 35) :=
          ⟨hT6, ht6, obj_kept d1 hK6 (nf _ (by omega)), obj_kept d2 hK6 (nf _ (by omega)), hB.kept hK6 (nf _ (by omega))⟩
        have HD3 : Hid (D1 < Y0.heap.size ∧ Y0.heap.size < X6.heap.size ∧ w.heap.size + 1 < D1) := ⟨hDY, by have := (Array.getElem?_eq_some_iff.1 d2).1; have := hK6.size; omega, hdr.1⟩
        clear hS6 ht6 hF6 hK6 hT hF2 d1 d2 hB hDY hT6 hdr nf HX HWi cw c9 HQ HY Hold HIb
        go_wp2
        obtain ⟨Z0, hZ0⟩ : ∃ Z0, Z0 = X6.alloc (.cells #[.int .i64 0] 3) := ⟨_, rfl⟩
        have hKz : Keeps (fun _ => False) X6 Z0 := by rw [hZ0]; exact (Keeps.refl (fun _ => False) X6).alloc _
        have hBn : Blk Z0 X6.heap.size [.int .i64 0] 3 := by rw [hZ0]; exact Blk.new X6 _ 3
        have hzz : Z0.heap.size = X6.heap.size + 1 := by rw [hZ0]; simp
        rw [← hZ0]
        have HZ : Hid (Keeps (fun _ => False) X6 Z0 ∧ Blk Z0 X6.heap.size [.int .i64 0] 3 ∧ Z0.heap.size = X6.heap.size + 1) := ⟨hKz, hBn, hzz⟩
        clear hKz hBn hzz hZ0
        obtain ⟨Nb, hNb⟩ : ∃ Nb, Nb = X6.heap.size := ⟨_, rfl⟩
        rw [← hNb] at HZ ⊢
        have HNb : Hid (Nb = X6.heap.size) := hNb
        clear hNb
        have Hold3 : Hid (∀ X, Keeps (· = Nb) Z0 X → Keeps (fun _ => False) X6 X) := fun X hK => HZ.out.1.trans hK fun b hb he => by have := HNb.out; omega
        refine (wpIn_wide (n := 8)).1 ?_
        refine range_list rfl (by omega) (gf := 40) (lb := #[.pointer (some ⟨B1, 0, none⟩)]) rfl trivial (enters_of Try.func40 (by kernel_rfl) rfl) (all_lists 7 B1 s rm kv6 H6.out.2.1)
          (fun X hK => ?good3) (fun _ => rfl) (fun g i X => g < X.heap.size ∧ Keeps (· = Nb) Z0 X ∧ Blk X Nb [.int .i64 i] 3) (fun _ _ => False)
          (fun g i X X' hK h => ⟨Nat.lt_of_lt_of_le h.1 hK.size, h.2.1.trans hK fun b hb he => by omega, h.2.2.kept hK fun he => by have := HZ.out.2.2; omega⟩) (fun _ _ _ _ h => h)
          (fun g X hK hg1 hg2 => ⟨hg2, hK.mono fun _ _ h => h.elim, HZ.out.2.1.kept hK fun h => h⟩) ?body3 ?done3 ?stop3
        case good3 =>
          have hK' := Hold3.out X (hK.mono fun _ _ h => h.elim)
          obtain ⟨F, hF, _⟩ := (H6.out.1.grown hK').ex
          exact ⟨(H6.out.2.2.2.2.kept hK' fun h => h).cell rfl, F, hF⟩
        case stop3 =>
          rintro c W h _
          exact h.elim
        case body3 =>
          intro l g i x X hx hC hgB
          obtain ⟨n, hn⟩ := H6.out.2.1 x (List.mem_of_getElem? hx)
          obtain ⟨xk, xv⟩ := x
          simp only at hn
          subst hn
          have hiL : i < kv6.length := (List.getElem?_eq_some_iff.1 hx).1
          unfold encA
          gi_wp2
          refine ⟨trivial, ?_⟩
          intro X2 hlt hC2
          have hKW := Hold3.out X2 hC2.2.1
          have hT2 := H6.out.1.grown hKW
          obtain ⟨F2, hF2, _⟩ := hT2.ex
          have cN := hC2.2.2.cell (i := 0) rfl
          have fN := hC2.2.2.frozen 0
          have c9 := hT2.b9.cell (i := 0) rfl
          have hpk := peek_any s rm kv6 F2 xk X2 hF2 (hF2.key_ok _ (List.mem_of_getElem? hx))
          rw [look_at hF2.keys hx] at hpk
          simp only [Option.getD_some, Option.isSome_some] at hpk
          have HPk : Hid (Calls _ _ _ _ _) := hpk
          have hi1 : (i : Int) < 4096 := by omega
          have HF : Hid (KeptAt Z0.heap.size g X2 (X2.setCell ⟨Nb, 0, none⟩ (.int .i64 ((i : Int) + 1))) ∧ g < (X2.setCell ⟨Nb, 0, none⟩ (.int .i64 ((i : Int) + 1))).heap.size ∧ Keeps (· = Nb) Z0 (X2.setCell ⟨Nb, 0, none⟩ (.int .i64 ((i : Int) + 1))) ∧ Blk (X2.setCell ⟨Nb, 0, none⟩ (.int .i64 ((i : Int) + 1))) Nb [.int .i64 ((i + 1 : Nat) : Int)] 3) := by
            have hz := HZ.out.2.2
            refine ⟨⟨Below.heap_setCell X2 ⟨Nb, 0, none⟩ _ _ (show _ ≠ Nb by omega), Below.heap_setCell X2 ⟨Nb, 0, none⟩ _ _ (show _ ≠ Nb by omega), Below.heap_setCell X2 ⟨Nb, 0, none⟩ _ _ (show _ ≠ Nb by omega)⟩, by simp; exact hC2.1, hC2.2.1.setCell _ _ fun _ => rfl, ?_⟩
            have := hC2.2.2.setCell 0 (.int .i64 ((i : Int) + 1))
            simpa using this
          clear hC hC2 hKW hT2 hF2 hx hgB hlt hpk hiL
          gi_wp2_with fail
          refine ⟨trivial, ?_⟩
          refine (CallsIn.inRound l (callsIn_wide.2 HPk.out)).mono ?_
          rintro e X3 ⟨rfl, rfl⟩
          clear HPk
          gi_wp2
          exact HF.out
        case done3 =>
          intro g X hC hD3
          have hKW := Hold3.out X hC.2.1
          have hT2 := H6.out.1.grown hKW
          obtain ⟨F2, hF2, _⟩ := hT2.ex
          obtain ⟨L6, hL6⟩ : ∃ L6, L6 = kv6.length := ⟨_, rfl⟩
          have hBN := hC.2.2
          rw [← hL6] at hBN
          have cN := hBN.cell (i := 0) rfl
          have c9 := hT2.b9.cell (i := 0) rfl
          have c0 := hT2.r.cell (i := 0) rfl
          have f0 := hT2.r.frozen 0
          have HLen : Hid (∀ q, Calls Try.prog 22 #[ptr s] (X.drewN q) fun e w' => e = .returned (.int .i64 L6) ∧ w' = X.drewN q) := fun q => by
            have := len_any s rm kv6 F2 (X.drewN q) (hF2.kept (S := fun _ => False) ((Keeps.refl _ X).drewN q) fun _ _ h => h)
            rw [← hL6] at this
            exact this
          have hRN : w.heap.size + 1 ≠ Nb := by have := HD3.out; have := HNb.out; omega
          have hR9 : w.heap.size + 1 ≠ S9 := by have := hT2.lo; omega
          have HE : Hid (Wk w X S9 s rm stop kv6 ∧ X.heap[D1]? = some (.deferred (some [])) ∧ X.heap[Y0.heap.size]? = some (.deferred (some [])) ∧ X.heap[Z0.heap.size]? = some (.deferred (some [])) ∧ Y0.heap.size < Z0.heap.size) :=
            ⟨hT2, obj_kept H6.out.2.2.1 hKW fun h => h, obj_kept H6.out.2.2.2.1 hKW fun h => h, hD3, by have := HD3.out; have := HZ.out.2.2; have := HNb.out; omega⟩
          have HSS : Hid ((X.setCell ⟨w.heap.size + 1, 0, none⟩ (.bool true)).drew.cell? ⟨Nb, 0, none⟩ = some (.int .i64 L6) ∧ (X.setCell ⟨w.heap.size + 1, 0, none⟩ (.bool true)).drew.cell? ⟨S9, 0, none⟩ = some (ptr s)) := by
            have hKs : Keeps (· = w.heap.size + 1) X (X.setCell ⟨w.heap.size + 1, 0, none⟩ (.bool true)).drew := ((Keeps.refl (· = w.heap.size + 1) X).setCell ⟨w.heap.size + 1, 0, none⟩ (.bool true) fun _ => rfl).drew
            exact ⟨(hBN.kept hKs fun h => hRN h.symm).cell rfl, (hT2.b9.kept hKs fun h => hR9 h.symm).cell rfl⟩
          clear hC hD3 hKW hT2 hF2 hBN hL6
          gi_wp2
          go_wp2
          go_region_held3 (fun w' => w'.cell? ⟨Nb, 0, none⟩ = some (.int .i64 L6) ∧ w'.cell? ⟨S9, 0, none⟩ = some (ptr s)) (first | exact HSS.out | go_keep)
            (first
              | (go_at_call 22; refine (HLen.out 1).mono ?_; rintro e w13 ⟨rfl, rfl⟩))
          all_goals
            go_wp2
            obtain ⟨hT, d1, d2, d3, hYZ⟩ := HE.out
            have hdd := HD3.out
            have hKs : Keeps (· = w.heap.size + 1) X ((X.drewN 1).setCell ⟨w.heap.size + 1, 0, none⟩ (.bool true)) := ((Keeps.refl (· = w.heap.size + 1) X).drewN 1).setCell ⟨w.heap.size + 1, 0, none⟩ (.bool true) fun _ => rfl
            have d1' := obj_kept d1 hKs (by omega)
            have d2' := obj_kept d2 hKs (by omega)
            have d3' := obj_kept d3 hKs (by omega)
            have hr := (hT.r.drewN 1).setCell 0 (.bool true)
            have hKw := hT.k
            revert hKs d1' d2' d3' hr
            generalize (X.drewN 1).setCell ⟨w.heap.size + 1, 0, none⟩ (.bool true) = WF
            intro hKs d1' d2' d3' hr
            have hK3 : Keeps (· = Z0.heap.size) WF (WF.putObj Z0.heap.size (.deferred none)) := ⟨rfl, rfl, rfl, by simp, fun k _ hn => World.putObj_heap_other hn⟩
            have d2'' := obj_kept d2' hK3 (by omega)
            have d1'' := obj_kept d1' hK3 (by omega)
            have hr3 := hr.kept hK3 (by omega)
            have hK2 : Keeps (· = Y0.heap.size) (WF.putObj Z0.heap.size (.deferred none)) ((WF.putObj Z0.heap.size (.deferred none)).putObj Y0.heap.size (.deferred none)) := ⟨rfl, rfl, rfl, by simp, fun k _ hn => World.putObj_heap_other hn⟩
            have e1 := obj_kept d1'' hK2 (by omega)
            have hr2 := hr3.kept hK2 (by omega)
            have hK1 : Keeps (· = D1) ((WF.putObj Z0.heap.size (.deferred none)).putObj Y0.heap.size (.deferred none)) (((WF.putObj Z0.heap.size (.deferred none)).putObj Y0.heap.size (.deferred none)).putObj D1 (.deferred none)) := ⟨rfl, rfl, rfl, by simp, fun k _ hn => World.putObj_heap_other hn⟩
            have hrf := (hr2.kept hK1 (by omega)).cell (i := 0) rfl
            refine ⟨by simp, .inl ⟨_, _, rfl, run_takeDeferred d3', ⟨by simp, .inl ⟨_, _, rfl, run_takeDeferred d2'', ⟨by simp, .inl ⟨_, _, rfl, run_takeDeferred e1, ?_⟩⟩⟩⟩⟩⟩
            refine ⟨.bool true, results_cell_val rfl _ _ (w.heap.size + 1) (.bool true) rfl (by simp [go_sem, hrf]), rfl, ?_⟩
            exact (((hKw.trans hKs fun k hk e => by omega).trans hK3 fun k hk e => by omega).trans hK2 fun k hk e => by omega).trans hK1 fun k hk e => by omega
      case done2 =>
        intro g X hC hD2
        have hK := hC.2.1
        clear hC
        have hKW := Hold.out X hK
        have hT := HQ.out.1.grown hKW
        obtain ⟨F, hF, hF2⟩ := HQ.out.2.2.2.2.2.2.2
        have hFX := hF.kept hKW fun _ _ h => h
        have hsgX := HQ.out.2.2.2.1.kept hKW fun _ _ _ h => h
        have cw := (HQ.out.2.1.kept hKW fun h => h).cell (i := 0) rfl
        have c9 := hT.b9.cell (i := 0) rfl
        have hwi := within_any s rm kvs F av cv other X hFX HTh.out hsgX (fun x hx hf => by have := HQ.out.2.2.2.2.2.2.1 x hx; have := hF2 _ hf; have := HDR.out; omega) HOt.out hcv2 (by rw [← HQ.out.2.2.2.2.1]; exact hcv1)
        rw [← HQ.out.2.2.2.2.1] at hwi
        have HWi : Hid (Calls _ _ _ _ _) := hwi
        have hqs := Hold.out
        have HX : Hid (Wk w X S9 s rm stop kvs ∧ (∀ b, F b → w.heap.size + 2 ≤ b ∧ b ≠ S9 ∧ b < Wt) ∧ X.heap[D1]? = some (.deferred (some [])) ∧ X.heap[Y0.heap.size]? = some (.deferred (some [])) ∧ Blk X B1 [ptr s] 35 ∧ D1 < Y0.heap.size) := by
          refine ⟨hT, hF2, obj_kept HQ.out.2.2.2.2.2.1 hKW fun h => h, hD2, HQ.out.2.2.1.kept hKW fun h => h, ?_⟩
          have h1 := (Array.getElem?_eq_some_iff.1 HQ.out.2.2.2.2.2.1).1
          have := HY.out.2.2; have := HIb.out; omega
        clear hKW hT hF hF2 hFX hsgX hwi hqs hK hD2
        gi_wp2
        go_wp2_with fail
        refine HWi.out.mono ?_
        rintro e X6 ⟨rfl, ⟨kv6, F6, hS6, ht6, hF6⟩, hK6⟩
        obtain ⟨hT, hF2, d1, d2, hB, hDY⟩ := HX.out
        have hT6 := hT.moved (fun b hb => ⟨(hF2 b hb).1, (hF2 b hb).2.1⟩) hK6 hS6 hF6
        have hdr := HDR.out
        have nf : ∀ b, Wt ≤ b → ¬ F b := fun b hb hf => by have := hF2 b hf; omega
        have h6 : (kv6.length : Int) ≤ 4096 := by have := ksl hS6; omega
        have H6 : Hid (Wk w X6 S9 s rm stop kv6 ∧ Things kv6 ∧ X6.heap[D1]? = some (.deferred (some [])) ∧ X6.heap[Y0.heap.size]? = some (.deferred (some [])) ∧ Blk X6 B1 [ptr s] 35) :=
          ⟨hT6, ht6, obj_kept d1 hK6 (nf _ (by omega)), obj_kept d2 hK6 (nf _ (by omega)), hB.kept hK6 (nf _ (by omega))⟩
        have HD3 : Hid (D1 < Y0.heap.size ∧ Y0.heap.size < X6.heap.size ∧ w.heap.size + 1 < D1) := ⟨hDY, by have := (Array.getElem?_eq_some_iff.1 d2).1; have := hK6.size; omega, hdr.1⟩
        clear hS6 ht6 hF6 hK6 hT hF2 d1 d2 hB hDY hT6 hdr nf HX HWi cw c9 HQ HY Hold HIb
        go_wp2
        obtain ⟨Z0, hZ0⟩ : ∃ Z0, Z0 = X6.alloc (.cells #[.int .i64 0] 3) := ⟨_, rfl⟩
        have hKz : Keeps (fun _ => False) X6 Z0 := by rw [hZ0]; exact (Keeps.refl (fun _ => False) X6).alloc _
        have hBn : Blk Z0 X6.heap.size [.int .i64 0] 3 := by rw [hZ0]; exact Blk.new X6 _ 3
        have hzz : Z0.heap.size = X6.heap.size + 1 := by rw [hZ0]; simp
        rw [← hZ0]
        have HZ : Hid (Keeps (fun _ => False) X6 Z0 ∧ Blk Z0 X6.heap.size [.int .i64 0] 3 ∧ Z0.heap.size = X6.heap.size + 1) := ⟨hKz, hBn, hzz⟩
        clear hKz hBn hzz hZ0
        obtain ⟨Nb, hNb⟩ : ∃ Nb, Nb = X6.heap.size := ⟨_, rfl⟩
        rw [← hNb] at HZ ⊢
        have HNb : Hid (Nb = X6.heap.size) := hNb
        clear hNb
        have Hold3 : Hid (∀ X, Keeps (· = Nb) Z0 X → Keeps (fun _ => False) X6 X) := fun X hK => HZ.out.1.trans hK fun b hb he => by have := HNb.out; omega
        refine (wpIn_wide (n := 8)).1 ?_
        refine range_list rfl (by omega) (gf := 40) (lb := #[.pointer (some ⟨B1, 0, none⟩)]) rfl trivial (enters_of Try.func40 (by kernel_rfl) rfl) (all_lists 7 B1 s rm kv6 H6.out.2.1)
          (fun X hK => ?good3) (fun _ => rfl) (fun g i X => g < X.heap.size ∧ Keeps (· = Nb) Z0 X ∧ Blk X Nb [.int .i64 i] 3) (fun _ _ => False)
          (fun g i X X' hK h => ⟨Nat.lt_of_lt_of_le h.1 hK.size, h.2.1.trans hK fun b hb he => by omega, h.2.2.kept hK fun he => by have := HZ.out.2.2; omega⟩) (fun _ _ _ _ h => h)
          (fun g X hK hg1 hg2 => ⟨hg2, hK.mono fun _ _ h => h.elim, HZ.out.2.1.kept hK fun h => h⟩) ?body3 ?done3 ?stop3
        case good3 =>
          have hK' := Hold3.out X (hK.mono fun _ _ h => h.elim)
          obtain ⟨F, hF, _⟩ := (H6.out.1.grown hK').ex
          exact ⟨(H6.out.2.2.2.2.kept hK' fun h => h).cell rfl, F, hF⟩
        case stop3 =>
          rintro c W h _
          exact h.elim
        case body3 =>
          intro l g i x X hx hC hgB
          obtain ⟨n, hn⟩ := H6.out.2.1 x (List.mem_of_getElem? hx)
          obtain ⟨xk, xv⟩ := x
          simp only at hn
          subst hn
          have hiL : i < kv6.length := (List.getElem?_eq_some_iff.1 hx).1
          unfold encA
          gi_wp2
          refine ⟨trivial, ?_⟩
          intro X2 hlt hC2
          have hKW := Hold3.out X2 hC2.2.1
          have hT2 := H6.out.1.grown hKW
          obtain ⟨F2, hF2, _⟩ := hT2.ex
          have cN := hC2.2.2.cell (i := 0) rfl
          have fN := hC2.2.2.frozen 0
          have c9 := hT2.b9.cell (i := 0) rfl
          have hpk := peek_any s rm kv6 F2 xk X2 hF2 (hF2.key_ok _ (List.mem_of_getElem? hx))
          rw [look_at hF2.keys hx] at hpk
          simp only [Option.getD_some, Option.isSome_some] at hpk
          have HPk : Hid (Calls _ _ _ _ _) := hpk
          have hi1 : (i : Int) < 4096 := by omega
          have HF : Hid (KeptAt Z0.heap.size g X2 (X2.setCell ⟨Nb, 0, none⟩ (.int .i64 ((i : Int) + 1))) ∧ g < (X2.setCell ⟨Nb, 0, none⟩ (.int .i64 ((i : Int) + 1))).heap.size ∧ Keeps (· = Nb) Z0 (X2.setCell ⟨Nb, 0, none⟩ (.int .i64 ((i : Int) + 1))) ∧ Blk (X2.setCell ⟨Nb, 0, none⟩ (.int .i64 ((i : Int) + 1))) Nb [.int .i64 ((i + 1 : Nat) : Int)] 3) := by
            have hz := HZ.out.2.2
            refine ⟨⟨Below.heap_setCell X2 ⟨Nb, 0, none⟩ _ _ (show _ ≠ Nb by omega), Below.heap_setCell X2 ⟨Nb, 0, none⟩ _ _ (show _ ≠ Nb by omega), Below.heap_setCell X2 ⟨Nb, 0, none⟩ _ _ (show _ ≠ Nb by omega)⟩, by simp; exact hC2.1, hC2.2.1.setCell _ _ fun _ => rfl, ?_⟩
            have := hC2.2.2.setCell 0 (.int .i64 ((i : Int) + 1))
            simpa using this
          clear hC hC2 hKW hT2 hF2 hx hgB hlt hpk hiL
          gi_wp2_with fail
          refine ⟨trivial, ?_⟩
          refine (CallsIn.inRound l (callsIn_wide.2 HPk.out)).mono ?_
          rintro e X3 ⟨rfl, rfl⟩
          clear HPk
          gi_wp2
          exact HF.out
        case done3 =>
          intro g X hC hD3
          have hKW := Hold3.out X hC.2.1
          have hT2 := H6.out.1.grown hKW
          obtain ⟨F2, hF2, _⟩ := hT2.ex
          obtain ⟨L6, hL6⟩ : ∃ L6, L6 = kv6.length := ⟨_, rfl⟩
          have hBN := hC.2.2
          rw [← hL6] at hBN
          have cN := hBN.cell (i := 0) rfl
          have c9 := hT2.b9.cell (i := 0) rfl
          have c0 := hT2.r.cell (i := 0) rfl
          have f0 := hT2.r.frozen 0
          have HLen : Hid (∀ q, Calls Try.prog 22 #[ptr s] (X.drewN q) fun e w' => e = .returned (.int .i64 L6) ∧ w' = X.drewN q) := fun q => by
            have := len_any s rm kv6 F2 (X.drewN q) (hF2.kept (S := fun _ => False) ((Keeps.refl _ X).drewN q) fun _ _ h => h)
            rw [← hL6] at this
            exact this
          have hRN : w.heap.size + 1 ≠ Nb := by have := HD3.out; have := HNb.out; omega
          have hR9 : w.heap.size + 1 ≠ S9 := by have := hT2.lo; omega
          have HE : Hid (Wk w X S9 s rm stop kv6 ∧ X.heap[D1]? = some (.deferred (some [])) ∧ X.heap[Y0.heap.size]? = some (.deferred (some [])) ∧ X.heap[Z0.heap.size]? = some (.deferred (some [])) ∧ Y0.heap.size < Z0.heap.size) :=
            ⟨hT2, obj_kept H6.out.2.2.1 hKW fun h => h, obj_kept H6.out.2.2.2.1 hKW fun h => h, hD3, by have := HD3.out; have := HZ.out.2.2; have := HNb.out; omega⟩
          have HSS : Hid ((X.setCell ⟨w.heap.size + 1, 0, none⟩ (.bool true)).drew.cell? ⟨Nb, 0, none⟩ = some (.int .i64 L6) ∧ (X.setCell ⟨w.heap.size + 1, 0, none⟩ (.bool true)).drew.cell? ⟨S9, 0, none⟩ = some (ptr s)) := by
            have hKs : Keeps (· = w.heap.size + 1) X (X.setCell ⟨w.heap.size + 1, 0, none⟩ (.bool true)).drew := ((Keeps.refl (· = w.heap.size + 1) X).setCell ⟨w.heap.size + 1, 0, none⟩ (.bool true) fun _ => rfl).drew
            exact ⟨(hBN.kept hKs fun h => hRN h.symm).cell rfl, (hT2.b9.kept hKs fun h => hR9 h.symm).cell rfl⟩
          clear hC hD3 hKW hT2 hF2 hBN hL6
          gi_wp2
          go_wp2
          go_region_held3 (fun w' => w'.cell? ⟨Nb, 0, none⟩ = some (.int .i64 L6) ∧ w'.cell? ⟨S9, 0, none⟩ = some (ptr s)) (first | exact HSS.out | go_keep)
            (first
              | (go_at_call 22; refine (HLen.out 1).mono ?_; rintro e w13 ⟨rfl, rfl⟩))
          all_goals
            go_wp2
            obtain ⟨hT, d1, d2, d3, hYZ⟩ := HE.out
            have hdd := HD3.out
            have hKs : Keeps (· = w.heap.size + 1) X ((X.drewN 1).setCell ⟨w.heap.size + 1, 0, none⟩ (.bool true)) := ((Keeps.refl (· = w.heap.size + 1) X).drewN 1).setCell ⟨w.heap.size + 1, 0, none⟩ (.bool true) fun _ => rfl
            have d1' := obj_kept d1 hKs (by omega)
            have d2' := obj_kept d2 hKs (by omega)
            have d3' := obj_kept d3 hKs (by omega)
            have hr := (hT.r.drewN 1).setCell 0 (.bool true)
            have hKw := hT.k
            revert hKs d1' d2' d3' hr
            generalize (X.drewN 1).setCell ⟨w.heap.size + 1, 0, none⟩ (.bool true) = WF
            intro hKs d1' d2' d3' hr
            have hK3 : Keeps (· = Z0.heap.size) WF (WF.putObj Z0.heap.size (.deferred none)) := ⟨rfl, rfl, rfl, by simp, fun k _ hn => World.putObj_heap_other hn⟩
            have d2'' := obj_kept d2' hK3 (by omega)
            have d1'' := obj_kept d1' hK3 (by omega)
            have hr3 := hr.kept hK3 (by omega)
            have hK2 : Keeps (· = Y0.heap.size) (WF.putObj Z0.heap.size (.deferred none)) ((WF.putObj Z0.heap.size (.deferred none)).putObj Y0.heap.size (.deferred none)) := ⟨rfl, rfl, rfl, by simp, fun k _ hn => World.putObj_heap_other hn⟩
            have e1 := obj_kept d1'' hK2 (by omega)
            have hr2 := hr3.kept hK2 (by omega)
            have hK1 : Keeps (· = D1) ((WF.putObj Z0.heap.size (.deferred none)).putObj Y0.heap.size (.deferred none)) (((WF.putObj Z0.heap.size (.deferred none)).putObj Y0.heap.size (.deferred none)).putObj D1 (.deferred none)) := ⟨rfl, rfl, rfl, by simp, fun k _ hn => World.putObj_heap_other hn⟩
            have hrf := (hr2.kept hK1 (by omega)).cell (i := 0) rfl
            refine ⟨by simp, .inl ⟨_, _, rfl, run_takeDeferred d3', ⟨by simp, .inl ⟨_, _, rfl, run_takeDeferred d2'', ⟨by simp, .inl ⟨_, _, rfl, run_takeDeferred e1, ?_⟩⟩⟩⟩⟩⟩
            refine ⟨.bool true, results_cell_val rfl _ _ (w.heap.size + 1) (.bool true) rfl (by simp [go_sem, hrf]), rfl, ?_⟩
            exact (((hKw.trans hKs fun k hk e => by omega).trans hK3 fun k hk e => by omega).trans hK2 fun k hk e => by omega).trans hK1 fun k hk e => by omega
  go_wp2
  go_loopw [11] (fun i wr => ∃ (j : Nat) (kvs : List (Int × Value)), j ≤ n1 ∧ i = .int .i64 j ∧ Wk w wr S9 s rm stop kvs ∧ Things kvs) (fun i _ => n1 - (intOf i).toNat)
  case atStart => exact ⟨0, [], by omega, rfl, HT.out, fun p hp => by simp at hp⟩
  case round =>
    obtain ⟨j, kvs, hj, rfl, hT, hth⟩ := hrel
    by_cases hlt : j < n1
    · have hju : j < ws.length := by have := HN1.out; omega
      rcases HU.out.1 with h0 | ⟨b, o, rfl, hcell⟩
      · exact absurd hju (by rw [h0]; simp)
      · have hb1 : b < w.heap.size := World.block_lt_of_cell? w ⟨b, o + j, none⟩ (hcell j hju)
        have cu : wr.cell? ⟨b, o + j, none⟩ = some (.int .i64 (ws[j]'hju)) := by
          rw [World.cell?_of_block (w := w) (hT.k.block b hb1 fun h => h)]
          exact hcell j hju
        have hkx := HU.out.2 (ws[j]'hju) (List.getElem_mem hju)
        obtain ⟨x, hx⟩ : ∃ x, x = ws[j]'hju := ⟨_, rfl⟩
        rw [← hx] at cu hkx
        have c9 := hT.b9.cell (i := 0) rfl
        have HP : Hid (Calls Try.prog 20 #[ptr s, .int .i64 x, .int .i64 j] (wr.drewN 1) _) := (hT.grown ((Keeps.refl _ wr).drewN 1)).put x j hkx
        have HTh : Hid (Things kvs) := hth
        clear hju hcell hx hkx hT hth HT HU hb1
        go_wp2_with fail
        refine region_tail 6 (by kernel_rfl) ?_
        simp only [List.take_succ_cons, List.take_zero, List.drop_succ_cons, List.drop_zero]
        repeat still_step
        refine wpStill_nil ?_
        go_wp2_with fail
        refine HP.out.mono ?_
        rintro e w4 ⟨⟨v4, rfl⟩, hT4⟩
        have HN : Hid (Wk w w4 S9 s rm stop (putL rm x (.int .i64 j) kvs) ∧ Things (putL rm x (.int .i64 j) kvs)) := ⟨hT4, things_put HTh.out⟩
        clear hT4 HP HTh cu c9
        go_wp2
        go_roundw
        case rel => exact ⟨j + 1, _, by omega, by go_num, HN.out.1, HN.out.2⟩
        case measure => simp [intOf]; omega
    · obtain rfl : j = n1 := by omega
      have HN : Hid (∃ kvs, Wk w wr S9 s rm stop kvs ∧ Things kvs) := ⟨kvs, hT, hth⟩
      clear hT hth
      go_wp2
      go_meet
      exact HN.out

end Go.Proofs.Ytffhkapegmnklaa
