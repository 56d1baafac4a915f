import Derived.Test.YtffhkapegmnklaaS
namespace Go.Proofs.Ytffhkapegmnklaa
open Go.RowKit Go.Shelf
attribute [local go_sem] Oper.semAt_some
set_option linter.unusedVariables false

set_option maxRecDepth 20000 in
set_option maxHeartbeats 8000000 in
theorem lt_main (rm : Nat) (a1 a2 : Option Addr) (ws : List Int) (n2 : Nat) (c1 c2 : Nat) (w : World) (lo : 1 ≤ rm) (hi : rm ≤ 4096) (hu : SegI w a1 ws) (hv : SegB w a2 n2) (bu : ∀ x ∈ ws, I64 x)
    (l1 : (ws.length : Int) ≤ 2147483647) (l2 : (n2 : Int) ≤ 9223372036854775807) :
    Calls Try.prog 4 #[.int .i64 rm, .slice a1 ws.length c1, .slice a2 n2 c2] w fun r w' => r = .returned (.bool true) ∧ Keeps (fun _ => False) w w' := by
  have HU : Hid (SegI w a1 ws ∧ ∀ x ∈ ws, I64 x) := ⟨hu, bu⟩
  have HV : Hid (SegB w a2 n2) := hv
  obtain ⟨n1, hn1⟩ : ∃ n, n = ws.length := ⟨_, rfl⟩
  rw [← hn1] at l1 ⊢
  have HN1 : Hid (n1 = ws.length) := hn1
  have HRm : Hid (1 ≤ rm ∧ rm ≤ 4096) := ⟨lo, hi⟩
  have H1 : Hid (∀ w, Calls Try.prog 16 #[.int .i64 rm] w _) := fun w => new_any rm w lo hi
  have hrm : (rm : Int) ≤ 4096 := by omega
  clear hu hv bu hn1 lo hi
  refine (callsIn_wide (n := 8)).1 ?_
  refine callsIn_of_wp_marks Try.func4 rfl trivial ?_ rfl
  refine wpIn_wide.2 ?_
  simp only [Try.ntmps4, List.size_toArray, List.length_cons, List.length_nil, Nat.reduceAdd, Nat.reduceSub, Array.replicate_succ, Array.replicate_zero, List.push_toArray, List.append_toArray, List.nil_append, List.cons_append]
  go_wp2_with fail
  obtain ⟨w0, hw0⟩ : ∃ w0, w0 = w.alloc (.cells #[.bool false] 4) := ⟨_, rfl⟩
  rw [← hw0]
  refine (H1.out _).mono ?_
  rintro r w1 ⟨rfl, ⟨F1, hS1, hF1⟩, hK1⟩
  have HT : Hid (Lt w w1 (w0.heap.size + 1) rm (.slice none 0 0) [] []) := by
    have hz : w0.heap.size = w.heap.size + 1 := by rw [hw0]; simp
    have hR : Blk w0 w.heap.size [.bool false] 4 := by rw [hw0]; exact Blk.new w _ 4
    have hk0 : Keeps (fun _ => False) w w0 := by rw [hw0]; exact (Keeps.refl _ w).alloc _
    refine ⟨⟨F1, hS1, fun b hb => by have := hF1 b hb; omega, fun b hb => by simp [Value.ownBlock] at hb⟩, fun p hp => by simp at hp, by simp [keysL, latelyL, uniq], by simpa [ivs] using World.ownsRow_nil w1 0 3 1, fun b hb => by simp [Value.ownBlock] at hb, hR.kept hK1 fun h => h, hk0.trans hK1 fun _ _ h => h⟩
  clear hS1 hF1 hK1 hw0 H1
  revert HT
  generalize w0.heap.size + 1 = s
  intro HT
  go_upto_block 0 with fail
  go_cut [9, 10] from 41 to 83 (fun o i wc => ∃ us kvs, Lt w wc s rm o us kvs ∧ us.length ≤ n1)
  case rest =>
    obtain ⟨us, kvs, hT, hul⟩ := hcut
    obtain ⟨_, a5, c5, hu9, hseg5, hob⟩ := owns_seg hT.row
    have H1 : Hid (Calls _ _ _ _ _) := lately_any a5 c5 us rm wc hseg5 (by omega) (by omega)
    have HT0 : Hid (Lt w wc s rm u9 us kvs) := hT
    rw [hu9]
    clear hT hseg5 hob hu9 HT HU HV hul
    go_wp2_with fail
    refine H1.out.mono ?_
    rintro e w5 ⟨v5, rfl, hrow5, hG5⟩
    obtain ⟨_, a6, c6, rfl, hseg6, hob6⟩ := owns_seg hrow5
    have hT5 := HT0.out.grown (hG5.owns rfl)
    have hLk : (latelyL us rm).length = kvs.length := by rw [← hT5.eq]; simp [keysL]
    have hL4 : kvs.length ≤ 4096 := by
      obtain ⟨F, hF, _⟩ := hT5.ex
      exact ksl hF
    obtain ⟨L, hL⟩ : ∃ L, L = (latelyL us rm).length := ⟨_, rfl⟩
    rw [← hL] at hLk ⊢
    have hLi : (L : Int) ≤ 4096 := by omega
    have HT5 : Hid (Lt w w5 s rm u9 us kvs ∧ SegI w5 a6 (latelyL us rm) ∧ L = (latelyL us rm).length ∧ L = kvs.length) := ⟨hT5, hseg6, hL, hLk⟩
    clear H1 HT0 hrow5 hG5 hseg6 hob6 hT5 hLk hL4 hL
    go_wp2_with fail
    refine (all_any (some ⟨s, 0, none⟩) _).mono ?_
    rintro e w7 ⟨rfl, hw7⟩
    obtain ⟨Wb, hWb⟩ : ∃ Wb, Wb = w5.heap.size := ⟨_, rfl⟩
    obtain ⟨B1, hB1⟩ : ∃ B1, B1 = (w5.alloc (.cells #[.slice a6 L c6] 33)).heap.size := ⟨_, rfl⟩
    have hK7 : Keeps (fun _ => False) w5 w7 := by rw [hw7]; exact ((Keeps.refl (fun _ => False) w5).alloc _).alloc _
    have hb7 : Blk w7 Wb [.slice a6 L c6] 33 := by rw [hw7, hWb]; exact (Blk.new w5 _ 33).alloc _
    have hb8 : Blk w7 B1 [ptr s] 35 := by rw [hw7, hB1]; exact Blk.new _ _ 35
    rw [← hWb, ← hB1]
    have HS : Hid (Lt w w7 s rm u9 us kvs ∧ SegI w7 a6 (latelyL us rm) ∧ Blk w7 Wb [.slice a6 L c6] 33 ∧ Blk w7 B1 [ptr s] 35) :=
      ⟨HT5.out.1.grown hK7, HT5.out.2.1.kept hK7 fun _ _ h => h, hb7, hb8⟩
    have HL : Hid (L = (latelyL us rm).length ∧ L = kvs.length) := HT5.out.2.2
    have cw := hb7.cell (i := 0) rfl
    have hfn := func_nil44 (.func 40) #[] #[.pointer (some ⟨B1, 0, none⟩)] w7
    clear HT5 hw7 hWb hB1 hK7 hb7 hb8
    go_wp2
    obtain ⟨X0, hX0⟩ : ∃ X0, X0 = w7.alloc (.cells #[.int .i64 L] 3) := ⟨_, rfl⟩
    have hKx : Keeps (fun _ => False) w7 X0 := by rw [hX0]; exact (Keeps.refl (fun _ => False) w7).alloc _
    have hBi : Blk X0 w7.heap.size [.int .i64 L] 3 := by rw [hX0]; exact Blk.new w7 _ 3
    have hzx : X0.heap.size = w7.heap.size + 1 := by rw [hX0]; simp
    rw [← hX0]
    have HX : Hid (Keeps (fun _ => False) w7 X0 ∧ Blk X0 w7.heap.size [.int .i64 L] 3 ∧ X0.heap.size = w7.heap.size + 1) := ⟨hKx, hBi, hzx⟩
    clear hKx hBi hzx hX0 cw hfn
    obtain ⟨Ib, hIb⟩ : ∃ Ib, Ib = w7.heap.size := ⟨_, rfl⟩
    rw [← hIb] at HX ⊢
    have HIb : Hid (Ib = w7.heap.size) := hIb
    clear hIb
    have Hold : Hid (∀ X, Keeps (· = Ib) X0 X → Keeps (fun _ => False) w7 X) := fun X hK => HX.out.1.trans hK fun b hb he => by have := HIb.out; omega
    refine (wpIn_wide (n := 8)).1 ?_
    refine range_list rfl (by omega) (gf := 40) (lb := #[.pointer (some ⟨B1, 0, none⟩)]) rfl trivial (enters_of Try.func40 (by kernel_rfl) rfl) (all_lists 7 B1 s rm kvs HS.out.1.th)
      (fun X hK => ?good) (fun _ => rfl) (fun g i X => g < X.heap.size ∧ Keeps (· = Ib) X0 X ∧ Blk X Ib [.int .i64 ((L : Int) - i)] 3) (fun _ _ => False)
      (fun g i X X' hK h => ⟨Nat.lt_of_lt_of_le h.1 hK.size, h.2.1.trans hK fun b hb he => by omega, h.2.2.kept hK fun he => by have := HX.out.2.2; omega⟩) (fun _ _ _ _ h => h)
      (fun g X hK hg1 hg2 => ⟨hg2, hK.mono fun _ _ h => h.elim, by simpa using HX.out.2.1.kept hK fun h => h⟩) ?body ?done ?stop
    case good =>
      have hK' := Hold.out X (hK.mono fun _ _ h => h.elim)
      obtain ⟨F, hF, _⟩ := (HS.out.1.grown hK').ex
      exact ⟨(HS.out.2.2.2.kept hK' fun h => h).cell rfl, F, hF⟩
    case stop =>
      rintro c W h _
      exact h.elim
    case body =>
      intro l g i x X hx hC hgB
      obtain ⟨n, hn⟩ := HS.out.1.th x (List.mem_of_getElem? hx)
      obtain ⟨xk, xv⟩ := x
      simp only at hn
      subst hn
      have hiL : i < L := by have := (List.getElem?_eq_some_iff.1 hx).1; have := HL.out.2; omega
      unfold encA
      gi_wp2
      refine ⟨trivial, ?_⟩
      intro X2 hlt hC2
      have hKW := Hold.out X2 hC2.2.1
      have cI := hC2.2.2.cell (i := 0) rfl
      have fI := hC2.2.2.frozen 0
      obtain ⟨q, hq⟩ : ∃ q : Nat, q = L - 1 - i := ⟨_, rfl⟩
      have hqL : q < (latelyL us rm).length := by have := HL.out.1; omega
      have hqx : (latelyL us rm)[q]'hqL = xk := by
        have h1 : (latelyL us rm)[q]? = some xk := by
          rw [← HS.out.1.eq]
          unfold keysL
          rw [List.getElem?_reverse (by rw [List.length_map]; have := HL.out.2; omega), List.length_map, ← HL.out.2, show L - 1 - q = i by omega]
          simp [hx]
        rw [List.getElem?_eq_getElem hqL] at h1
        exact Option.some.inj h1
      have hsg := HS.out.2.1.kept hKW fun _ _ h => h
      rcases hsg with h0 | ⟨gv, ov, hav, hcv⟩
      · rw [h0] at hqL; simp at hqL
      · have cw := (HS.out.2.2.1.kept hKW fun h => h).cell (i := 0) rfl
        have cq := hcv q hqL
        rw [hqx] at cq
        rw [hav] at cw
        have hKs : Keeps (· = Ib) X2 (X2.setCell ⟨Ib, 0, none⟩ (.int .i64 (q : Int))) := (Keeps.refl _ X2).setCell _ _ fun _ => rfl
        have hne1 : gv ≠ Ib := fun he => by
          have h5 : X2.cell? ⟨gv, ov + q, none⟩ = some (.int .i64 xk) := cq
          have hgl : gv < w7.heap.size := by
            rcases HS.out.2.1 with h0 | ⟨gv', ov', hav', hcv'⟩
            · rw [h0] at hqL; simp at hqL
            · rw [hav] at hav'; cases hav'
              exact World.block_lt_of_cell? w7 ⟨gv, ov + q, none⟩ (hcv' q hqL)
          have := HIb.out; omega
        have hne2 : Wb ≠ Ib := fun he => by have := HS.out.2.2.1.lt; have := HIb.out; omega
        have HF : Hid (KeptAt X0.heap.size g X2 (X2.setCell ⟨Ib, 0, none⟩ (.int .i64 (q : Int))) ∧ g < (X2.setCell ⟨Ib, 0, none⟩ (.int .i64 (q : Int))).heap.size ∧ Keeps (· = Ib) X0 (X2.setCell ⟨Ib, 0, none⟩ (.int .i64 (q : Int))) ∧ Blk (X2.setCell ⟨Ib, 0, none⟩ (.int .i64 (q : Int))) Ib [.int .i64 ((L : Int) - ((i + 1 : Nat) : Int))] 3) := by
          have hz := HX.out.2.2
          refine ⟨⟨Below.heap_setCell X2 ⟨Ib, 0, none⟩ _ _ (show _ ≠ Ib by omega), Below.heap_setCell X2 ⟨Ib, 0, none⟩ _ _ (show _ ≠ Ib by omega), Below.heap_setCell X2 ⟨Ib, 0, none⟩ _ _ (show _ ≠ Ib by omega)⟩, by simp; exact hC2.1, hC2.2.1.setCell _ _ fun _ => rfl, ?_⟩
          have := hC2.2.2.setCell 0 (.int .i64 (q : Int))
          rw [show ((L : Int) - ((i + 1 : Nat) : Int)) = (q : Int) by omega]
          exact this
        have hqi : (L : Int) - (i : Int) = (q : Int) + 1 := by omega
        rw [hqi] at cI
        have hi1 : (q : Int) < (L : Int) := by omega
        clear hC hC2 hKW hx hgB hlt hav hcv hqx hqL hq hqi hKs
        gi_wp2
        exact HF.out
    case done =>
      intro g X hC hD
      have hKW := Hold.out X hC.2.1
      have hT := HS.out.1.grown hKW
      have cI := hC.2.2.cell (i := 0) rfl
      have cw := (HS.out.2.2.1.kept hKW fun h => h).cell (i := 0) rfl
      rw [← HL.out.2, show (L : Int) - (L : Int) = 0 by omega] at cI
      have c0 := hT.r.cell (i := 0) rfl
      have f0 := hT.r.frozen 0
      obtain ⟨F, hF, _⟩ := hT.ex
      have hlen : ∀ q, Calls Try.prog 22 #[ptr s] (X.drewN q) fun e w' => e = .returned (.int .i64 L) ∧ w' = X.drewN q := fun q => by
        have := len_any s rm kvs F (X.drewN q) (hF.kept (S := fun _ => False) ((Keeps.refl _ X).drewN q) fun _ _ h => h)
        rw [← HL.out.2] at this
        exact this
      have HLen : Hid (∀ q, Calls Try.prog 22 #[ptr s] (X.drewN q) fun e w' => e = .returned (.int .i64 L) ∧ w' = X.drewN q) := hlen
      have hRI : w.heap.size ≠ Ib := by have := HS.out.1.r.lt; have := HIb.out; omega
      have hRW : w.heap.size ≠ Wb := fun he => by
        have h1 := HS.out.1.r
        have h2 := HS.out.2.2.1
        rw [← he] at h2
        have h3 := h1.symm.trans h2
        simp at h3
      have HZ : Hid (Lt w X s rm u9 us kvs ∧ X.heap[X0.heap.size]? = some (.deferred (some [])) ∧ w.heap.size < X0.heap.size) := ⟨hT, hD, by have := HS.out.1.r.lt; have := HX.out.2.2; have := HIb.out; omega⟩
      have HSS : Hid ((X.setCell ⟨w.heap.size, 0, none⟩ (.bool true)).drew.cell? ⟨Ib, 0, none⟩ = some (.int .i64 0) ∧ (X.setCell ⟨w.heap.size, 0, none⟩ (.bool true)).drew.cell? ⟨Wb, 0, none⟩ = some (.slice a6 L c6)) := by
        have hKs : Keeps (· = w.heap.size) X (X.setCell ⟨w.heap.size, 0, none⟩ (.bool true)).drew := ((Keeps.refl (· = w.heap.size) X).setCell ⟨w.heap.size, 0, none⟩ (.bool true) fun _ => rfl).drew
        have b1 : Blk X Ib [.int .i64 0] 3 := by
          have := hC.2.2
          rw [← HL.out.2, show (L : Int) - (L : Int) = 0 by omega] at this
          exact this
        exact ⟨(b1.kept hKs fun h => hRI h.symm).cell rfl, ((HS.out.2.2.1.kept hKW fun h => h).kept hKs fun h => hRW h.symm).cell rfl⟩
      clear hC hD hKW hT hF hlen HS HX Hold HIb
      gi_wp2
      go_wp2
      go_region_held3 (fun w' => w'.cell? ⟨Ib, 0, none⟩ = some (.int .i64 0) ∧ w'.cell? ⟨Wb, 0, none⟩ = some (.slice a6 L c6)) (first | exact HSS.out | go_keep)
        (first
          | (go_at_call 22; refine (HLen.out 1).mono ?_; rintro e w13 ⟨rfl, rfl⟩))
      go_wp2
      obtain ⟨hT, hD, hz⟩ := HZ.out
      have hKs : Keeps (· = w.heap.size) X ((X.drewN 1).setCell ⟨w.heap.size, 0, none⟩ (.bool true)) := ((Keeps.refl (· = w.heap.size) X).drewN 1).setCell ⟨w.heap.size, 0, none⟩ (.bool true) fun _ => rfl
      have d1 := obj_kept hD hKs (by omega)
      have hr := (hT.r.drewN 1).setCell 0 (.bool true)
      have hKw := hT.k
      revert hKs d1 hr
      generalize (X.drewN 1).setCell ⟨w.heap.size, 0, none⟩ (.bool true) = WF
      intro hKs d1 hr
      have hKf : Keeps (· = X0.heap.size) WF (WF.putObj X0.heap.size (.deferred none)) := ⟨rfl, rfl, rfl, by simp, fun k _ hn => World.putObj_heap_other hn⟩
      have hrf := (hr.kept hKf (by omega)).cell (i := 0) rfl
      refine ⟨by simp, .inl ⟨_, _, rfl, run_takeDeferred d1, ?_⟩⟩
      refine ⟨.bool true, results_cell_val rfl _ _ w.heap.size (.bool true) rfl (by simp [go_sem, hrf]), rfl, ?_⟩
      exact (hKw.trans hKs fun k hk e => by omega).trans hKf fun k hk e => by omega
  go_wp2
  go_loopw [9, 10] (fun o i wr => ∃ (j : Nat) (us : List Int) (kvs : List (Int × Value)), j ≤ n1 ∧ i = .int .i64 j ∧ Lt w wr s rm o us kvs ∧ us.length ≤ j) (fun _ i _ => n1 - (intOf i).toNat)
  case atStart => exact ⟨0, [], [], by omega, rfl, HT.out, by simp⟩
  case round =>
    obtain ⟨j, us, kvs, hj, rfl, hT, hul⟩ := hrel
    by_cases hlt : j < n1
    · have hju : j < ws.length := by have := HN1.out; omega
      rcases HU.out.1 with h0 | ⟨b, o, rfl, hcell⟩
      · exact absurd hju (by rw [h0]; simp)
      · have hb1 : b < w.heap.size := World.block_lt_of_cell? w ⟨b, o + j, none⟩ (hcell j hju)
        have cu : wr.cell? ⟨b, o + j, none⟩ = some (.int .i64 (ws[j]'hju)) := by
          rw [World.cell?_of_block (w := w) (hT.k.block b hb1 fun h => h)]
          exact hcell j hju
        have hkx := HU.out.2 (ws[j]'hju) (List.getElem_mem hju)
        obtain ⟨x, hx⟩ : ∃ x, x = ws[j]'hju := ⟨_, rfl⟩
        rw [← hx] at cu hkx
        have HX : Hid (I64 x) := hkx
        have HLt : Hid (Lt w wr s rm u9 us kvs ∧ us.length ≤ j) := ⟨hT, hul⟩
        -- does this use ask, or put?
        have hask : (∃ bb, (j : Int) < n2 ∧ ∃ b2 o2, a2 = some ⟨b2, o2, none⟩ ∧ wr.cell? ⟨b2, o2 + j, none⟩ = some (.bool bb)) ∨ ¬ ((j : Int) < n2) := by
          by_cases h2 : (j : Int) < n2
          · left
            rcases HV.out with h0 | ⟨b2, o2, h3, h4⟩
            · omega
            · obtain ⟨bb, hbb⟩ := h4 j (by omega)
              refine ⟨bb, h2, b2, o2, h3, ?_⟩
              have hb2 : b2 < w.heap.size := World.block_lt_of_cell? w ⟨b2, o2 + j, none⟩ hbb
              rw [World.cell?_of_block (w := w) (hT.k.block b2 hb2 fun h => h)]
              exact hbb
          · exact .inr h2
        clear hju hcell hx hkx hT hul HT HU HV hb1
        rcases hask with ⟨bb, hn2, b2, o2, rfl, cb⟩ | hn2
        · cases bb with
          | true =>
            have hT := HLt.out.1
            have H1 : Hid (Calls _ _ _ _ _) := hT.step (fun F hF => get_any s rm kvs F x wr hF HX.out) (things_touch hT.th)
            clear hT
            by_cases hok : (look x kvs).isSome = true
            · rw [hok] at H1
              obtain ⟨v0, hv0⟩ : ∃ v, v = (look x kvs).getD (.int .i64 0) := ⟨_, rfl⟩
              rw [← hv0] at H1
              clear hv0
              go_wp2_with fail
              refine H1.out.mono ?_
              rintro e w4 ⟨rfl, hx4, hrow4, hr4, hk4⟩
              obtain ⟨_, a5, c5, hu9, hseg5, hob⟩ := owns_seg hrow4
              have H2 : Hid (Calls _ _ _ _ _) := lately_any a5 c5 us rm w4 hseg5 (by have := HLt.out.2; omega) (by omega)
              have H4 : Hid ((∃ F : Nat → Prop, Sf w4 s rm (touch x kvs) F ∧ (∀ b, F b → w.heap.size < b) ∧ ∀ b, u9.ownBlock = some b → ¬ F b) ∧ w4.ownsRow 0 3 1 u9 us.length (ivs us) ∧ Blk w4 w.heap.size [.bool false] 4 ∧ Keeps (fun _ => False) w w4) := ⟨hx4, hrow4, hr4, hk4⟩
              have HL := HLt
              rw [hu9] at HL H4 ⊢
              have HOK : Hid ((look x kvs).isSome = true) := hok
              clear HLt hx4 hrow4 hr4 hk4 hseg5 hob hu9 H1 cu cb hok
              go_wp2_with fail
              refine H2.out.mono ?_
              rintro e w5 ⟨v5, rfl, hrow5, hG5⟩
              obtain ⟨_, a6, c6, rfl, hseg6, _⟩ := owns_seg hrow5
              have hl6 : (latelyL us rm).length ≤ rm := by unfold latelyL; simp; omega
              have H3 : Hid (Calls _ _ _ _ _) := among_any a6 c6 (latelyL us rm) x w5 hseg6 (by omega)
              rw [look_lately HL.out.1.eq, HOK.out] at H3
              have hK5 : Keeps (fun _ => False) w4 w5 := hG5.owns rfl
              have H5 : Hid ((∃ F : Nat → Prop, Sf w5 s rm (touch x kvs) F ∧ (∀ b, F b → w.heap.size < b) ∧ ∀ b, (Value.slice a5 us.length c5).ownBlock = some b → ¬ F b) ∧ w5.ownsRow 0 3 1 (.slice a5 us.length c5) us.length (ivs us) ∧ Blk w5 w.heap.size [.bool false] 4 ∧ Keeps (fun _ => False) w w5) := by
                obtain ⟨⟨F, g1, g2, g3⟩, g4, g5, g6⟩ := H4.out
                exact ⟨⟨F, g1.kept hK5 fun _ _ h => h, g2, g3⟩, owns_kept g4 hK5 fun _ _ h => h, g5.kept hK5 fun h => h, g6.trans hK5 fun _ _ h => h⟩
              obtain ⟨v', W', happ, hown', hfr'⟩ := append_int x (.slice a5 us.length c5) us.length _ H5.out.2.1 (by have := HL.out.2; omega)
              have HAP : Hid (∀ ty, _) := happ
              have HN : Hid (Lt w W' s rm v' (us ++ [x]) (touch x kvs) ∧ (us ++ [x]).length ≤ j + 1) :=
                ⟨Lt.use H5.out.1 (things_touch HL.out.1.th) (touch_lately HRm.out.1 HL.out.1.eq x HOK.out) HL.out.1.ob H5.out.2.2.1 H5.out.2.2.2 hown' hfr', by have := HL.out.2; simp; omega⟩
              clear H2 hrow5 hG5 hseg6 hl6 hK5 happ hown' hfr' H4 H5
              go_wp2_with fail
              refine H3.out.mono ?_
              rintro e w6 ⟨rfl, rfl⟩
              clear H3
              go_wp2_with (at_builtin; go_must (refine wpList_append_run rfl (.tmp 80) (.tmp 82) 33 33 rfl (.slice a5 us.length c5) (.slice (some ⟨w6.heap.size, 0, none⟩) 1 1) v' W' rfl rfl HAP.out ?_; refine Hid.out ?_))
              unfold Hid
              go_wp2
              go_roundw
              case rel => exact ⟨j + 1, _, _, by omega, by go_num, HN.out.1, HN.out.2⟩
              case measure => simp [intOf]; omega
            · have hok' : (look x kvs).isSome = false := by simpa using hok
              have htk : touch x kvs = kvs := by
                unfold touch
                cases hl : look x kvs with
                | none => rfl
                | some v => rw [hl] at hok'; simp at hok'
              rw [hok', htk] at H1
              obtain ⟨v0, hv0⟩ : ∃ v, v = (look x kvs).getD (.int .i64 0) := ⟨_, rfl⟩
              rw [← hv0] at H1
              clear hv0
              go_wp2_with fail
              refine H1.out.mono ?_
              rintro e w4 ⟨rfl, hx4, hrow4, hr4, hk4⟩
              obtain ⟨_, a5, c5, hu9, hseg5, hob⟩ := owns_seg hrow4
              have H2 : Hid (Calls _ _ _ _ _) := lately_any a5 c5 us rm w4 hseg5 (by have := HLt.out.2; omega) (by omega)
              have H4 : Hid (Lt w w4 s rm u9 us kvs ∧ us.length ≤ j) := ⟨⟨hx4, HLt.out.1.th, HLt.out.1.eq, hrow4, HLt.out.1.ob, hr4, hk4⟩, HLt.out.2⟩
              rw [hu9] at H4 ⊢
              have HOK : Hid ((look x kvs).isSome = false) := hok'
              clear HLt hx4 hrow4 hr4 hk4 hseg5 hob hu9 H1 cu cb hok hok' htk
              go_wp2_with fail
              refine H2.out.mono ?_
              rintro e w5 ⟨v5, rfl, hrow5, hG5⟩
              obtain ⟨_, a6, c6, rfl, hseg6, _⟩ := owns_seg hrow5
              have hl6 : (latelyL us rm).length ≤ rm := by unfold latelyL; simp; omega
              have H3 : Hid (Calls _ _ _ _ _) := among_any a6 c6 (latelyL us rm) x w5 hseg6 (by omega)
              rw [look_lately H4.out.1.eq, HOK.out] at H3
              have HN : Hid (Lt w w5 s rm (.slice a5 us.length c5) us kvs ∧ us.length ≤ j) := ⟨H4.out.1.grown (hG5.owns rfl), H4.out.2⟩
              clear H2 hrow5 hG5 hseg6 hl6 H4
              go_wp2_with fail
              refine H3.out.mono ?_
              rintro e w6 ⟨rfl, rfl⟩
              clear H3
              go_wp2
              go_roundw
              case rel => exact ⟨j + 1, _, _, by omega, by go_num, HN.out.1, by have := HN.out.2; omega⟩
              case measure => simp [intOf]; omega
          | false =>
            have hT := HLt.out.1
            have H1 : Hid (Calls _ _ _ _ _) := hT.step (fun F hF => (put_any s rm kvs F x j wr hF HX.out).mono fun e W' h => (⟨⟨_, h.1⟩, h.2⟩ : RetL e ∧ _)) (things_put hT.th)
            have HLk : Hid (keysL (putL rm x (.int .i64 j) kvs) = latelyL (us ++ [x]) rm) := by
              obtain ⟨F, hF, _⟩ := hT.ex
              exact put_lately HRm.out.1 hT.eq hF.fits x _
            clear hT
            go_wp2_with fail
            refine H1.out.mono ?_
            rintro e w4 ⟨⟨v0, rfl⟩, hx4, hrow4, hr4, hk4⟩
            obtain ⟨_, a5, c5, hu9, hseg5, hob⟩ := owns_seg hrow4
            obtain ⟨v', W', happ, hown', hfr'⟩ := append_int x u9 us.length _ hrow4 (by have := HLt.out.2; omega)
            have HAP : Hid (∀ ty, _) := happ
            have HN : Hid (Lt w W' s rm v' (us ++ [x]) (putL rm x (.int .i64 j) kvs) ∧ (us ++ [x]).length ≤ j + 1) :=
              ⟨Lt.use hx4 (things_put HLt.out.1.th) HLk.out HLt.out.1.ob hr4 hk4 hown' hfr', by have := HLt.out.2; simp; omega⟩
            rw [hu9] at HAP ⊢
            clear hx4 hrow4 hr4 hk4 hseg5 hob hu9 H1 cu happ hown' hfr' HLt HLk
            go_wp2_with (at_builtin; go_must (refine wpList_append_run rfl (.tmp 80) (.tmp 82) 33 33 rfl (.slice a5 us.length c5) (.slice (some ⟨w4.heap.size, 0, none⟩) 1 1) v' W' rfl rfl HAP.out ?_; refine Hid.out ?_))
            unfold Hid
            go_wp2
            go_roundw
            case rel => exact ⟨j + 1, _, _, by omega, by go_num, HN.out.1, HN.out.2⟩
            case measure => simp [intOf]; omega
        · have hT := HLt.out.1
          have H1 : Hid (Calls _ _ _ _ _) := hT.step (fun F hF => (put_any s rm kvs F x j wr hF HX.out).mono fun e W' h => (⟨⟨_, h.1⟩, h.2⟩ : RetL e ∧ _)) (things_put hT.th)
          have HLk : Hid (keysL (putL rm x (.int .i64 j) kvs) = latelyL (us ++ [x]) rm) := by
            obtain ⟨F, hF, _⟩ := hT.ex
            exact put_lately HRm.out.1 hT.eq hF.fits x _
          clear hT
          go_wp2_with fail
          refine H1.out.mono ?_
          rintro e w4 ⟨⟨v0, rfl⟩, hx4, hrow4, hr4, hk4⟩
          obtain ⟨_, a5, c5, hu9, hseg5, hob⟩ := owns_seg hrow4
          obtain ⟨v', W', happ, hown', hfr'⟩ := append_int x u9 us.length _ hrow4 (by have := HLt.out.2; omega)
          have HAP : Hid (∀ ty, _) := happ
          have HN : Hid (Lt w W' s rm v' (us ++ [x]) (putL rm x (.int .i64 j) kvs) ∧ (us ++ [x]).length ≤ j + 1) :=
            ⟨Lt.use hx4 (things_put HLt.out.1.th) HLk.out HLt.out.1.ob hr4 hk4 hown' hfr', by have := HLt.out.2; simp; omega⟩
          rw [hu9] at HAP ⊢
          clear hx4 hrow4 hr4 hk4 hseg5 hob hu9 H1 cu happ hown' hfr' HLt HLk
          go_wp2_with (at_builtin; go_must (refine wpList_append_run rfl (.tmp 80) (.tmp 82) 33 33 rfl (.slice a5 us.length c5) (.slice (some ⟨w4.heap.size, 0, none⟩) 1 1) v' W' rfl rfl HAP.out ?_; refine Hid.out ?_))
          unfold Hid
          go_wp2
          go_roundw
          case rel => exact ⟨j + 1, _, _, by omega, by go_num, HN.out.1, HN.out.2⟩
          case measure => simp [intOf]; omega
    · obtain rfl : j = n1 := by omega
      have HN : Hid (∃ us kvs, Lt w wr s rm u9 us kvs ∧ us.length ≤ j) := ⟨us, kvs, hT, hul⟩
      clear hT hul
      go_wp2
      go_meet
      exact HN.out

end Go.Proofs.Ytffhkapegmnklaa
