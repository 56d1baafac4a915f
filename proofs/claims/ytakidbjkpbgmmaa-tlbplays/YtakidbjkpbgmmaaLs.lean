import Derived.Test.YtakidbjkpbgmmaaPu
namespace Go.Proofs.Ytakidbjkpbgmmaa
open Go.RowKit Go.Shelf
set_option linter.unusedVariables false

/-- A row of leaves of one's own, with its block, none where there is none. -/
structure RowL (w : World) (v : Value) (ls : List Lf) : Prop where
  owns : w.ownsRow 0 38 3 v ls.length (flatL ls)

theorem row_at {w : World} {v : Value} {ls : List Lf} (h : w.ownsRow 0 38 3 v ls.length (flatL ls)) :
    (v = .slice none 0 0 ∧ ls = []) ∨ ∃ g cap, v = .slice (some ⟨g, 0, none⟩) ls.length cap ∧ v.ownBlock = some g ∧ g < w.heap.size ∧ ls.length ≤ cap ∧ (cap : Int) ≤ 9223372036854775807 ∧ ∀ j l, ls[j]? = some l → LeafAt w g (j * 3) l := by
  rcases h.2 with ⟨rfl, h2⟩ | ⟨g, cap, cur, rfl, _, hgg, h5, h6, _⟩
  · exact .inl ⟨rfl, List.length_eq_zero_iff.1 h2⟩
  · refine .inr ⟨g, cap, rfl, rfl, (Array.getElem?_eq_some_iff.1 hgg).1, h5, by unfold maxLen at h6; omega, fun j l hj => ?_⟩
    have hc := h.cells (g := g) rfl
    obtain ⟨h1, h2, h3⟩ := flatL_get ls j l hj
    have a1 := hc _ _ h1
    have a2 := hc _ _ h2
    have a3 := hc _ _ h3
    rw [addr_add, Nat.zero_add] at a1 a2 a3
    exact ⟨a1, a2, a3⟩

/-- The slice's value, whatever it is. -/
theorem row_val {w : World} {v : Value} {ls : List Lf} (h : w.ownsRow 0 38 3 v ls.length (flatL ls)) : ∃ a cap, v = .slice a ls.length cap ∧ ls.length ≤ cap ∧ (cap : Int) ≤ 9223372036854775807 ∧ (∀ x, a = some x → v.ownBlock = some x.block) ∧ SegL w a ls := by
  rcases row_at h with ⟨rfl, rfl⟩ | ⟨g, cap, rfl, h2, h3, h4, h5, h6⟩
  · exact ⟨none, 0, rfl, Nat.le_refl _, by omega, fun x h => by simp at h, .inl rfl⟩
  · exact ⟨some ⟨g, 0, none⟩, cap, rfl, h4, h5, fun x h => by simp at h; rw [h2, ← h], .inr ⟨g, 0, rfl, fun j l hj => by rw [Nat.zero_add]; exact h6 j l hj⟩⟩

/-- Where the walk is: the TLB holds the last ones, the latest last. -/
structure LI (w wr : World) (t : Nat) (v : Value) (last : List Lf) : Prop where
  keeps : Keeps (fun _ => False) w wr
  row : wr.ownsRow 0 38 3 v last.length (flatL last)
  le : last.length ≤ 4
  tl : ∃ F, Tl wr t last.reverse F ∧ (∀ b, F b → w.heap.size ≤ b) ∧ ∀ b, v.ownBlock = some b → w.heap.size ≤ b ∧ ¬ F b

theorem may_cases {x : Lf} (h : mayB x = false) : ¬ 0 ≤ x.p ∨ (0 ≤ x.p ∧ ¬ x.p < 256) ∨ (0 ≤ x.p ∧ x.p < 256 ∧ ¬ 0 ≤ x.f) ∨ (0 ≤ x.p ∧ x.p < 256 ∧ 0 ≤ x.f ∧ ¬ x.f < 1024) ∨ (0 ≤ x.p ∧ x.p < 256 ∧ 0 ≤ x.f ∧ x.f < 1024 ∧ ¬ 0 ≤ x.r) ∨
    (0 ≤ x.p ∧ x.p < 256 ∧ 0 ≤ x.f ∧ x.f < 1024 ∧ 0 ≤ x.r ∧ ¬ x.r < 8) := by
  simp [mayB, inB] at h
  omega

/-- A new block more. -/
theorem LI.kept {w wr wr' : World} {t : Nat} {v : Value} {last : List Lf} (h : LI w wr t v last) (hK : Keeps (fun _ => False) wr wr') : LI w wr' t v last := by
  obtain ⟨h1, h2, h3, F, h4, h5, h6⟩ := h
  exact ⟨h1.trans hK fun _ _ h => h, owns_kept h2 hK fun _ _ h => h, h3, F, h4.kept hK fun _ _ h => h, h5, h6⟩

theorem SegL.kept2 {S : Nat → Prop} {w w' : World} {a : Option Addr} {ls : List Lf} (h : SegL w a ls) (hK : Keeps S w w') (hn : ls ≠ [] → ∀ x, a = some x → ¬ S x.block) : SegL w' a ls := by
  by_cases e : ls = []
  · exact .inl e
  · exact h.kept hK (hn e)

/-- Where the walk through the pages is. -/
structure PI (w wr : World) (t : Nat) (a4 : Option Addr) (last : List Lf) : Prop where
  keeps : Keeps (fun _ => False) w wr
  seg : SegL wr a4 last
  tl : ∃ lsC F, Tl wr t lsC F ∧ (∀ x, x ∈ lsC ↔ x ∈ last) ∧ (∀ b, F b → w.heap.size ≤ b) ∧ (last ≠ [] → ∀ x, a4 = some x → ¬ F x.block)

set_option maxRecDepth 20000 in
set_option maxHeartbeats 4000000 in
theorem tlbLast_any (a : Option Addr) (ls : List Lf) (c : Nat) (w : World) (hl : ls.length ≤ c ∧ c ≤ maxLen) (hs : SegL w a ls) (hf : ∀ l ∈ ls, l.Fine) :
    Calls Try.prog 4 #[.slice a ls.length c] w fun r w' => r = .returned (.bool true) ∧ Keeps (fun _ => False) w w' := by
  obtain ⟨L, hL⟩ : ∃ L, L = ls.length := ⟨_, rfl⟩
  have HS : Hid (SegL w a ls ∧ (∀ l ∈ ls, l.Fine) ∧ L = ls.length) := ⟨hs, hf, hL⟩
  have hc2 : (L : Int) ≤ c := by omega
  have hc3 : (c : Int) ≤ 9223372036854775807 := by unfold maxLen at hl; omega
  rw [← hL]
  clear hl hs hf hL
  go_enter Try.func4, Try.ntmps4
  go_wp2_with fail
  refine (newT_any w).mono ?_
  rintro r w1 ⟨t, rfl, ⟨F, hT, hF⟩, hK⟩
  have HT : Hid (LI w w1 t (.slice none 0 0) []) := ⟨hK, World.ownsRow_nil w1 0 38 3, by simp, F, hT, hF, fun b hb => by simp [Value.ownBlock] at hb⟩
  clear hT hF hK
  go_wp2
  go_loopw [4, 5] (fun v i wr => ∃ (j : Nat) (last : List Lf), j ≤ L ∧ i = .int .i64 j ∧ LI w wr t v last) (fun _ i _ => L - (intOf i).toNat)
  case atStart => exact ⟨0, [], by omega, rfl, HT.out⟩
  case round =>
    obtain ⟨wz, hz⟩ : ∃ wz, wz = wr := ⟨_, rfl⟩
    subst hz
    obtain ⟨j, last, hj, rfl, hI⟩ := hrel
    by_cases hlt : j < L
    · obtain ⟨x, hx⟩ : ∃ x, ls[j]? = some x := ⟨_, List.getElem?_eq_getElem (by have := HS.out.2.2; omega)⟩
      have hfx := HS.out.2.1 x (List.mem_of_getElem? hx)
      obtain ⟨g, o, rfl, hg⟩ : ∃ g o, a = some ⟨g, o, none⟩ ∧ LeafAt w g (o + j * 3) x := by
        rcases HS.out.1 with h | ⟨g, o, ha, h⟩
        · rw [h] at hx; simp at hx
        · exact ⟨g, o, ha, h j x hx⟩
      have hgr := hg.kept hI.keeps fun h => h
      obtain ⟨l0, l1, l2⟩ := hgr
      have HX : Hid (x.Fine ∧ g < w.heap.size) := ⟨hfx, hg.lt⟩
      obtain ⟨W3, hW3⟩ : ∃ W3, W3 = wz.alloc (.cells #[.int .i64 x.p, .int .i64 x.f, .int .i64 x.r] 38) := ⟨_, rfl⟩
      have hK3 : Keeps (fun _ => False) wz W3 := by rw [hW3]; exact (Keeps.refl _ wz).alloc _
      have hI3 := hI.kept hK3
      have hB3 : Blk W3 wz.heap.size x.vs 38 := by rw [hW3]; exact Blk.new wz _ 38
      have HI : Hid (LI w W3 t u4 last ∧ Blk W3 wz.heap.size x.vs 38 ∧ w.heap.size ≤ wz.heap.size) := ⟨hI3, hB3, hI.keeps.size⟩
      have HW : Hid (W3 = _) := hW3
      obtain ⟨F0, hT1, hF0, hd0⟩ := hI.tl
      have hT0 := hT1.kept hK3 fun _ _ h => h
      have hn0 : ¬ F0 wz.heap.size := fun hb => by have := hT1.lt _ hb; omega
      have HT0 : Hid (Tl W3 t last.reverse F0 ∧ (∀ b, F0 b → w.heap.size ≤ b) ∧ (∀ b, u4.ownBlock = some b → w.heap.size ≤ b ∧ ¬ F0 b) ∧ ¬ F0 wz.heap.size) := ⟨hT0, hF0, hd0, hn0⟩
      clear hI hx hfx hg hW3 hK3 hI3 hB3 hT0 hF0 hd0 hT1 hn0
      cases hm : mayB x
      · have HP : Hid (Calls _ _ _ _ _) := putT_no t last.reverse F0 x W3 HT0.out.1 hm
        have HE : Hid (∀ w', NowT W3 w' t last.reverse F0 → LI w w' t u4 last) := fun w' hN => by
          obtain ⟨⟨F', h1, h2⟩, h3⟩ := hN
          obtain ⟨i1, i2, i3, _⟩ := HI.out.1
          have hd := HT0.out.2.2.1
          have hf := HT0.out.2.1
          refine ⟨i1.trans h3 fun b hb hF => by have := hf b hF; omega, owns_kept i2 h3 fun k hk hF => (hd k hk).2 hF, i3, F', h1, fun b hb => ?_, fun b hb => ⟨(hd b hb).1, fun hF => ?_⟩⟩
          · rcases h2 b hb with h | h
            · exact hf b h
            · have := i1.size; omega
          · rcases h2 b hF with h | h
            · exact (hd b hb).2 h
            · have := owns_lt i2 hb; omega
        rcases may_cases hm with m | ⟨m, m1⟩ | ⟨m, m1, m2⟩ | ⟨m, m1, m2, m3⟩ | ⟨m, m1, m2, m3, m4⟩ | ⟨m, m1, m2, m3, m4, m5⟩
        all_goals
          clear hm
          go_wp2_with fail
          rw [← HW.out]
          refine HP.out.mono ?_
          rintro r w4 ⟨rfl, hN⟩
          have HN : Hid (LI w w4 t u4 last) := HE.out w4 hN
          clear hN HP HE l0 l1 l2
          go_wp2
          go_roundw
          case rel => exact ⟨j + 1, last, by omega, by go_num, HN.out⟩
          case measure => simp [intOf]; omega
      · have HP : Hid (Calls _ _ _ _ _) := putT_yes t last.reverse F0 x W3 HT0.out.1 hm
        simp only [mayB, inB, Bool.and_eq_true, decide_eq_true_eq] at hm
        obtain ⟨⟨⟨m1, m2⟩, m3, m4⟩, m5, m6⟩ := hm
        go_wp2_with fail
        rw [← HW.out]
        refine HP.out.mono ?_
        rintro r w4 ⟨rfl, hN⟩
        obtain ⟨i1, i2, i3, -⟩ := HI.out.1
        obtain ⟨t1, t2, t3, t4⟩ := HT0.out
        have hB4 : Blk w4 wz.heap.size x.vs 38 := HI.out.2.1.kept hN.2 t4
        have hO4 : w4.ownsRow 0 38 3 u4 last.length (flatL last) := owns_kept i2 hN.2 fun k hk hF => (t3 k hk).2 hF
        have hK4 : Keeps (fun _ => False) w w4 := i1.trans hN.2 fun b hb hF => by have := t2 b hF; omega
        obtain ⟨a4, cap4, rfl, hc41, hc42, ha4, hs4⟩ := row_val hO4
        rw [putT_reverse x i3] at hN
        obtain ⟨n, hn⟩ : ∃ n, n = last.length := ⟨_, rfl⟩
        have H4 : Hid (NowT W3 w4 t (nextL x last).reverse F0 ∧ Blk w4 wz.heap.size x.vs 38 ∧ Keeps (fun _ => False) w w4 ∧ SegL w4 a4 last ∧ last.length ≤ 4 ∧ n = last.length ∧ W3.heap.size ≤ w4.heap.size) := ⟨hN, hB4, hK4, hs4, i3, hn, hN.2.size⟩
        have d0 := hB4.cell (i := 0) rfl
        have d1 := hB4.cell (i := 1) rfl
        have d2 := hB4.cell (i := 2) rfl
        rw [← hn] at hc41 ⊢
        have hn4 : (n : Int) ≤ 4 := by omega
        have hc43 : (n : Int) ≤ cap4 := by omega
        clear hN hB4 hK4 hs4 i1 i2 i3 t1 t2 t3 t4 hO4 ha4 HP l0 l1 l2 hn hc41 HW
        go_wp2
        clear d0 d1 d2
        go_loopw [9, 10] (fun v i wx => ∃ k : Nat, k ≤ n ∧ i = .int .i64 k ∧ (x :: wo x.p (last.take k)).length ≤ 4 ∧ wx.ownsRow 0 38 3 v (x :: wo x.p (last.take k)).length (flatL (x :: wo x.p (last.take k))) ∧ Keeps (fun _ => False) w4 wx ∧ ∃ gv, v.ownBlock = some gv ∧ w4.heap.size ≤ gv) (fun _ i _ => n - (intOf i).toNat)
        case atStart =>
          refine ⟨0, by omega, rfl, by simp [wo], ?_, (Keeps.refl _ w4).alloc _, w4.heap.size, rfl, Nat.le_refl _⟩
          have := World.ownsRow_lit (base := 0) (e := 38) (size := 3) w4 #[.int .i64 x.p, .int .i64 x.f, .int .i64 x.r] 1 (Nat.zero_le _) (by unfold maxLen; omega) rfl
          simpa [wo, flatL] using this
        case round =>
          obtain ⟨k, hk, rfl, h4, hO, hKx, gv, hgv, hge⟩ := hrel
          obtain ⟨N, hN⟩ : ∃ N, N = (x :: wo x.p (last.take k)).length := ⟨_, rfl⟩
          rw [← hN] at hO h4
          obtain ⟨cv, hv⟩ : ∃ cv, u9 = .slice (some ⟨gv, 0, none⟩) N cv := by
            rcases hO.2 with ⟨rfl, _⟩ | ⟨g', cap, cur, rfl, _⟩
            · simp [Value.ownBlock] at hgv
            · simp [Value.ownBlock] at hgv
              subst hgv
              exact ⟨cap, rfl⟩
          by_cases hgo : k < n ∧ N < 4
          · obtain ⟨hk1, hk2⟩ := hgo
            obtain ⟨y, hy⟩ : ∃ y, last[k]? = some y := ⟨_, List.getElem?_eq_getElem (by have := H4.out.2.2.2.2.2.1; omega)⟩
            obtain ⟨g4, o4, rfl, hg4⟩ : ∃ g o, a4 = some ⟨g, o, none⟩ ∧ LeafAt w4 g (o + k * 3) y := by
              rcases H4.out.2.2.2.1 with h | ⟨g, o, ha, h⟩
              · rw [h] at hy; simp at hy
              · exact ⟨g, o, ha, h k y hy⟩
            obtain ⟨y0, y1, y2⟩ := hg4.kept hKx fun h => h
            have hB4 := H4.out.2.1.kept hKx fun h => h
            have d0 := hB4.cell (i := 0) rfl
            have hN2 : (N : Int) < 4 := by omega
            have hk3 : (k : Int) < n := by omega
            subst hv
            have hw := wo_take_succ x.p last k y hy
            by_cases hyp : y.p = x.p
            · rw [if_pos hyp] at hw
              have HR : Hid (∃ k' : Nat, k' ≤ n ∧ k' = k + 1 ∧ (x :: wo x.p (last.take k')).length ≤ 4 ∧ (∀ q, (wr.drewN q).ownsRow 0 38 3 (.slice (some ⟨gv, 0, none⟩) N cv) (x :: wo x.p (last.take k')).length (flatL (x :: wo x.p (last.take k')))) ∧ (∀ q, Keeps (fun _ => False) w4 (wr.drewN q)) ∧ w4.heap.size ≤ gv) :=
                ⟨k + 1, by omega, rfl, by rw [hw, ← hN]; exact h4, fun q => by rw [hw, ← hN]; exact hO, fun q => hKx.drewN q, hge⟩
              rw [hyp] at y0
              clear hO hKx hgv hge hB4 hw hy hN h4 hk hg4 hyp
              go_wp2_with fail
              go_quiet (fail)
              go_wp2
              go_roundw
              case rel =>
                obtain ⟨k', r1, rfl, r3, r4, r5, r6⟩ := HR.out
                exact ⟨k + 1, r1, by go_num, r3, r4 _, r5 _, gv, rfl, r6⟩
              case measure => simp [intOf]; omega
            · rw [if_neg hyp] at hw
              have hyp' : (y.p == x.p) = false := by simpa using hyp
              have HQ : Hid (wr.ownsRow 0 38 3 (.slice (some ⟨gv, 0, none⟩) N cv) N (flatL (x :: wo x.p (last.take k))) ∧ Keeps (fun _ => False) w4 wr ∧ w4.heap.size ≤ gv ∧ N = (x :: wo x.p (last.take k)).length ∧ wo x.p (last.take (k + 1)) = wo x.p (last.take k) ++ [y] ∧ N < 4 ∧ k < n) := ⟨hO, hKx, hge, hN, hw, hk2, hk1⟩
              have hw5 : g4 < wr.heap.size := World.block_lt_of_cell? wr _ y0
              clear hO hKx hgv hge hB4 hw hy hN h4 hk hg4 hyp
              go_wp2_with fail
              go_quiet (fail)
              obtain ⟨q1, q2, q3, q4, q5, q6, q7⟩ := HQ.out
              obtain ⟨v', W', happ, hown', hgr⟩ := append_leaf y (.slice (some ⟨gv, 0, none⟩) N cv) N _ (show (wr.drewN nq).ownsRow 0 38 3 (.slice (some ⟨gv, 0, none⟩) N cv) N (flatL (x :: wo x.p (last.take k))) from q1) (by omega)
              have HAP : Hid (∀ ty, _) := happ
              have HR : Hid ((x :: wo x.p (last.take (k + 1))).length ≤ 4 ∧ W'.ownsRow 0 38 3 v' (x :: wo x.p (last.take (k + 1))).length (flatL (x :: wo x.p (last.take (k + 1)))) ∧ Keeps (fun _ => False) w4 W' ∧ ∃ gv, v'.ownBlock = some gv ∧ w4.heap.size ≤ gv) := by
                have e1 : (x :: wo x.p (last.take (k + 1))).length = N + 1 := by rw [q5, q4]; simp
                have e2 : flatL (x :: wo x.p (last.take (k + 1))) = flatL (x :: wo x.p (last.take k)) ++ y.vs := by
                  rw [q5, ← flatL_one y, ← flatL_append, List.cons_append]
                refine ⟨by omega, by rw [e1, e2]; exact hown', (q2.drewN nq).trans hgr.keeps fun b hb he => ?_, ?_⟩
                · simp [Value.ownBlock] at he; omega
                · rcases hgr.fresh with e | ⟨z, e, hz⟩
                  · exact ⟨gv, by rw [e]; rfl, q3⟩
                  · exact ⟨z, e, by have := q2.size; simp at hz; omega⟩
              clear happ hown' hgr q1 q2 q3 q4 q5 q6 q7 HQ
              go_wp2_with (at_builtin; go_must (refine wpList_append_run rfl (.tmp 90) (.tmp 95) 26 26 rfl _ _ _ W' rfl rfl HAP.out ?_; refine Hid.out ?_))
              unfold Hid
              clear y0 y1 y2 d0 HAP hw5
              go_wp2
              go_roundw
              case rel => exact ⟨k + 1, by omega, by go_num, HR.out⟩
              case measure => simp [intOf]; omega
          · have hst := nextL_stop x last k (by rw [← hN]; exact h4) (by have := H4.out.2.2.2.2.2.1; rw [← hN]; omega)
            have HQ : Hid (LI w wr t (.slice (some ⟨gv, 0, none⟩) N cv) (nextL x last)) := by
              obtain ⟨⟨⟨F', p1, p2⟩, p3⟩, -, p4, -, p5, -, p6⟩ := H4.out
              have hf := HT0.out.2.1
              refine ⟨p4.trans hKx fun _ _ h => h, by rw [hst, ← hv, ← hN]; exact hO, nextL_le _ _, F', p1.kept hKx fun _ _ h => h, fun b hb => ?_, fun b hb => ?_⟩
              · rcases p2 b hb with h | h
                · exact hf b h
                · have := HI.out.1.keeps.size; omega
              · simp [Value.ownBlock] at hb
                subst hb
                have := p4.size
                exact ⟨by omega, fun hF => by have := p1.lt _ hF; omega⟩
            subst hv
            clear hO hKx hgv hge hst hN h4
            by_cases hk1 : k < n
            · have hN2 : ¬ (N : Int) < 4 := by omega
              have hk3 : (k : Int) < n := by omega
              clear hgo
              go_wp2
              go_roundw
              case rel => exact ⟨j + 1, nextL x last, by omega, by go_num, HQ.out⟩
              case measure => simp [intOf]; omega
            · obtain rfl : k = n := by omega
              clear hgo
              go_wp2
              go_roundw
              case rel => exact ⟨j + 1, nextL x last, by omega, by go_num, HQ.out⟩
              case measure => simp [intOf]; omega
    · obtain rfl : j = L := by omega
      obtain ⟨i1, i2, i3, F1, i4, i5, i6⟩ := hI
      have HL : Hid (Calls _ _ _ _ _) := leaves_any t last.reverse F1 wz i4
      rw [List.length_reverse] at HL
      obtain ⟨n, hn⟩ : ∃ n, n = last.length := ⟨_, rfl⟩
      have hpg : (last.map Lf.p).Nodup := by
        have := i4.pages
        rw [List.map_reverse] at this
        exact (List.reverse_perm _).nodup_iff.1 this
      obtain ⟨a4, cap4, rfl, hc41, hc42, ha4, hs4⟩ := row_val i2
      rw [← hn] at HL hc41 ⊢
      have H4 : Hid (LI w wz t (.slice a4 last.length cap4) last ∧ n = last.length ∧ (last.map Lf.p).Nodup ∧ (∀ b, (Value.slice a4 last.length cap4).ownBlock = some b → w.heap.size ≤ b ∧ ¬ F1 b) ∧ Tl wz t last.reverse F1 ∧ (∀ b, F1 b → w.heap.size ≤ b) ∧ SegL wz a4 last ∧ ∀ x, a4 = some x → (Value.slice a4 last.length cap4).ownBlock = some x.block) := ⟨⟨i1, i2, i3, F1, i4, i5, i6⟩, hn, hpg, i6, i4, i5, hs4, ha4⟩
      have hn4 : (n : Int) ≤ 4 := by omega
      have hc43 : (n : Int) ≤ cap4 := by omega
      clear i1 i2 i3 i4 i5 i6 hpg hs4 ha4 hn hc41
      go_wp2_with fail
      refine HL.out.mono ?_
      rintro r w5 ⟨vh, rfl, hOh, ⟨gh, hgh, hgh2⟩, hK5⟩
      rw [show n = last.reverse.length by rw [List.length_reverse]; exact H4.out.2.1] at hOh
      obtain ⟨ah, caph, rfl, hch1, hch2, hah, hsh⟩ := row_val hOh
      rw [List.length_reverse, ← H4.out.2.1] at hch1
      rw [show last.reverse.length = n by rw [List.length_reverse]; exact H4.out.2.1.symm]
      have H5 : Hid (Keeps (fun _ => False) wz w5 ∧ SegL w5 ah last.reverse ∧ SegL w5 a4 last) := ⟨hK5, hsh, H4.out.2.2.2.2.2.2.1.kept hK5 fun _ _ h => h⟩
      have hch3 : (n : Int) ≤ caph := by omega
      clear HL hOh hgh hgh2 hK5 hah hsh hch1
      go_wp2
      go_loopw [12] (fun i wy => ∃ k : Nat, k ≤ n ∧ i = .int .i64 k ∧ Keeps (fun _ => False) w5 wy) (fun i _ => n - (intOf i).toNat)
      case atStart => exact ⟨0, by omega, rfl, Keeps.refl _ _⟩
      case round =>
        obtain ⟨k, hk, rfl, hKy⟩ := hrel
        by_cases hk1 : k < n
        · obtain ⟨y, hy⟩ : ∃ y, last[k]? = some y := ⟨_, List.getElem?_eq_getElem (by have := H4.out.2.1; omega)⟩
          have hy2 : last.reverse[n - 1 - k]? = some y := by
            rw [H4.out.2.1] at hk1 ⊢
            rw [List.getElem?_reverse (by omega), ← hy]
            congr 1
            omega
          obtain ⟨g4, o4, rfl, hg4⟩ : ∃ g o, a4 = some ⟨g, o, none⟩ ∧ LeafAt w5 g (o + k * 3) y := by
            rcases H5.out.2.2 with h | ⟨g, o, ha, h⟩
            · rw [h] at hy; simp at hy
            · exact ⟨g, o, ha, h k y hy⟩
          obtain ⟨gh, oh, rfl, hgh⟩ : ∃ g o, ah = some ⟨g, o, none⟩ ∧ LeafAt w5 g (o + (n - 1 - k) * 3) y := by
            rcases H5.out.2.1 with h | ⟨g, o, ha, h⟩
            · rw [h] at hy2; simp at hy2
            · exact ⟨g, o, ha, h _ y hy2⟩
          obtain ⟨y0, y1, y2⟩ := hg4.kept hKy fun h => h
          obtain ⟨z0, z1, z2⟩ := hgh.kept hKy fun h => h
          have HK : Hid (Keeps (fun _ => False) w5 wr) := hKy
          have hk3 : (k : Int) < n := by omega
          clear hy hy2 hg4 hgh hKy
          obtain ⟨m, hm⟩ : ∃ m, m = n - 1 - k := ⟨_, rfl⟩
          rw [← hm] at z0 z1 z2
          have hm2 : IntKind.i64.wrap (IntKind.i64.wrap ((n : Int) - 1) - (k : Int)) = (m : Int) := by
            have e1 : IntKind.i64.wrap ((n : Int) - 1) = (n : Int) - 1 := by rw [IntKind.wrap_i64]; omega
            rw [e1, IntKind.wrap_i64]; omega
          have hm3 : (m : Int) < n := by omega
          clear hm
          go_wp2_with fail
          go_quiet (fail)
          go_wp2
          go_roundw
          case rel => exact ⟨k + 1, by omega, by go_num, HK.out.drewN nq⟩
          case measure => simp [intOf]; omega
        · obtain rfl : k = n := by omega
          have HP : Hid (PI w wr t a4 last) := by
            obtain ⟨⟨p1, p2, p3, p4⟩, p5, p6, p7, p8, p9, p10, p11⟩ := H4.out
            have hKz : Keeps (fun _ => False) wz wr := H5.out.1.trans hKy fun _ _ h => h
            exact ⟨p1.trans hKz fun _ _ h => h, p10.kept hKz fun _ _ h => h, last.reverse, F1, p8.kept hKz fun _ _ h => h, fun x => List.mem_reverse, p9, fun _ x hx hF => (p7 x.block (p11 x hx)).2 hF⟩
          have HN : Hid (k = last.length ∧ (last.map Lf.p).Nodup) := ⟨H4.out.2.1, H4.out.2.2.1⟩
          clear hKy H4 H5 hk hk1
          go_wp2
          go_loopw [13] (fun i wy => ∃ q : Int, -1 ≤ q ∧ q ≤ 257 ∧ i = .int .i64 q ∧ PI w wy t a4 last) (fun i _ => (257 - intOf i).toNat)
          case atStart => exact ⟨-1, by omega, by omega, rfl, HP.out⟩
          case round =>
            obtain ⟨wb, hz⟩ : ∃ wb, wb = wr := ⟨_, rfl⟩
            subst hz
            obtain ⟨q, hq1, hq2, rfl, hP⟩ := hrel
            by_cases hq : q ≤ 256
            · obtain ⟨p1, p2, lsC, F2, p3, p4, p5, p6⟩ := hP
              have hfs : findT q lsC = findT q last := findT_same p3.pages HN.out.2 p4
              have HF : Hid (Calls _ _ _ _ _) := findT_any t lsC F2 q wb p3 ⟨by omega, by omega⟩
              rw [hfs] at HF
              obtain ⟨x0, hx0⟩ : ∃ x0, x0 = (findT q last).getD Lf.none := ⟨_, rfl⟩
              obtain ⟨ok, hok⟩ : ∃ ok, ok = (findT q last).isSome := ⟨_, rfl⟩
              rw [← hx0, ← hok] at HF
              have HQ : Hid (Keeps (fun _ => False) w wb ∧ SegL wb a4 last ∧ (∀ x, x ∈ touchT q lsC ↔ x ∈ last) ∧ (∀ b, F2 b → w.heap.size ≤ b) ∧ (last ≠ [] → ∀ x, a4 = some x → ¬ F2 x.block) ∧ x0 = (findT q last).getD Lf.none ∧ ok = (findT q last).isSome) := ⟨p1, p2, fun x => (touchT_mem p3.pages x).trans (p4 x), p5, p6, hx0, hok⟩
              clear p1 p2 p3 p4 p5 p6 hfs hx0 hok HP
              go_wp2_with fail
              refine HF.out.mono ?_
              rintro r w6 ⟨rfl, hN6⟩
              obtain ⟨X7, hX7⟩ : ∃ X7, X7 = (w6.alloc (.cells #[.int .i64 x0.p, .int .i64 x0.f, .int .i64 x0.r] 38)).alloc (.cells #[.int .i64 0, .int .i64 0, .int .i64 0] 38) := ⟨_, rfl⟩
              have hK7 : Keeps (fun _ => False) w6 X7 := by rw [hX7]; exact ((Keeps.refl _ w6).alloc _).alloc _
              have hBx : Blk X7 w6.heap.size x0.vs 38 := by rw [hX7]; exact (Blk.new w6 _ 38).alloc _
              have hBw : Blk X7 (w6.heap.size + 1) Lf.none.vs 38 := by
                rw [hX7, show w6.heap.size + 1 = (w6.alloc (.cells #[.int .i64 x0.p, .int .i64 x0.f, .int .i64 x0.r] 38)).heap.size by simp]
                exact Blk.new _ _ 38
              have hz7 : X7.heap.size = w6.heap.size + 2 := by rw [hX7]; simp
              have H7 : Hid (NowT wb w6 t (touchT q lsC) F2 ∧ Keeps (fun _ => False) w6 X7 ∧ Blk X7 w6.heap.size x0.vs 38 ∧ Blk X7 (w6.heap.size + 1) Lf.none.vs 38 ∧ SegL X7 a4 last ∧ X7.heap.size = w6.heap.size + 2 ∧ ∀ g o, a4 = some ⟨g, o, none⟩ → last ≠ [] → g < w6.heap.size) := by
                have hs6 : SegL w6 a4 last := HQ.out.2.1.kept2 hN6.2 fun hne x hx hF => HQ.out.2.2.2.2.1 hne x hx hF
                refine ⟨hN6, hK7, hBx, hBw, hs6.kept hK7 fun _ _ h => h, hz7, fun g o ha hne => ?_⟩
                rcases hs6 with h | ⟨g', o', ha', h⟩
                · exact absurd h hne
                · rw [ha] at ha'
                  simp at ha'
                  cases hl : last with
                  | nil => exact absurd hl hne
                  | cons y r => have := (h 0 y (by rw [hl]; rfl)).lt; omega
              have HX7 : Hid (X7 = _) := hX7
              clear hN6 hK7 hBx hBw hz7 hX7 HF
              go_wp2
              rw [← HX7.out]
              obtain ⟨xb, hxb⟩ : ∃ xb, xb = w6.heap.size := ⟨_, rfl⟩
              rw [← hxb] at H7 ⊢
              obtain ⟨wt, hwt⟩ : ∃ wt, wt = xb + 1 := ⟨_, rfl⟩
              rw [← hwt] at H7 ⊢
              have hwt2 : xb ≠ wt := by omega
              have HNE : Hid (xb = w6.heap.size ∧ wt = xb + 1) := ⟨hxb, hwt⟩
              clear hxb hwt HX7
              go_loopw [17, 18] (fun b i wx => ∃ m : Nat, m ≤ k ∧ i = .int .i64 m ∧ b = .bool (findT q (last.take m)).isSome ∧ Blk wx wt ((findT q (last.take m)).getD Lf.none).vs 38 ∧ Keeps (fun b => b = wt) X7 wx) (fun _ i _ => k - (intOf i).toNat)
              case atStart => exact ⟨0, by omega, rfl, by simp [findT], by simpa [findT] using H7.out.2.2.2.1, Keeps.refl _ _⟩
              case round =>
                obtain ⟨m, hm, rfl, rfl, hBm, hKm⟩ := hrel
                by_cases hmk : m < k
                · obtain ⟨y, hy⟩ : ∃ y, last[m]? = some y := ⟨_, List.getElem?_eq_getElem (by have := HN.out.1; omega)⟩
                  have hft := findT_take q last HN.out.2 m y hy
                  obtain ⟨g4, o4, rfl, hg4⟩ : ∃ g o, a4 = some ⟨g, o, none⟩ ∧ LeafAt X7 g (o + m * 3) y := by
                    rcases H7.out.2.2.2.2.1 with h | ⟨g, o, ha, h⟩
                    · rw [h] at hy; simp at hy
                    · exact ⟨g, o, ha, h m y hy⟩
                  have hne4 : g4 ≠ wt := by
                    have h1 := H7.out.2.2.2.2.2.2 g4 o4 rfl (fun h => by rw [h] at hy; simp at hy)
                    have := HNE.out; omega
                  obtain ⟨y0, y1, y2⟩ := hg4.kept hKm hne4
                  have hmk2 : (m : Int) < k := by omega
                  by_cases hyp : y.p = q
                  · rw [if_pos hyp] at hft
                    have f0 := hBm.frozen 0
                    have f1 := hBm.frozen 1
                    have f2 := hBm.frozen 2
                    have c0 := hBm.cell (i := 0) rfl
                    have c1 := hBm.cell (i := 1) rfl
                    have c2 := hBm.cell (i := 2) rfl
                    obtain ⟨b9, hb9⟩ : ∃ b9, b9 = (findT q (last.take m)).isSome := ⟨_, rfl⟩
                    have HM : Hid (Blk wr wt ((findT q (last.take m)).getD Lf.none).vs 38 ∧ Keeps (fun b => b = wt) X7 wr ∧ findT q (last.take (m + 1)) = some y ∧ m < k) := ⟨hBm, hKm, hft, hmk⟩
                    rw [hyp] at y0
                    have HY : Hid (y.p = q) := hyp
                    rw [← hb9]
                    clear hBm hKm hft hy hg4 hyp hb9
                    go_wp2
                    go_roundw
                    case rel =>
                      obtain ⟨b1, b2, b3, b4⟩ := HM.out
                      have hy := HY.out
                      subst hy
                      refine ⟨m + 1, by omega, by go_num, by rw [b3]; rfl, ?_, b2.setLeaf wt y fun _ => rfl⟩
                      rw [b3]
                      exact b1.setLeaf y
                    case measure => have := HM.out.2.2.2; simp [intOf]; omega
                  · rw [if_neg hyp] at hft
                    have hyp' : (y.p == q) = false := by simpa using hyp
                    obtain ⟨b9, hb9⟩ : ∃ b9, b9 = (findT q (last.take m)).isSome := ⟨_, rfl⟩
                    have HM : Hid (Blk wr wt ((findT q (last.take m)).getD Lf.none).vs 38 ∧ Keeps (fun b => b = wt) X7 wr ∧ findT q (last.take (m + 1)) = findT q (last.take m) ∧ m < k ∧ b9 = (findT q (last.take m)).isSome) := ⟨hBm, hKm, hft, hmk, hb9⟩
                    rw [← hb9]
                    clear hBm hKm hft hy hg4 hyp hb9
                    go_wp2
                    go_roundw
                    case rel =>
                      obtain ⟨b1, b2, b3, b4, b5⟩ := HM.out
                      exact ⟨m + 1, by omega, by go_num, by rw [b3, b5], by rw [b3]; exact b1, b2⟩
                    case measure => have := HM.out.2.2.2.1; simp [intOf]; omega
                · obtain rfl : m = k := by omega
                  have hBx := H7.out.2.2.1.kept hKm hwt2
                  rw [show last.take m = last from List.take_of_length_le (by have := HN.out.1; omega)] at hBm ⊢
                  obtain ⟨-, -, -, -, -, e1, e2⟩ := HQ.out
                  rw [← e1] at hBm
                  rw [← e2]
                  have x0c := hBx.cell (i := 0) rfl
                  have x1c := hBx.cell (i := 1) rfl
                  have x2c := hBx.cell (i := 2) rfl
                  have w0c := hBm.cell (i := 0) rfl
                  have w1c := hBm.cell (i := 1) rfl
                  have w2c := hBm.cell (i := 2) rfl
                  have HM : Hid (PI w wr t a4 last) := by
                    obtain ⟨q1, q2, q3, q4, q5, -, -⟩ := HQ.out
                    obtain ⟨⟨⟨F', n1, n2⟩, n3⟩, h2, h3, h4, h5, h6, h7⟩ := H7.out
                    have hne := HNE.out
                    have hz1 := n3.size
                    have hz2 := q1.size
                    have hK8 : Keeps (fun b => b = wt) w6 wr := (h2.mono fun _ _ h => h.elim).trans hKm fun _ _ h => h
                    refine ⟨(q1.trans n3 fun b hb hF => by have := q4 b hF; omega).trans hK8 fun b hb he => by omega, h5.kept2 hKm fun hl x hx he => ?_, touchT q lsC, F', n1.kept hK8 fun b hb he => ?_, q3, fun b hb => ?_, fun hl x hx hF => ?_⟩
                    · rcases h5 with h | ⟨g, o, ha, h⟩
                      · exact hl h
                      · have := h7 g o ha hl
                        rw [hx] at ha; simp at ha; subst ha
                        simp at he; omega
                    · have := n1.lt b hb; omega
                    · rcases n2 b hb with h | h
                      · exact q4 b h
                      · omega
                    · rcases n2 _ hF with h | h
                      · exact q5 hl x hx h
                      · rcases q2 with h' | ⟨g, o, ha, h'⟩
                        · exact hl h'
                        · rw [hx] at ha; simp at ha; subst ha
                          cases hc : last with
                          | nil => exact hl hc
                          | cons y r => have := (h' 0 y (by rw [hc]; rfl)).lt; simp at h; omega
                  clear e1 e2 hBx hBm hKm
                  go_wp2
                  go_roundw
                  case rel => exact ⟨q + 1, by omega, by omega, by go_num, HM.out⟩
                  case measure => simp [intOf]; omega
            · have HK : Hid (Keeps (fun _ => False) w wb) := hP.keeps
              clear hP HP
              go_wp2
              go_ret
              exact ⟨rfl, HK.out⟩

end Go.Proofs.Ytakidbjkpbgmmaa
