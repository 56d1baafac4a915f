import Derived.Test.YtlddioedednojaaC
namespace Go.Proofs.Ytlddioedednojaa
open Go.RowKit Go.Shelf
set_option linter.unusedVariables false
set_option linter.unusedSimpArgs false
set_option maxRecDepth 6000

/-- From j on, e is the first place (below l) at which they differ, or l. -/
structure Fst (A B : List Sn) (l j e : Nat) : Prop where
  le : j ≤ e
  top : e ≤ l
  eq : ∀ i, j ≤ i → i < e → A[i]? = B[i]?
  ne : e < l → A[e]? ≠ B[e]?
theorem Fst.cp {A B : List Sn} {l e : Nat} (h : Fst A B l 0 e) (hl : l = min A.length B.length) : cp A B = e :=
  cp_eq (fun j hj => h.eq j (Nat.zero_le _) hj) (by have := h.top; omega) (by have := h.top; omega) fun h1 h2 => h.ne (by omega)

/-- Where the walk stands. -/
structure At (A B : List Sn) (l n m G V : Nat) (w : World) (j : Nat) (wr : World) : Prop where
  fst : ∃ e, Fst A B l j e ∧ Blk wr V (vds (decide (e = l)) e n m) 24
  blk : Blk wr G (vds false 0 0 0) 24
  keeps : Keeps (fun _ => False) w wr

set_option maxHeartbeats 1000000 in
theorem rhold_any (a b : Option Addr) (A B : List Sn) (ca cb : Nat) (w : World) (hA : ∀ s ∈ A, s.Fine) (hB : ∀ s ∈ B, s.Fine) (hla : A.length ≤ ca ∧ ca ≤ maxLen) (hlb : B.length ≤ cb ∧ cb ≤ maxLen) (ha : SegS w a A) (hb : SegS w b B) :
    Calls Try.prog 4 #[.slice a A.length ca, .slice b B.length cb] w fun r w' => r = .returned (vd (decide (cp A B = min A.length B.length)) (cp A B) A.length B.length) ∧ Keeps (fun _ => False) w w' := by
  obtain ⟨n, hn⟩ : ∃ n, n = A.length := ⟨_, rfl⟩
  obtain ⟨m, hm⟩ : ∃ m, m = B.length := ⟨_, rfl⟩
  obtain ⟨l, hl⟩ : ∃ l, l = min n m := ⟨_, rfl⟩
  have HS : Hid (SegS w a A ∧ SegS w b B ∧ n = A.length ∧ m = B.length ∧ (∀ s ∈ A, s.Fine) ∧ (∀ s ∈ B, s.Fine) ∧ l = min n m) := ⟨ha, hb, hn, hm, hA, hB, hl⟩
  have hc1 : (n : Int) ≤ ca := by omega
  have hc2 : (ca : Int) ≤ 9223372036854775807 := by unfold maxLen at hla; omega
  have hc3 : (m : Int) ≤ cb := by omega
  have hc4 : (cb : Int) ≤ 9223372036854775807 := by unfold maxLen at hlb; omega
  have hln : (l : Int) ≤ n := by omega
  have hlm : (l : Int) ≤ m := by omega
  have hl9 : (l : Int) ≤ 9223372036854775807 := by omega
  have HM : Hid (∀ K, K = cp A B → Calls Try.prog 4 #[.slice a n ca, .slice b m cb] w fun r w' => r = .returned (vd (decide (K = l)) K n m) ∧ Keeps (fun _ => False) w w') := by
    intro K hK0
    have HK : Hid (K = cp A B) := hK0
    obtain ⟨W, hW⟩ : ∃ W, W = w.alloc (.cells #[.bool false, .int .i64 0, .int .i64 0, .int .i64 0] 24) := ⟨_, rfl⟩
    obtain ⟨X, hX⟩ : ∃ X, X = W.alloc (.cells #[.bool true, .int .i64 l, .int .i64 n, .int .i64 m] 24) := ⟨_, rfl⟩
    obtain ⟨G, hG⟩ : ∃ G, G = w.heap.size := ⟨_, rfl⟩
    obtain ⟨V, hV⟩ : ∃ V, V = W.heap.size := ⟨_, rfl⟩
    have e1 : IntKind.i64.wrap ((l : Int) - 1) = (l : Int) - 1 := by rw [IntKind.wrap_i64]; omega
    have HQ : Hid (W = w.alloc (.cells #[.bool false, .int .i64 0, .int .i64 0, .int .i64 0] 24) ∧ X = W.alloc (.cells #[.bool true, .int .i64 l, .int .i64 n, .int .i64 m] 24) ∧ G = w.heap.size ∧ V = W.heap.size) := ⟨hW, hX, hG, hV⟩
    have HA0 : Hid (At A B l n m G V w l X ∧ w.heap.size ≤ G ∧ G < V) := by
      have h1 : Blk W G (vds false 0 0 0) 24 := by rw [hW, hG]; exact Blk.new w _ 24
      refine ⟨⟨⟨l, ⟨Nat.le_refl _, Nat.le_refl _, fun i h1 h2 => by omega, fun h => by omega⟩, ?_⟩, ?_, ?_⟩, by omega, by rw [hV, hG, hW]; simp⟩
      · rw [decide_eq_true rfl, hX, hV]; exact Blk.new W _ 24
      · rw [hX]; exact h1.alloc _
      · rw [hX, hW]; exact ((Keeps.refl _ w).alloc _).alloc _
    clear hK0 hla hlb ha hb hn hm hA hB hl
    clear hW hX hG hV
    rcases Nat.lt_or_ge m n with hmn | hmn
    · obtain rfl : l = m := by have := HS.out.2.2.2.2.2.2; omega
      have hmt : (l < n) = True := eq_true hmn
      clear hlm
      have hVe : Hid (w.heap.size + 1 = V) := show w.heap.size + 1 = V by have := HQ.out; rw [this.2.2.2, this.1]; simp
      have hGe : Hid (w.heap.size = G) := HQ.out.2.2.1.symm
      go_enter Try.func4, Try.ntmps4
      go_wp2
      rw [hVe.out, hGe.out, ← HQ.out.1, ← HQ.out.2.1]
      clear hVe hGe
      go_loopw [7] (fun i wr => ∃ (j : Nat) (z : Int), j ≤ l ∧ i = .int .i64 z ∧ z = (j : Int) - 1 ∧ At A B l n l G V w j wr) (fun i _ => (intOf i + 1).toNat)
      case atStart => exact ⟨l, _, Nat.le_refl _, rfl, rfl, HA0.out.1⟩
      case round =>
        obtain ⟨j, z, hj, rfl, hz, hA⟩ := hrel
        have HJ : Hid (At A B l n l G V w j wr) := hA
        clear hA
        obtain ⟨e, hF, hV⟩ := HJ.out.fst
        by_cases hlt : 0 < j
        · obtain ⟨k, rfl⟩ : ∃ k, z = ((k : Nat) : Int) := ⟨z.toNat, by omega⟩
          obtain rfl : j = k + 1 := by omega
          have HF : Hid (Fst A B l (k + 1) e ∧ Blk wr V (vds (decide (e = l)) e n l) 24) := ⟨hF, hV⟩
          clear hF hV hz
          obtain ⟨x, hx⟩ : ∃ x, A[k]? = some x := ⟨_, List.getElem?_eq_getElem (by have := HS.out.2.2.1; have := HS.out.2.2.2.2.2.2; omega)⟩
          obtain ⟨y, hy⟩ : ∃ y, B[k]? = some y := ⟨_, List.getElem?_eq_getElem (by have := HS.out.2.2.2.1; have := HS.out.2.2.2.2.2.2; omega)⟩
          obtain ⟨g, o, rfl, hx3⟩ := HS.out.1.at hx
          obtain ⟨h, q, rfl, hy3⟩ := HS.out.2.1.at hy
          have hxF : x.Fine := HS.out.2.2.2.2.1 x (List.mem_of_getElem? hx)
          have hyF : y.Fine := HS.out.2.2.2.2.2.1 y (List.mem_of_getElem? hy)
          have hltn : (k : Int) < n := by omega
          have hltm : (k : Int) < l := by omega
          have e2 : IntKind.i64.wrap ((k : Int) - 1) = (k : Int) - 1 := by rw [IntKind.wrap_i64]; omega
          have hrg : wr.rangeAt g (o + k * 26) x.vs ∧ wr.rangeAt h (q + k * 26) y.vs := ⟨range_kept hx3 HJ.out.keeps fun h => h, range_kept hy3 HJ.out.keeps fun h => h⟩
          by_cases hxy : x = y
          · have hq : ∀ w' : World, (binOp .neq 33 (.agg x.vs.toArray) (.agg y.vs.toArray)).run Try.prog w' = .ok (.bool false) w' := fun w' => by rw [neq_seen hxF hyF w', decide_eq_true hxy]; rfl
            have HE : Hid (At A B l n l G V w k wr.drew) := ⟨⟨e, ⟨by have := HF.out.1.le; omega, HF.out.1.top, fun i h1 h2 => by
                rcases Nat.eq_or_lt_of_le h1 with rfl | h3
                · rw [hx, hy, hxy]
                · exact HF.out.1.eq i h3 h2, HF.out.1.ne⟩, HF.out.2.drew⟩, HJ.out.blk.drew, HJ.out.keeps.drew⟩
            clear hx hy hx3 hy3 HF
            go_wp2_with fail
            refine wp_region_held_drew (S := (fun w' => w'.rangeAt g (o + k * 26) x.vs ∧ w'.rangeAt h (q + k * 26) y.vs)) mixd hrg (fun hHeld => ?_)
            simp only [List.size_toArray, List.length_cons, List.length_nil, Nat.reduceAdd, Array.replicate_succ, Array.replicate_zero, List.push_toArray, List.append_toArray, List.nil_append, List.cons_append]
            refine tk 0 (.slice (some ⟨g, o, none⟩) n ca) hHeld ?_
            simp only [Act.put, List.setIfInBounds_toArray, List.set_cons_zero, List.set_cons_succ]
            refine tk 1 (.int .i64 (k : Int)) hHeld ?_
            simp only [Act.put, List.setIfInBounds_toArray, List.set_cons_zero, List.set_cons_succ]
            refine tk 2 (.pointer (some ⟨g, o + k * 26, none⟩)) hHeld ?_
            simp only [Act.put, List.setIfInBounds_toArray, List.set_cons_zero, List.set_cons_succ]
            refine tl 3 (x := .tmp 30) (b := g) (o := (o + k * 26)) (fun w' h => h.1) Try.underlying33 rfl (size33 hxF) hHeld ?_
            simp only [Act.put, List.setIfInBounds_toArray, List.set_cons_zero, List.set_cons_succ]
            refine tk 4 (.slice (some ⟨h, q, none⟩) l cb) hHeld ?_
            simp only [Act.put, List.setIfInBounds_toArray, List.set_cons_zero, List.set_cons_succ]
            refine tk 5 (.int .i64 (k : Int)) hHeld ?_
            simp only [Act.put, List.setIfInBounds_toArray, List.set_cons_zero, List.set_cons_succ]
            refine tk 6 (.pointer (some ⟨h, q + k * 26, none⟩)) hHeld ?_
            simp only [Act.put, List.setIfInBounds_toArray, List.set_cons_zero, List.set_cons_succ]
            refine tl 7 (x := .tmp 34) (b := h) (o := (q + k * 26)) (fun w' h => h.2) Try.underlying33 rfl (size33 hyF) hHeld ?_
            simp only [Act.put, List.setIfInBounds_toArray, List.set_cons_zero, List.set_cons_succ]
            refine tcmp 8 (op := .neq) (ty := 33) (t2 := 33) (x := .tmp 31) (y := .tmp 35) hq guard33 hHeld ?_
            simp only [Act.put, List.setIfInBounds_toArray, List.set_cons_zero, List.set_cons_succ]
            refine wpAnyH_done (by kernel_rfl) ?_ _
            clear hHeld
            go_wp2
            go_roundw
            case rel => exact ⟨k, _, by omega, rfl, rfl, HE.out⟩
            case measure => simp [intOf]
          · have hq : ∀ w' : World, (binOp .neq 33 (.agg x.vs.toArray) (.agg y.vs.toArray)).run Try.prog w' = .ok (.bool true) w' := fun w' => by rw [neq_seen hxF hyF w', decide_eq_false hxy]; rfl
            have hB1 := HF.out.2.drew
            have HE : Hid (At A B l n l G V w k (((wr.drew.setCell ⟨V, 0, none⟩ (.bool false))).setCell ⟨V, 1, none⟩ (.int .i64 k))) := by
              have hg : V < w.heap.size → False := fun h => by have := HA0.out.2; omega
              refine ⟨⟨k, ⟨Nat.le_refl _, by omega, fun i h1 h2 => by omega, fun _ e => hxy (by rw [hx, hy] at e; exact Option.some.inj e)⟩, ?_⟩, (HJ.out.blk.drew.setCell_ne (by have := HA0.out.2; show G ≠ V; omega) _).setCell_ne (by have := HA0.out.2; show G ≠ V; omega) _, (HJ.out.keeps.drew.setCell ⟨V, 0, none⟩ _ hg).setCell ⟨V, 1, none⟩ _ hg⟩
              rw [decide_eq_false (by omega)]
              exact (hB1.setCell 0 _).setCell 1 _
            have c0 := HF.out.2.cell (i := 0) rfl
            have c1 := HF.out.2.cell (i := 1) rfl
            have f0 := HF.out.2.frozen 0
            have f1 := HF.out.2.frozen 1
            clear hx hy hx3 hy3 HF hxy hB1
            go_wp2_with fail
            refine wp_region_held_drew (S := (fun w' => w'.rangeAt g (o + k * 26) x.vs ∧ w'.rangeAt h (q + k * 26) y.vs)) mixd hrg (fun hHeld => ?_)
            simp only [List.size_toArray, List.length_cons, List.length_nil, Nat.reduceAdd, Array.replicate_succ, Array.replicate_zero, List.push_toArray, List.append_toArray, List.nil_append, List.cons_append]
            refine tk 0 (.slice (some ⟨g, o, none⟩) n ca) hHeld ?_
            simp only [Act.put, List.setIfInBounds_toArray, List.set_cons_zero, List.set_cons_succ]
            refine tk 1 (.int .i64 (k : Int)) hHeld ?_
            simp only [Act.put, List.setIfInBounds_toArray, List.set_cons_zero, List.set_cons_succ]
            refine tk 2 (.pointer (some ⟨g, o + k * 26, none⟩)) hHeld ?_
            simp only [Act.put, List.setIfInBounds_toArray, List.set_cons_zero, List.set_cons_succ]
            refine tl 3 (x := .tmp 30) (b := g) (o := (o + k * 26)) (fun w' h => h.1) Try.underlying33 rfl (size33 hxF) hHeld ?_
            simp only [Act.put, List.setIfInBounds_toArray, List.set_cons_zero, List.set_cons_succ]
            refine tk 4 (.slice (some ⟨h, q, none⟩) l cb) hHeld ?_
            simp only [Act.put, List.setIfInBounds_toArray, List.set_cons_zero, List.set_cons_succ]
            refine tk 5 (.int .i64 (k : Int)) hHeld ?_
            simp only [Act.put, List.setIfInBounds_toArray, List.set_cons_zero, List.set_cons_succ]
            refine tk 6 (.pointer (some ⟨h, q + k * 26, none⟩)) hHeld ?_
            simp only [Act.put, List.setIfInBounds_toArray, List.set_cons_zero, List.set_cons_succ]
            refine tl 7 (x := .tmp 34) (b := h) (o := (q + k * 26)) (fun w' h => h.2) Try.underlying33 rfl (size33 hyF) hHeld ?_
            simp only [Act.put, List.setIfInBounds_toArray, List.set_cons_zero, List.set_cons_succ]
            refine tcmp 8 (op := .neq) (ty := 33) (t2 := 33) (x := .tmp 31) (y := .tmp 35) hq guard33 hHeld ?_
            simp only [Act.put, List.setIfInBounds_toArray, List.set_cons_zero, List.set_cons_succ]
            refine wpAnyH_done (by kernel_rfl) ?_ _
            clear hHeld
            go_wp2
            go_roundw
            case rel => exact ⟨k, _, by omega, rfl, rfl, HE.out⟩
            case measure => simp [intOf]
        · obtain rfl : j = 0 := by omega
          have HE : Hid (K = e ∧ Blk wr V (vds (decide (e = l)) e n l) 24) := ⟨by rw [HK.out]; exact hF.cp (by have := HS.out.2.2.1; have := HS.out.2.2.2.1; have := HS.out.2.2.2.2.2.2; omega), hV⟩
          obtain ⟨D, hD⟩ : ∃ D, D = decide (e = l) := ⟨_, rfl⟩
          obtain ⟨E, hE⟩ : ∃ E : Int, E = (e : Int) := ⟨_, rfl⟩
          have HD : Hid (D = decide (e = l) ∧ E = e) := ⟨hD, hE⟩
          have hB1 := hV
          rw [← hD, ← hE] at hB1
          have c0 := hB1.cell (i := 0) rfl
          have c1 := hB1.cell (i := 1) rfl
          have c2 := hB1.cell (i := 2) rfl
          have c3 := hB1.cell (i := 3) rfl
          have d0 := HJ.out.blk.cell (i := 0) rfl
          have d1 := HJ.out.blk.cell (i := 1) rfl
          have d2 := HJ.out.blk.cell (i := 2) rfl
          have d3 := HJ.out.blk.cell (i := 3) rfl
          have f0 := HJ.out.blk.frozen 0
          have f1 := HJ.out.blk.frozen 1
          have f2 := HJ.out.blk.frozen 2
          have f3 := HJ.out.blk.frozen 3
          have HR : Hid (Blk ((((wr.setCell ⟨G, 0, none⟩ (.bool D)).setCell ⟨G, 1, none⟩ (.int .i64 E)).setCell ⟨G, 2, none⟩ (.int .i64 n)).setCell ⟨G, 3, none⟩ (.int .i64 l)) G (vds D E n l) 24 ∧
              Keeps (fun _ => False) w ((((wr.setCell ⟨G, 0, none⟩ (.bool D)).setCell ⟨G, 1, none⟩ (.int .i64 E)).setCell ⟨G, 2, none⟩ (.int .i64 n)).setCell ⟨G, 3, none⟩ (.int .i64 l))) := by
            have hg : G < w.heap.size → False := fun h => by have := HA0.out.2; omega
            exact ⟨(((HJ.out.blk.setCell 0 _).setCell 1 _).setCell 2 _).setCell 3 _, (((HJ.out.keeps.setCell ⟨G, 0, none⟩ _ hg).setCell ⟨G, 1, none⟩ _ hg).setCell ⟨G, 2, none⟩ _ hg).setCell ⟨G, 3, none⟩ _ hg⟩
          have hneg : (0 : Int) ≤ z ↔ False := ⟨fun h => by omega, fun h => h.elim⟩
          clear hF hV hD hE hB1 hz hj hlt
          go_wp2
          exact bodyPost_ret (results_cell rfl _ _ _ _ rfl (load_vd HR.out.1)) rfl ⟨by rw [HD.out.1, HD.out.2, HE.out.1], HR.out.2⟩
    · obtain rfl : l = n := by have := HS.out.2.2.2.2.2.2; omega
      have hmt : (m < l) = False := eq_false (by omega)
      clear hln
      have hVe : Hid (w.heap.size + 1 = V) := show w.heap.size + 1 = V by have := HQ.out; rw [this.2.2.2, this.1]; simp
      have hGe : Hid (w.heap.size = G) := HQ.out.2.2.1.symm
      go_enter Try.func4, Try.ntmps4
      go_wp2
      rw [hVe.out, hGe.out, ← HQ.out.1, ← HQ.out.2.1]
      clear hVe hGe
      go_loopw [7] (fun i wr => ∃ (j : Nat) (z : Int), j ≤ l ∧ i = .int .i64 z ∧ z = (j : Int) - 1 ∧ At A B l l m G V w j wr) (fun i _ => (intOf i + 1).toNat)
      case atStart => exact ⟨l, _, Nat.le_refl _, rfl, rfl, HA0.out.1⟩
      case round =>
        obtain ⟨j, z, hj, rfl, hz, hA⟩ := hrel
        have HJ : Hid (At A B l l m G V w j wr) := hA
        clear hA
        obtain ⟨e, hF, hV⟩ := HJ.out.fst
        by_cases hlt : 0 < j
        · obtain ⟨k, rfl⟩ : ∃ k, z = ((k : Nat) : Int) := ⟨z.toNat, by omega⟩
          obtain rfl : j = k + 1 := by omega
          have HF : Hid (Fst A B l (k + 1) e ∧ Blk wr V (vds (decide (e = l)) e l m) 24) := ⟨hF, hV⟩
          clear hF hV hz
          obtain ⟨x, hx⟩ : ∃ x, A[k]? = some x := ⟨_, List.getElem?_eq_getElem (by have := HS.out.2.2.1; have := HS.out.2.2.2.2.2.2; omega)⟩
          obtain ⟨y, hy⟩ : ∃ y, B[k]? = some y := ⟨_, List.getElem?_eq_getElem (by have := HS.out.2.2.2.1; have := HS.out.2.2.2.2.2.2; omega)⟩
          obtain ⟨g, o, rfl, hx3⟩ := HS.out.1.at hx
          obtain ⟨h, q, rfl, hy3⟩ := HS.out.2.1.at hy
          have hxF : x.Fine := HS.out.2.2.2.2.1 x (List.mem_of_getElem? hx)
          have hyF : y.Fine := HS.out.2.2.2.2.2.1 y (List.mem_of_getElem? hy)
          have hltn : (k : Int) < l := by omega
          have hltm : (k : Int) < m := by omega
          have e2 : IntKind.i64.wrap ((k : Int) - 1) = (k : Int) - 1 := by rw [IntKind.wrap_i64]; omega
          have hrg : wr.rangeAt g (o + k * 26) x.vs ∧ wr.rangeAt h (q + k * 26) y.vs := ⟨range_kept hx3 HJ.out.keeps fun h => h, range_kept hy3 HJ.out.keeps fun h => h⟩
          by_cases hxy : x = y
          · have hq : ∀ w' : World, (binOp .neq 33 (.agg x.vs.toArray) (.agg y.vs.toArray)).run Try.prog w' = .ok (.bool false) w' := fun w' => by rw [neq_seen hxF hyF w', decide_eq_true hxy]; rfl
            have HE : Hid (At A B l l m G V w k wr.drew) := ⟨⟨e, ⟨by have := HF.out.1.le; omega, HF.out.1.top, fun i h1 h2 => by
                rcases Nat.eq_or_lt_of_le h1 with rfl | h3
                · rw [hx, hy, hxy]
                · exact HF.out.1.eq i h3 h2, HF.out.1.ne⟩, HF.out.2.drew⟩, HJ.out.blk.drew, HJ.out.keeps.drew⟩
            clear hx hy hx3 hy3 HF
            go_wp2_with fail
            refine wp_region_held_drew (S := (fun w' => w'.rangeAt g (o + k * 26) x.vs ∧ w'.rangeAt h (q + k * 26) y.vs)) mixd hrg (fun hHeld => ?_)
            simp only [List.size_toArray, List.length_cons, List.length_nil, Nat.reduceAdd, Array.replicate_succ, Array.replicate_zero, List.push_toArray, List.append_toArray, List.nil_append, List.cons_append]
            refine tk 0 (.slice (some ⟨g, o, none⟩) l ca) hHeld ?_
            simp only [Act.put, List.setIfInBounds_toArray, List.set_cons_zero, List.set_cons_succ]
            refine tk 1 (.int .i64 (k : Int)) hHeld ?_
            simp only [Act.put, List.setIfInBounds_toArray, List.set_cons_zero, List.set_cons_succ]
            refine tk 2 (.pointer (some ⟨g, o + k * 26, none⟩)) hHeld ?_
            simp only [Act.put, List.setIfInBounds_toArray, List.set_cons_zero, List.set_cons_succ]
            refine tl 3 (x := .tmp 30) (b := g) (o := (o + k * 26)) (fun w' h => h.1) Try.underlying33 rfl (size33 hxF) hHeld ?_
            simp only [Act.put, List.setIfInBounds_toArray, List.set_cons_zero, List.set_cons_succ]
            refine tk 4 (.slice (some ⟨h, q, none⟩) m cb) hHeld ?_
            simp only [Act.put, List.setIfInBounds_toArray, List.set_cons_zero, List.set_cons_succ]
            refine tk 5 (.int .i64 (k : Int)) hHeld ?_
            simp only [Act.put, List.setIfInBounds_toArray, List.set_cons_zero, List.set_cons_succ]
            refine tk 6 (.pointer (some ⟨h, q + k * 26, none⟩)) hHeld ?_
            simp only [Act.put, List.setIfInBounds_toArray, List.set_cons_zero, List.set_cons_succ]
            refine tl 7 (x := .tmp 34) (b := h) (o := (q + k * 26)) (fun w' h => h.2) Try.underlying33 rfl (size33 hyF) hHeld ?_
            simp only [Act.put, List.setIfInBounds_toArray, List.set_cons_zero, List.set_cons_succ]
            refine tcmp 8 (op := .neq) (ty := 33) (t2 := 33) (x := .tmp 31) (y := .tmp 35) hq guard33 hHeld ?_
            simp only [Act.put, List.setIfInBounds_toArray, List.set_cons_zero, List.set_cons_succ]
            refine wpAnyH_done (by kernel_rfl) ?_ _
            clear hHeld
            go_wp2
            go_roundw
            case rel => exact ⟨k, _, by omega, rfl, rfl, HE.out⟩
            case measure => simp [intOf]
          · have hq : ∀ w' : World, (binOp .neq 33 (.agg x.vs.toArray) (.agg y.vs.toArray)).run Try.prog w' = .ok (.bool true) w' := fun w' => by rw [neq_seen hxF hyF w', decide_eq_false hxy]; rfl
            have hB1 := HF.out.2.drew
            have HE : Hid (At A B l l m G V w k (((wr.drew.setCell ⟨V, 0, none⟩ (.bool false))).setCell ⟨V, 1, none⟩ (.int .i64 k))) := by
              have hg : V < w.heap.size → False := fun h => by have := HA0.out.2; omega
              refine ⟨⟨k, ⟨Nat.le_refl _, by omega, fun i h1 h2 => by omega, fun _ e => hxy (by rw [hx, hy] at e; exact Option.some.inj e)⟩, ?_⟩, (HJ.out.blk.drew.setCell_ne (by have := HA0.out.2; show G ≠ V; omega) _).setCell_ne (by have := HA0.out.2; show G ≠ V; omega) _, (HJ.out.keeps.drew.setCell ⟨V, 0, none⟩ _ hg).setCell ⟨V, 1, none⟩ _ hg⟩
              rw [decide_eq_false (by omega)]
              exact (hB1.setCell 0 _).setCell 1 _
            have c0 := HF.out.2.cell (i := 0) rfl
            have c1 := HF.out.2.cell (i := 1) rfl
            have f0 := HF.out.2.frozen 0
            have f1 := HF.out.2.frozen 1
            clear hx hy hx3 hy3 HF hxy hB1
            go_wp2_with fail
            refine wp_region_held_drew (S := (fun w' => w'.rangeAt g (o + k * 26) x.vs ∧ w'.rangeAt h (q + k * 26) y.vs)) mixd hrg (fun hHeld => ?_)
            simp only [List.size_toArray, List.length_cons, List.length_nil, Nat.reduceAdd, Array.replicate_succ, Array.replicate_zero, List.push_toArray, List.append_toArray, List.nil_append, List.cons_append]
            refine tk 0 (.slice (some ⟨g, o, none⟩) l ca) hHeld ?_
            simp only [Act.put, List.setIfInBounds_toArray, List.set_cons_zero, List.set_cons_succ]
            refine tk 1 (.int .i64 (k : Int)) hHeld ?_
            simp only [Act.put, List.setIfInBounds_toArray, List.set_cons_zero, List.set_cons_succ]
            refine tk 2 (.pointer (some ⟨g, o + k * 26, none⟩)) hHeld ?_
            simp only [Act.put, List.setIfInBounds_toArray, List.set_cons_zero, List.set_cons_succ]
            refine tl 3 (x := .tmp 30) (b := g) (o := (o + k * 26)) (fun w' h => h.1) Try.underlying33 rfl (size33 hxF) hHeld ?_
            simp only [Act.put, List.setIfInBounds_toArray, List.set_cons_zero, List.set_cons_succ]
            refine tk 4 (.slice (some ⟨h, q, none⟩) m cb) hHeld ?_
            simp only [Act.put, List.setIfInBounds_toArray, List.set_cons_zero, List.set_cons_succ]
            refine tk 5 (.int .i64 (k : Int)) hHeld ?_
            simp only [Act.put, List.setIfInBounds_toArray, List.set_cons_zero, List.set_cons_succ]
            refine tk 6 (.pointer (some ⟨h, q + k * 26, none⟩)) hHeld ?_
            simp only [Act.put, List.setIfInBounds_toArray, List.set_cons_zero, List.set_cons_succ]
            refine tl 7 (x := .tmp 34) (b := h) (o := (q + k * 26)) (fun w' h => h.2) Try.underlying33 rfl (size33 hyF) hHeld ?_
            simp only [Act.put, List.setIfInBounds_toArray, List.set_cons_zero, List.set_cons_succ]
            refine tcmp 8 (op := .neq) (ty := 33) (t2 := 33) (x := .tmp 31) (y := .tmp 35) hq guard33 hHeld ?_
            simp only [Act.put, List.setIfInBounds_toArray, List.set_cons_zero, List.set_cons_succ]
            refine wpAnyH_done (by kernel_rfl) ?_ _
            clear hHeld
            go_wp2
            go_roundw
            case rel => exact ⟨k, _, by omega, rfl, rfl, HE.out⟩
            case measure => simp [intOf]
        · obtain rfl : j = 0 := by omega
          have HE : Hid (K = e ∧ Blk wr V (vds (decide (e = l)) e l m) 24) := ⟨by rw [HK.out]; exact hF.cp (by have := HS.out.2.2.1; have := HS.out.2.2.2.1; have := HS.out.2.2.2.2.2.2; omega), hV⟩
          obtain ⟨D, hD⟩ : ∃ D, D = decide (e = l) := ⟨_, rfl⟩
          obtain ⟨E, hE⟩ : ∃ E : Int, E = (e : Int) := ⟨_, rfl⟩
          have HD : Hid (D = decide (e = l) ∧ E = e) := ⟨hD, hE⟩
          have hB1 := hV
          rw [← hD, ← hE] at hB1
          have c0 := hB1.cell (i := 0) rfl
          have c1 := hB1.cell (i := 1) rfl
          have c2 := hB1.cell (i := 2) rfl
          have c3 := hB1.cell (i := 3) rfl
          have d0 := HJ.out.blk.cell (i := 0) rfl
          have d1 := HJ.out.blk.cell (i := 1) rfl
          have d2 := HJ.out.blk.cell (i := 2) rfl
          have d3 := HJ.out.blk.cell (i := 3) rfl
          have f0 := HJ.out.blk.frozen 0
          have f1 := HJ.out.blk.frozen 1
          have f2 := HJ.out.blk.frozen 2
          have f3 := HJ.out.blk.frozen 3
          have HR : Hid (Blk ((((wr.setCell ⟨G, 0, none⟩ (.bool D)).setCell ⟨G, 1, none⟩ (.int .i64 E)).setCell ⟨G, 2, none⟩ (.int .i64 l)).setCell ⟨G, 3, none⟩ (.int .i64 m)) G (vds D E l m) 24 ∧
              Keeps (fun _ => False) w ((((wr.setCell ⟨G, 0, none⟩ (.bool D)).setCell ⟨G, 1, none⟩ (.int .i64 E)).setCell ⟨G, 2, none⟩ (.int .i64 l)).setCell ⟨G, 3, none⟩ (.int .i64 m))) := by
            have hg : G < w.heap.size → False := fun h => by have := HA0.out.2; omega
            exact ⟨(((HJ.out.blk.setCell 0 _).setCell 1 _).setCell 2 _).setCell 3 _, (((HJ.out.keeps.setCell ⟨G, 0, none⟩ _ hg).setCell ⟨G, 1, none⟩ _ hg).setCell ⟨G, 2, none⟩ _ hg).setCell ⟨G, 3, none⟩ _ hg⟩
          have hneg : (0 : Int) ≤ z ↔ False := ⟨fun h => by omega, fun h => h.elim⟩
          clear hF hV hD hE hB1 hz hj hlt
          go_wp2
          exact bodyPost_ret (results_cell rfl _ _ _ _ rfl (load_vd HR.out.1)) rfl ⟨by rw [HD.out.1, HD.out.2, HE.out.1], HR.out.2⟩
  rw [← hn, ← hm, ← hl]
  exact HM.out _ rfl
end Go.Proofs.Ytlddioedednojaa
