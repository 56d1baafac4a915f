import Derived.Test.YtipejahmjdamjaaGreatDoorChOu
namespace Go.Proofs.YtipejahmjdamjaaGreatDoor.Ch
open Go.RowKit Go.Shelf
attribute [local go_sem] Oper.semAt_some
set_option linter.unusedVariables false
set_option maxRecDepth 6000
set_option linter.unusedSimpArgs false

theorem Tryz.info99 : (Tryz.prog.info? 99).map (fun i => (i.zero, i.size, i.bytes)) = some (some (.slice none 0 0), 1, 24) := by kernel_rfl

/-- make([][]int, 4). -/
theorem make4 (w : World) : (Instr.makeSlice 41 (.int .i64 4) (.int .i64 4)).run Tryz.prog w = .ok (.slice (some ⟨w.heap.size, 0, none⟩) 4 4) (w.alloc (.cells #[.slice none 0 0, .slice none 0 0, .slice none 0 0, .slice none 0 0] 99)) := by
  obtain ⟨i0, hi, hz0, hz1, hz2⟩ := info_parts Tryz.info99
  have h := run_make (P := Tryz.prog) w 41 99 i0 _ Tryz.underlying41 hi hz0 .i64 .i64 4 4 (by omega) (by omega) (by rw [hz2]; omega) (by omega)
  rw [hz1] at h
  have e : madeCells (Value.slice none 0 0).cells ((4 : Int).toNat * 1) = #[.slice none 0 0, .slice none 0 0, .slice none 0 0, .slice none 0 0] := by kernel_rfl
  rw [e] at h
  exact h

def mark (b : Nat) : Deferred := { target := .collected b, args := #[] }
/-- These blocks are marks that hold no call. -/
def Marks (W : World) (bs : List Nat) : Prop := bs.Nodup ∧ ∀ b ∈ bs, W.heap[b]? = some (.deferred (some []))

theorem leaves_marks {fn : Func} {tmps : Array Value} {R : Ending → World → Prop} {F : Fence} {n : Nat} {P : Program} : ∀ (bs : List Nat) (w : World), Marks w bs →
    (∀ w', Keeps (· ∈ bs) w w' → LeavesIn F n P fn tmps R [] .returning w') → LeavesInM F n P fn tmps R (bs.map mark) .returning w
  | [], w, _, h => h w (Keeps.refl _ _)
  | b :: bs, w, hm, h => by
    have hb := hm.2 b (by simp)
    have hn := List.nodup_cons.1 hm.1
    have hK : Keeps (· = b) w (w.putObj b (.deferred none)) := ⟨rfl, rfl, rfl, by simp, fun k _ hne => World.putObj_heap_other hne⟩
    refine ⟨by simp, .inl ⟨b, _, rfl, run_takeDeferred hb, ?_⟩⟩
    refine leaves_marks bs _ ⟨hn.2, fun d hd => ?_⟩ fun w' hK' => h w' ?_
    · have hdb : d ≠ b := fun e => hn.1 (e ▸ hd)
      exact (hK.block d (Array.getElem?_eq_some_iff.1 (hm.2 d (by simp [hd]))).1 hdb).trans (hm.2 d (by simp [hd]))
    · exact (hK.mono fun k _ he => by simp [he]).trans hK' fun k _ he => by simp [he]

def noDefer (ops : Array Oper) : Bool := ops.all fun o => match o.op with | .defer _ => false | _ => true
theorem noDefer_of {ops : Array Oper} (h : noDefer ops = true) : ∀ (i : Nat) (o : Oper), ops[i]? = some o → ∀ (c : Call), o.op ≠ .defer c := by
  intro i o ho c hc
  unfold noDefer at h
  rw [Array.all_eq_true] at h
  obtain ⟨hi, he⟩ := Array.getElem?_eq_some_iff.1 ho
  have := h i hi
  rw [he, hc] at this
  simp at this

theorem wp_append_run {o : Oper} {a : Act} {K : Act → World → Prop} {Q : Exit → Act → World → Prop} {P : Program} {w : World} (s x : Operand) (t k : TypeId)
    (ho : o.op = .call { callee := .builtin .append, args := #[s, x], argTypes := #[t, k] }) (vs vx v' : Value) (w' : World) (hs : a.eval s = vs) (hx : a.eval x = vx)
    (hr : ∀ ty, (Builtin.append_ #[t, k] ty #[vs, vx]).run P w = .ok v' w') (h : K (a.put o.dst v') w') : Oper.wp P o a w K Q := by
  unfold Oper.wp execOp
  simp only [ho, resolve, invoke, builtin, Sem.run_bind, Sem.run_pure, Result.andThen_ok, List.map_toArray, List.map_cons, List.map_nil, hs, hx, hr]
  exact h

/-- Where the walk through the sets is. -/
structure LR (w W : World) (H G : Nat) (bs : List Nat) (cur : Nat → List Int) : Prop where
  out : Blk W H [.slice (some ⟨G, 0, none⟩) 4 4] 41
  rows : ∃ vs, Four W G vs cur (fun b => w.heap.size ≤ b ∧ b ≠ H ∧ b ∉ bs)
  keeps : Keeps (fun _ => False) w W
  marks : Marks W bs
  lo : ∀ b ∈ bs, w.heap.size ≤ b ∧ b ≠ H ∧ b ≠ G
  gh : w.heap.size ≤ G ∧ w.heap.size ≤ H ∧ H ≠ G

/-- Where the walk through one set is. -/
structure RI (w X0 : World) (H G Sb : Nat) (bs : List Nat) (cur : Nat → List Int) (g : Nat) (X : World) : Prop where
  hi : g < X.heap.size
  lo : X0.heap.size + 2 ≤ g
  rows : ∃ vs, Four X G vs cur (fun b => (w.heap.size ≤ b ∧ b ≠ H ∧ b ∉ bs ∧ b ≠ Sb) ∧ (b < X0.heap.size ∨ g < b))
  keeps : Keeps (fun b => b = G ∨ (w.heap.size ≤ b ∧ b ≠ H ∧ b ∉ bs ∧ b ≠ Sb)) X0 X

theorem index4 (s : Nat → Nat) (j : Nat) (hj : j < 4) (w : World) : (Instr.index 128 (.agg #[ptr (s 0), ptr (s 1), ptr (s 2), ptr (s 3)]) (.int .i64 (j : Int))).run Tryz.prog w = .ok (ptr (s j)) w := by
  have : j = 0 ∨ j = 1 ∨ j = 2 ∨ j = 3 := by omega
  rcases this with rfl | rfl | rfl | rfl <;> simp [Instr.index, go_sem]

set_option maxRecDepth 20000 in
set_option maxHeartbeats 4000000 in
theorem lines_walk (c : Nat) (s : Nat → Nat) (st : Nat → List Int) (w : World) (c0 : w.cell? ⟨c, 0, none⟩ = some (ptr (s 0))) (c1 : w.cell? ⟨c, 1, none⟩ = some (ptr (s 1))) (c2 : w.cell? ⟨c, 2, none⟩ = some (ptr (s 2))) (c3 : w.cell? ⟨c, 3, none⟩ = some (ptr (s 3)))
    (hst : Hid (∀ i, i < 4 → (st i).length ≤ 2 ∧ ∀ W, Keeps (fun _ => False) w W → ∃ F, Sf W (s i) 2 (st i) F)) :
    Calls Tryz.prog 62 #[ptr c] w fun r w' => ∃ G vs, r = .returned (.slice (some ⟨G, 0, none⟩) 4 4) ∧ Four w' G vs st (fun b => w.heap.size ≤ b) ∧ w.heap.size ≤ G ∧ Keeps (fun _ => False) w w' := by
  obtain ⟨W, hW⟩ : ∃ W, W = (w.alloc (.cells #[.slice none 0 0, .slice none 0 0, .slice none 0 0, .slice none 0 0] 99)).alloc (.cells #[.slice (some ⟨w.heap.size, 0, none⟩) 4 4] 41) := ⟨_, rfl⟩
  have hK : Keeps (fun _ => False) w W := by rw [hW]; exact ((Keeps.refl _ w).alloc _).alloc _
  have d0 := cell_kept c0 hK fun h => h
  have d1 := cell_kept c1 hK fun h => h
  have d2 := cell_kept c2 hK fun h => h
  have d3 := cell_kept c3 hK fun h => h
  have hLR : LR w W (w.heap.size + 1) w.heap.size [] (fun _ => []) := by
    refine ⟨?_, ⟨fun _ => .slice none 0 0, ?_, fun i hi => by simpa [flat] using World.ownsRow_nil W 0 3 1, fun i hi g hg => by simp [Value.ownBlock] at hg, fun i hi j hj hij g hg => by simp [Value.ownBlock] at hg⟩, hK, ⟨List.nodup_nil, by simp⟩, by simp, by omega, by omega, by omega⟩
    · rw [hW, show w.heap.size + 1 = (w.alloc (.cells #[.slice none 0 0, .slice none 0 0, .slice none 0 0, .slice none 0 0] 99)).heap.size by simp]
      exact Blk.new _ _ 41
    · rw [hW]
      exact (Blk.new w _ 99).alloc _
  rw [hW] at d0 d1 d2 d3
  have HW : Hid (W = _) := hW
  have HM : Hid ((Instr.makeSlice 41 (.int .i64 4) (.int .i64 4)).run Tryz.prog w = _) := make4 w
  obtain ⟨G, hG⟩ : ∃ G, G = w.heap.size := ⟨_, rfl⟩
  obtain ⟨H, hH⟩ : ∃ H, H = w.heap.size + 1 := ⟨_, rfl⟩
  rw [← hH, ← hG] at hLR
  have HLR : Hid (LR w W H G [] (fun _ => [])) := hLR
  have HGH : Hid (G = w.heap.size ∧ H = w.heap.size + 1) := ⟨hG, hH⟩
  clear hW hK c0 c1 c2 c3 hLR hG hH
  refine (callsIn_wide (n := 8)).1 ?_
  refine callsIn_of_wp_marks Tryz.func62 rfl trivial ?_ rfl
  refine wpIn_wide.2 ?_
  simp only [Tryz.ntmps62, List.size_toArray, List.length_cons, List.length_nil, Nat.reduceAdd, Nat.reduceSub, Array.replicate_succ, Array.replicate_zero, List.push_toArray, List.append_toArray, List.nil_append, List.cons_append]
  go_wp2_with (at_make; refine wpList_make_run rfl _ _ 41 rfl (.int .i64 4) (.int .i64 4) _ _ rfl rfl HM.out ?_; refine Hid.out ?_)
  unfold Hid
  clear HM
  go_wp2
  rw [← HW.out, ← HGH.out.1]
  rw [show (⟨G + 1, 0, none⟩ : Addr) = ⟨H, 0, none⟩ by rw [HGH.out.1, HGH.out.2]]
  clear d0 d1 d2 d3 HW
  refine wp_loop (fun a W => ∃ (j : Nat) (bs : List Nat) (u4 u5 u6 u15 u16 u17 u18 u19 u20 u21 u22 u23 u24 u25 u26 u27 u28 u29 u30 u31 u32 : Value), a = { tmps := #[ptr c, undef, .slice none 0 0, ptr H, u4, u5, u6, ptr c, .bool false, .slice (some ⟨G, 0, none⟩) 4 4, ptr c, ptr c, ptr c, .agg #[ptr (s 0), ptr (s 1), ptr (s 2), ptr (s 3)], .int .i64 (j : Int), u15, u16, u17, u18, u19, u20, u21, u22, u23, u24, u25, u26, u27, u28, u29, u30, u31, u32, undef], defers := bs.map mark } ∧ j ≤ 4 ∧ LR w W H G bs (fun i => if i < j then st i else [])) (fun a _ => 4 - (intOf (a.tmps.getD 14 undef)).toNat) ?start ?round
  case start => exact ⟨0, [], _, _, _, _, _, _, _, _, _, _, _, _, _, _, _, _, _, _, _, _, _, rfl, by omega, by simpa using HLR.out⟩
  case round =>
    rintro a W1 ⟨j, bs, u4, u5, u6, u15, u16, u17, u18, u19, u20, u21, u22, u23, u24, u25, u26, u27, u28, u29, u30, u31, u32, rfl, hj, hL⟩
    clear HLR
    by_cases hlt : j < 4
    · have hj4 : (j : Int) < 4 := by omega
      have hidx := index4 s j hlt W1
      have HL : Hid (LR w W1 H G bs (fun i => if i < j then st i else []) ∧ j < 4) := ⟨hL, hlt⟩
      clear hL hlt hj
      go_wp2_with fail
      refine (all_any (some ⟨s j, 0, none⟩) _).mono ?_
      rintro e X0 ⟨rfl, hX0⟩
      obtain ⟨Sb, hSb⟩ : ∃ Sb, Sb = W1.heap.size := ⟨_, rfl⟩
      obtain ⟨B1, hB1⟩ : ∃ B1, B1 = (W1.alloc (.cells #[.int .i64 (j : Int)] 3)).heap.size := ⟨_, rfl⟩
      have hB1' : B1 = W1.heap.size + 1 := by rw [hB1]; simp
      have hKx : Keeps (fun _ => False) W1 X0 := by rw [hX0]; exact ((Keeps.refl (fun _ => False) W1).alloc _).alloc _
      have hBs : Blk X0 Sb [.int .i64 (j : Int)] 3 := by rw [hX0, hSb]; exact (Blk.new W1 _ 3).alloc _
      have hBc : Blk X0 B1 [ptr (s j)] 127 := by rw [hX0, hB1]; exact Blk.new _ _ 127
      have hs0 : X0.heap.size = W1.heap.size + 2 := by rw [hX0]; simp
      rw [← hB1, ← hSb]
      have HS : Hid (Keeps (fun _ => False) W1 X0 ∧ Blk X0 Sb [.int .i64 (j : Int)] 3 ∧ Blk X0 B1 [ptr (s j)] 127 ∧ X0.heap.size = W1.heap.size + 2 ∧ Sb = W1.heap.size ∧ B1 = W1.heap.size + 1) := ⟨hKx, hBs, hBc, hs0, hSb, hB1'⟩
      clear hX0 hSb hB1 hB1' hKx hBs hBc hs0 hidx
      have HT : Hid (∀ X, Keeps (fun b => b = G ∨ (w.heap.size ≤ b ∧ b ≠ H ∧ b ∉ bs ∧ b ≠ Sb)) X0 X → Keeps (fun _ => False) w X ∧ Blk X H [.slice (some ⟨G, 0, none⟩) 4 4] 41 ∧ Blk X Sb [.int .i64 (j : Int)] 3 ∧ Marks X bs) := fun X hK => by
        obtain ⟨k1, k2, k3, k4, k5, k6⟩ := HS.out
        have hl := HL.out.1
        have hgh := hl.gh
        have hSbs : Sb ∉ bs := fun hm => by
          have := (Array.getElem?_eq_some_iff.1 (hl.marks.2 Sb hm)).1
          omega
        have hHl := hl.out.lt
        refine ⟨(hl.keeps.trans k1 fun _ _ h => h).trans hK fun b hb h => ?_, (hl.out.kept k1 fun h => h).kept hK ?_, k2.kept hK ?_, ⟨hl.marks.1, fun b hb => ?_⟩⟩
        · rcases h with h | h
          · omega
          · omega
        · rintro (h | h)
          · omega
          · exact h.2.1 rfl
        · rintro (h | h)
          · have := hl.rows
            obtain ⟨vs, hv⟩ := this
            have := hv.blk.lt
            omega
          · exact h.2.2.2 rfl
        · have h1 := hl.marks.2 b hb
          have h2 := (k1.block b (Array.getElem?_eq_some_iff.1 h1).1 fun h => h).trans h1
          refine (hK.block b (Array.getElem?_eq_some_iff.1 h2).1 ?_).trans h2
          rintro (h | h)
          · exact (hl.lo b hb).2.2 h
          · exact h.2.2.1 hb
      go_wp2_with fail
      refine (wpIn_wide (n := 8)).1 ?_
      refine range_list rfl (by omega) (gf := 145) (lb := #[.pointer (some ⟨B1, 0, none⟩)]) rfl trivial (enters_of Tryz.func145 (by kernel_rfl) rfl) (all_lists 7 B1 (s j) 2 (st j))
        (fun X hK => ?good) (fun _ => rfl) (fun g i X => RI w X0 H G Sb bs (fun i' => if i' < j then st i' else if i' = j then (st j).take i else []) g X) (fun _ _ => False) ?kept (fun _ _ _ _ h => h) ?begin ?body ?done ?stop
      case good =>
        have h1 := HT.out X (hK.mono fun _ _ h => h.elim)
        obtain ⟨F, hF⟩ := (hst.out j HL.out.2).2 X h1.1
        exact ⟨(HS.out.2.2.1.kept hK fun h => h).cell rfl, F, hF⟩
      case stop =>
        rintro c W h _
        exact h.elim
      case kept =>
        intro g i X X' hK h
        obtain ⟨h1, h2, ⟨vs, h3⟩, h4⟩ := h
        have hl := HL.out.1
        have hG : G < X0.heap.size := by
          obtain ⟨vs, hv⟩ := hl.rows
          have := hv.blk.lt; have := HS.out.1.size; omega
        exact ⟨Nat.lt_of_lt_of_le h1 hK.size, h2, ⟨vs, h3.kept hK (by omega) fun b hb he => by rcases hb.2 with h | h <;> omega⟩, h4.trans hK fun b hb he => by omega⟩
      case begin =>
        intro g X hK hg1 hg2
        obtain ⟨k1, k2, k3, k4, k5, k6⟩ := HS.out
        obtain ⟨vs, hv⟩ := HL.out.1.rows
        refine ⟨hg2, hg1, ⟨vs, ?_⟩, hK.mono fun _ _ h => h.elim⟩
        have h0 := hv.mono (D' := fun b => (w.heap.size ≤ b ∧ b ≠ H ∧ b ∉ bs ∧ b ≠ Sb) ∧ (b < X0.heap.size ∨ g < b)) fun b hb hlt => ⟨⟨hb.1, hb.2.1, hb.2.2, by omega⟩, .inl (by omega)⟩
        refine ((h0.kept k1 (fun h => h) fun _ _ h => h).kept hK (fun h => h) fun _ _ h => h).same fun i hi => ?_
        by_cases e : i < j
        · simp [e]
        · by_cases e2 : i = j <;> simp [e, e2]
      case body =>
        intro l g i x X hx hR hgB
        unfold encA
        gi_wp2
        refine ⟨trivial, ?_⟩
        intro X2 hlt2 hR2
        obtain ⟨q1, q2, ⟨vs, q3⟩, q4⟩ := hR2
        obtain ⟨t1, t2, t3, t4⟩ := HT.out X2 q4
        have hjj := HL.out.2
        have hgh := HL.out.1.gh
        have hiL : i < (st j).length := (List.getElem?_eq_some_iff.1 hx).1
        have hl2 := (hst.out j hjj).1
        have hrow := q3.row j hjj
        simp only [Nat.lt_irrefl, if_false, if_true] at hrow
        have hGX := q3.blk.lt
        have hG0 : G < X0.heap.size := by
          obtain ⟨vs, hv⟩ := HL.out.1.rows
          have := hv.blk.lt; have := HS.out.1.size; omega
        have hKd : Keeps (fun _ => False) X2 X2.drew := (Keeps.refl _ X2).drew
        obtain ⟨v', W', happ, hown', hgr⟩ := append_int x (vs j) _ _ (owns_kept hrow hKd fun _ _ h => h) (by rw [List.length_take]; omega)
        obtain ⟨gv, capv, rfl⟩ : ∃ gv capv, v' = .slice (some ⟨gv, 0, none⟩) (((st j).take i).length + 1) capv := by
          rcases hown'.2 with ⟨_, h⟩ | ⟨gv, cap, cur, rfl, _⟩
          · omega
          · exact ⟨gv, cap, rfl⟩
        obtain ⟨nv, hnv⟩ : ∃ nv, nv = ((st j).take i).length + 1 := ⟨_, rfl⟩
        rw [← hnv] at happ hown' hgr
        obtain ⟨v', hv'⟩ : ∃ v', v' = Value.slice (some ⟨gv, 0, none⟩) nv capv := ⟨_, rfl⟩
        rw [← hv'] at happ hown' hgr
        rw [hnv] at hown'
        have hgr2 : Grew X2 (vs j) W' v' := ⟨hgr.fresh, (hKd.mono fun _ _ h => h.elim).trans hgr.keeps fun _ _ h => h⟩
        have hownD : ∀ b, some b = (vs j).ownBlock → ((w.heap.size ≤ b ∧ b ≠ H ∧ b ∉ bs ∧ b ≠ Sb) ∧ (b < X0.heap.size ∨ g < b)) ∧ b ≠ G := fun b hb => ⟨(q3.own j hjj b hb.symm).2.1, (q3.own j hjj b hb.symm).1⟩
        have dH := (t2.kept hgr2.keeps fun h => (hownD H h).1.1.2.1 rfl).cell (i := 0) rfl
        have dS := (t3.kept hgr2.keeps fun h => (hownD Sb h).1.1.2.2.2 rfl).cell (i := 0) rfl
        have hBG := q3.blk.kept hgr2.keeps fun h => (hownD G h).2 rfl
        have dG := hBG.cell (four_get vs hjj)
        have dF := hBG.frozen j
        have eH := t2.cell (i := 0) rfl
        have eS := t3.cell (i := 0) rfl
        have eG := q3.blk.cell (four_get vs hjj)
        obtain ⟨v, hv⟩ : ∃ v, v = vs j := ⟨_, rfl⟩
        rw [← hv] at eG dG happ
        have HAP : Hid (∀ ty, (Builtin.append_ #[99, 99] ty #[v, .slice (some ⟨X2.heap.size, 0, none⟩) 1 1]).run Tryz.prog (X2.drew.alloc (.cells #[.int .i64 x] 3)) = .ok v' W') := happ
        have HEND : Hid (KeptAt X0.heap.size g X2 (W'.setCell ⟨G, j, none⟩ v') ∧ RI w X0 H G Sb bs (fun i' => if i' < j then st i' else if i' = j then (st j).take (i + 1) else []) g (W'.setCell ⟨G, j, none⟩ v')) := by
          have hH2 := t2.lt
          have hS2 := t3.lt
          have hbs : ∀ b ∈ bs, b < X2.heap.size := fun b hb => (Array.getElem?_eq_some_iff.1 (t4.2 b hb)).1
          have hkk : ∀ b, b < X2.heap.size → b ≠ G → ¬ (b < X0.heap.size ∨ g < b) → (W'.setCell ⟨G, j, none⟩ v').heap[b]? = X2.heap[b]? := fun b hb hne hn =>
            (Below.heap_setCell W' ⟨G, j, none⟩ _ b hne).trans (hgr2.keeps.block b hb fun he => hn (hownD b he).1.2)
          have h4 := q3.more hjj (x := x) (W' := W') (v' := v') (D' := fun b => (w.heap.size ≤ b ∧ b ≠ H ∧ b ∉ bs ∧ b ≠ Sb) ∧ (b < X0.heap.size ∨ g < b)) (by simpa using hown') hgr2 (fun b hb => hb) fun b hb => ⟨⟨by have := t1.size; omega, by omega, fun hm => by have := hbs b hm; omega, by omega⟩, .inr (by omega)⟩
          refine ⟨⟨hkk _ (by omega) (by omega) (by omega), hkk _ (by omega) (by omega) (by omega), hkk _ (by omega) (by omega) (by omega)⟩, ?_, q2, ⟨_, h4.same fun i' hi' => ?_⟩, ?_⟩
          · have := hgr2.keeps.size; simp; omega
          · by_cases e : i' = j
            · subst e
              simp only [Nat.lt_irrefl, if_false, if_true]
              rw [List.take_add_one, hx]; rfl
            · simp only [if_neg e]
          · refine (q4.trans hgr2.keeps fun b hb he => .inr (hownD b he).1.1).setCell _ _ fun _ => .inl rfl
        have HNE : Hid (H ≠ G ∧ Sb ≠ G) := ⟨hgh.2.2, fun e => by have := HS.out; obtain ⟨vs, hv⟩ := HL.out.1.rows; have := hv.blk.lt; omega⟩
        clear happ hown' hgr hgr2 hownD hBG hrow q1 q2 q3 q4 t1 t2 t3 t4 hR hgB hlt2 hx hv hKd hGX hG0 hl2 hiL hgh hjj
        clear hnv
        subst hv'
        gi_wp2
        refine region_inRound Tryz.mixed (noDefer_of (by kernel_rfl)) ?nq (fun w' => w'.cell? ⟨H, 0, none⟩ = some (.slice (some ⟨G, 0, none⟩) 4 4) ∧ w'.cell? ⟨Sb, 0, none⟩ = some (.int .i64 (j : Int))) ⟨eH, eS⟩ (fun hHeld => ?_)
        case nq =>
          rintro ⟨a, w, h⟩
          exact h
        simp only [List.size_toArray, List.length_cons, List.length_nil, Nat.reduceAdd, Array.replicate_succ, Array.replicate_zero, List.push_toArray, List.append_toArray, List.nil_append, List.cons_append]
        refine wpAnyH_take (i := 0) (oi := { dst := some 22, op := .load 41 (.tmp 3), type := 41, pos := "cache.go:76", after := #[], guard := none }) (v := .slice (some ⟨G, 0, none⟩) 4 4) rfl (by kernel_rfl) (by kernel_rfl) (by kernel_rfl) (fun _ _ _ h => h) (Or.inl ⟨by rfl, by (intro w hSw; (try dsimp only at hSw); go_simp)⟩) hHeld ?_
        simp only [Act.put, List.setIfInBounds_toArray, List.set_cons_zero, List.set_cons_succ]
        refine wpAnyH_take (i := 1) (oi := { dst := some 23, op := .load 3 (.tmp 4), type := 3, pos := "cache.go:76", after := #[], guard := none }) (v := .int .i64 (j : Int)) rfl (by kernel_rfl) (by kernel_rfl) (by kernel_rfl) (fun _ _ _ h => h) (Or.inl ⟨by rfl, by (intro w hSw; (try dsimp only at hSw); go_simp)⟩) hHeld ?_
        simp only [Act.put, List.setIfInBounds_toArray, List.set_cons_zero, List.set_cons_succ]
        refine wpAnyH_take (i := 2) (oi := { dst := some 24, op := .load 41 (.tmp 3), type := 41, pos := "cache.go:76", after := #[], guard := none }) (v := .slice (some ⟨G, 0, none⟩) 4 4) rfl (by kernel_rfl) (by kernel_rfl) (by kernel_rfl) (fun _ _ _ h => h) (Or.inl ⟨by rfl, by (intro w hSw; (try dsimp only at hSw); go_simp)⟩) hHeld ?_
        simp only [Act.put, List.setIfInBounds_toArray, List.set_cons_zero, List.set_cons_succ]
        refine wpAnyH_take (i := 3) (oi := { dst := some 25, op := .load 3 (.tmp 4), type := 3, pos := "cache.go:76", after := #[], guard := none }) (v := .int .i64 (j : Int)) rfl (by kernel_rfl) (by kernel_rfl) (by kernel_rfl) (fun _ _ _ h => h) (Or.inl ⟨by rfl, by (intro w hSw; (try dsimp only at hSw); go_simp)⟩) hHeld ?_
        simp only [Act.put, List.setIfInBounds_toArray, List.set_cons_zero, List.set_cons_succ]
        refine wpAnyH_take (i := 4) (oi := { dst := some 26, op := .indexAddr 41 (.tmp 24) (.tmp 25), type := 0, pos := "cache.go:76", after := #[{ on := 2, ground := .data }, { on := 3, ground := .data }], guard := none }) (v := .pointer (some ⟨G, j, none⟩)) rfl (by kernel_rfl) (by kernel_rfl) (by kernel_rfl) (fun _ _ _ h => h) (Or.inl ⟨by rfl, by (intro w hSw; (try dsimp only at hSw); go_simp)⟩) hHeld ?_
        simp only [Act.put, List.setIfInBounds_toArray, List.set_cons_zero, List.set_cons_succ]
        refine wpAnyH_take (i := 6) (oi := { dst := some 28, op := .move (.tmp 6), type := 3, pos := "cache.go:76", after := #[], guard := none }) (v := .int .i64 x) rfl (by kernel_rfl) (by kernel_rfl) (by kernel_rfl) (fun _ _ _ h => h) (Or.inl ⟨by rfl, by (intro w hSw; (try dsimp only at hSw); go_simp)⟩) hHeld ?_
        simp only [Act.put, List.setIfInBounds_toArray, List.set_cons_zero, List.set_cons_succ]
        have aH : (X2.drew.alloc (.cells #[.int .i64 x] 3)).cell? ⟨H, 0, none⟩ = some (.slice (some ⟨G, 0, none⟩) 4 4) := cell_kept (S := fun _ => False) eH (((Keeps.refl _ X2).drew).alloc _) fun h => h
        have aS : (X2.drew.alloc (.cells #[.int .i64 x] 3)).cell? ⟨Sb, 0, none⟩ = some (.int .i64 (j : Int)) := cell_kept (S := fun _ => False) eS (((Keeps.refl _ X2).drew).alloc _) fun h => h
        have aG : (X2.alloc (.cells #[.int .i64 x] 3)).cell? ⟨G, j, none⟩ = some v := cell_kept (S := fun _ => False) eG ((Keeps.refl _ X2).alloc _) fun h => h
        have sH : (W'.setCell ⟨G, j, none⟩ (.slice (some ⟨gv, 0, none⟩) nv capv)).cell? ⟨H, 0, none⟩ = some (.slice (some ⟨G, 0, none⟩) 4 4) := cell_kept (S := (· = G)) dH ((Keeps.refl _ W').setCell _ _ fun _ => rfl) HNE.out.1
        have sS : (W'.setCell ⟨G, j, none⟩ (.slice (some ⟨gv, 0, none⟩) nv capv)).cell? ⟨Sb, 0, none⟩ = some (.int .i64 (j : Int)) := cell_kept (S := (· = G)) dS ((Keeps.refl _ W').setCell _ _ fun _ => rfl) HNE.out.2
        refine wpAnyH_ready (rs := [5, 7]) (by kernel_rfl) (by simp) ?_
        refine AllReadyH.cons rfl (fun K hK => ?_) (AllReadyH.cons rfl (fun K hK => ?_) AllReadyH.nil)
        · go_simp
          refine hK.out _ _ ⟨eH, eS⟩ (fun hHeld => ?_)
          simp only [Act.put, List.setIfInBounds_toArray, List.set_cons_zero, List.set_cons_succ]
          refine wpAnyH_ready (rs := [7]) (by kernel_rfl) (by simp) ?_
          refine AllReadyH.cons rfl (fun K hK => ?_) AllReadyH.nil
          go_simp
          refine hK.out _ _ ⟨aH, aS⟩ (fun hHeld => ?_)
          simp only [Act.put, List.setIfInBounds_toArray, List.set_cons_zero, List.set_cons_succ]
          refine wpAnyH_ready (rs := [8]) (by kernel_rfl) (by simp) ?_
          refine AllReadyH.cons rfl (fun K hK => ?_) AllReadyH.nil
          rw [if_pos (by rfl)]
          refine wp_append_run (.tmp 27) (.tmp 29) 99 99 rfl v (.slice (some ⟨X2.heap.size, 0, none⟩) 1 1) _ W' rfl rfl HAP.out ?_
          refine hK.out _ _ ⟨dH, dS⟩ (fun hHeld => ?_)
          simp only [Act.put, List.setIfInBounds_toArray, List.set_cons_zero, List.set_cons_succ]
          refine wpAnyH_take (i := 9) (oi := { dst := some 31, op := .indexAddr 41 (.tmp 22) (.tmp 23), type := 0, pos := "cache.go:76", after := #[{ on := 0, ground := .data }, { on := 1, ground := .data }, { on := 0, ground := .phase }, { on := 1, ground := .phase }, { on := 2, ground := .phase }, { on := 3, ground := .phase }, { on := 4, ground := .phase }, { on := 5, ground := .phase }, { on := 6, ground := .phase }, { on := 7, ground := .phase }, { on := 8, ground := .phase }], guard := none }) (v := .pointer (some ⟨G, j, none⟩)) rfl (by kernel_rfl) (by kernel_rfl) (by kernel_rfl) (fun _ _ _ h => h) (Or.inl ⟨by rfl, by (intro w hSw; (try dsimp only at hSw); go_simp)⟩) hHeld ?_
          simp only [Act.put, List.setIfInBounds_toArray, List.set_cons_zero, List.set_cons_succ]
          refine wpAnyH_ready (rs := [10]) (by kernel_rfl) (by simp) ?_
          refine AllReadyH.cons rfl (fun K hK => ?_) AllReadyH.nil
          go_simp
          refine hK.out _ _ ⟨sH, sS⟩ (fun hHeld => ?_)
          simp only [Act.put, List.setIfInBounds_toArray, List.set_cons_zero, List.set_cons_succ]
          refine wpAnyH_done (by kernel_rfl) ?_ _
          exact HEND.out
        · go_simp
          refine hK.out _ _ ⟨aH, aS⟩ (fun hHeld => ?_)
          simp only [Act.put, List.setIfInBounds_toArray, List.set_cons_zero, List.set_cons_succ]
          refine wpAnyH_ready (rs := [5]) (by kernel_rfl) (by simp) ?_
          refine AllReadyH.cons rfl (fun K hK => ?_) AllReadyH.nil
          go_simp
          refine hK.out _ _ ⟨aH, aS⟩ (fun hHeld => ?_)
          simp only [Act.put, List.setIfInBounds_toArray, List.set_cons_zero, List.set_cons_succ]
          refine wpAnyH_ready (rs := [8]) (by kernel_rfl) (by simp) ?_
          refine AllReadyH.cons rfl (fun K hK => ?_) AllReadyH.nil
          rw [if_pos (by rfl)]
          refine wp_append_run (.tmp 27) (.tmp 29) 99 99 rfl v (.slice (some ⟨X2.heap.size, 0, none⟩) 1 1) _ W' rfl rfl HAP.out ?_
          refine hK.out _ _ ⟨dH, dS⟩ (fun hHeld => ?_)
          simp only [Act.put, List.setIfInBounds_toArray, List.set_cons_zero, List.set_cons_succ]
          refine wpAnyH_take (i := 9) (oi := { dst := some 31, op := .indexAddr 41 (.tmp 22) (.tmp 23), type := 0, pos := "cache.go:76", after := #[{ on := 0, ground := .data }, { on := 1, ground := .data }, { on := 0, ground := .phase }, { on := 1, ground := .phase }, { on := 2, ground := .phase }, { on := 3, ground := .phase }, { on := 4, ground := .phase }, { on := 5, ground := .phase }, { on := 6, ground := .phase }, { on := 7, ground := .phase }, { on := 8, ground := .phase }], guard := none }) (v := .pointer (some ⟨G, j, none⟩)) rfl (by kernel_rfl) (by kernel_rfl) (by kernel_rfl) (fun _ _ _ h => h) (Or.inl ⟨by rfl, by (intro w hSw; (try dsimp only at hSw); go_simp)⟩) hHeld ?_
          simp only [Act.put, List.setIfInBounds_toArray, List.set_cons_zero, List.set_cons_succ]
          refine wpAnyH_ready (rs := [10]) (by kernel_rfl) (by simp) ?_
          refine AllReadyH.cons rfl (fun K hK => ?_) AllReadyH.nil
          go_simp
          refine hK.out _ _ ⟨sH, sS⟩ (fun hHeld => ?_)
          simp only [Act.put, List.setIfInBounds_toArray, List.set_cons_zero, List.set_cons_succ]
          refine wpAnyH_done (by kernel_rfl) ?_ _
          exact HEND.out
      case done =>
        intro g X hR hD
        obtain ⟨q1, q2, ⟨vs, q3⟩, q4⟩ := hR
        obtain ⟨t1, t2, t3, t4⟩ := HT.out X q4
        have hgh := HL.out.1.gh
        have hlo := HL.out.1.lo
        have hjj := HL.out.2
        have hs0 := HS.out.2.2.2.1
        have hHl := HL.out.1.out.lt
        have hGl : G < W1.heap.size := by
          obtain ⟨vs, hv⟩ := HL.out.1.rows
          exact hv.blk.lt
        have hk1 := HL.out.1.keeps.size
        have hbl : ∀ b ∈ bs, b < W1.heap.size := fun b hb => (Array.getElem?_eq_some_iff.1 (HL.out.1.marks.2 b hb)).1
        have HN : Hid (LR w X H G (X0.heap.size :: bs) (fun i => if i < j + 1 then st i else []) ∧ j < 4) := by
          refine ⟨⟨t2, ⟨vs, (q3.same fun i hi => ?_).mono fun b hb hlt => ⟨hb.1.1, hb.1.2.1, ?_⟩⟩, t1, ⟨List.nodup_cons.2 ⟨fun hm => ?_, t4.1⟩, ?_⟩, ?_, hgh⟩, hjj⟩
          · by_cases e : i < j
            · simp [e]; intro h; omega
            · by_cases e2 : i = j
              · subst e2; simp
              · have e3 : ¬ i < j + 1 := by omega
                simp [e, e2, e3]
          · simp only [List.mem_cons, not_or]
            exact ⟨by rcases hb.2 with h | h <;> omega, hb.1.2.2.1⟩
          · have := hbl _ hm; omega
          · intro b hb
            rcases List.mem_cons.1 hb with rfl | hb
            · exact hD
            · exact t4.2 b hb
          · intro b hb
            rcases List.mem_cons.1 hb with rfl | hb
            · omega
            · exact hlo b hb
        clear q1 q2 q3 q4 t1 t2 t3 t4 hgh hlo hjj hs0 hHl hGl hk1 hbl hD HS HT HL
        gi_wp2
        go_wp2
        have ej : (j : Int) + 1 = ((j + 1 : Nat) : Int) := by omega
        simp only [ej]
        refine ⟨⟨j + 1, X0.heap.size :: bs, _, _, _, _, _, _, _, _, _, _, _, _, _, _, _, _, _, _, _, _, _, rfl, by have := HN.out.2; omega, HN.out.1⟩, ?_⟩
        have := HN.out.2
        simp [intOf]
        omega
    · obtain rfl : j = 4 := by omega
      have c0 := hL.out.cell (i := 0) rfl
      have HL : Hid (LR w W1 H G bs (fun i => if i < 4 then st i else [])) := hL
      clear hL hj hlt
      go_wp2
      refine leaves_marks bs W1 HL.out.marks fun w' hK => ?_
      obtain ⟨vs, hv⟩ := HL.out.rows
      have hlo := HL.out.lo
      have hgh := HL.out.gh
      refine ⟨_, results_tmp rfl _ _ _, G, vs, rfl, ?_, hgh.1, HL.out.keeps.trans hK fun b hb hm => by have := hlo b hm; omega⟩
      refine ((hv.same fun i hi => ?_).kept hK (fun hm => (hlo G hm).2.2 rfl) fun b hb hm => hb.2.2 hm).mono fun b hb _ => hb.1
      simp [hi]

theorem lines_any (c : Nat) (st : Nat → List Int) (F : Nat → Prop) (w : World) (h : Ca w c st F) :
    Calls Tryz.prog 62 #[ptr c] w fun r w' => ∃ G vs, r = .returned (.slice (some ⟨G, 0, none⟩) 4 4) ∧ Four w' G vs st (fun b => w.heap.size ≤ b) ∧ w.heap.size ≤ G ∧ Keeps (fun _ => False) w w' := by
  have hf := h.fits
  obtain ⟨s, Fs, h1, h2, h3, h4⟩ := h
  have hc : ∀ i, i < 4 → w.cell? ⟨c, i, none⟩ = some (ptr (s i)) := fun i hi => h1.blk.cell (by rw [slots_get s hi, if_pos hi])
  exact lines_walk c s st w (hc 0 (by omega)) (hc 1 (by omega)) (hc 2 (by omega)) (hc 3 (by omega)) fun i hi => ⟨hf i hi, fun W hK => ⟨Fs i, (h1.sf i hi).kept hK fun _ _ h => h⟩⟩

end Go.Proofs.YtipejahmjdamjaaGreatDoor.Ch
namespace Go.Proofs.YtipejahmjdamjaaGreatDoor.Ch
open Go.RowKit Go.Shelf
set_option linter.unusedVariables false
set_option maxRecDepth 6000

theorem step_other {l i : Nat} {st : Nat → List Int} (h : i ≠ l % 4) : step l st i = st i := by unfold step; rw [if_neg h]
theorem step_same (l : Nat) (st : Nat → List Int) : step l st (l % 4) = putL 2 (l : Int) (st (l % 4)) := by unfold step; rw [if_pos rfl]

/-- The lines are ones of their sets. -/
def Good (st : Nat → List Int) : Prop := ∀ i, i < 4 → ∀ z ∈ st i, 0 ≤ z ∧ z < 4096 ∧ z % 4 = (i : Int)
theorem good_none : Good (fun _ => []) := fun i hi z hz => by simp at hz
theorem mem_putL {k z : Int} {ks : List Int} (h : z ∈ putL 2 k ks) : z = k ∨ z ∈ ks := by
  unfold putL at h
  split at h
  · rcases List.mem_append.1 h with h | h
    · exact .inr (List.mem_of_mem_erase h)
    · exact .inl (by simpa using h)
  · split at h
    · rcases List.mem_append.1 h with h | h
      · exact .inr h
      · exact .inl (by simpa using h)
    · rcases List.mem_append.1 h with h | h
      · exact .inr (List.mem_of_mem_tail h)
      · exact .inl (by simpa using h)
theorem Good.step {st : Nat → List Int} (h : Good st) {l : Nat} (hl : l < 4096) : Good (step l st) := by
  intro i hi z hz
  by_cases e : i = l % 4
  · subst e
    rw [step_same] at hz
    rcases mem_putL hz with rfl | hz
    · omega
    · exact h _ hi z hz
  · rw [step_other e] at hz
    exact h i hi z hz

end Go.Proofs.YtipejahmjdamjaaGreatDoor.Ch
