import Derived.Test.YtipejahmjdamjaaGreatDoorTlSm
namespace Go.Proofs.YtipejahmjdamjaaGreatDoor
open Go.RowKit Go.Shelf
set_option linter.unusedVariables false
set_option linter.unusedSimpArgs false
set_option maxRecDepth 6000

/-! ### What a core tells that it holds -/
theorem exec_load_run {P : Program} {o : Oper} {ev : Operand → Value} {w : World} (ty : TypeId) (x : Operand) (a : Addr) (v : Value) (ho : o.op = .load ty x) (hx : ev x = .pointer (some a)) (h : (loadVar ty a).run P w = .ok v w) : (execOp ev o).run P w = .ok (.value v) w := by
  unfold execOp
  simp only [ho, hx, Instr.loadAt, Instr.sureAddr, Sem.run_bind, Sem.run_pure, Result.andThen_ok, h]
theorem Keeps.trans' {S : Nat → Prop} {w w1 w2 : World} (h : Keeps (fun _ => False) w w1) (h2 : Keeps S w1 w2) : Keeps S w w2 :=
  (h.mono fun _ _ h => h.elim).trans h2 fun _ _ h => h

theorem heldF_any (c tb cb : Nat) (rg : List UInt32) (pc : Nat) (ls : List Tl.Lf) (st : Nat → List Int) (FT FC : Nat → Prop) (w : World) (h : CoreAt w c tb cb rg pc ls st FT FC) :
    Calls Tryz.prog 30 #[ptr c] w fun e w' => ∃ G gv cap, e = .returned (.agg (heldL rg pc (.slice (some ⟨G, 0, none⟩) 4 4) (.slice (some ⟨gv, 0, none⟩) ls.length cap)).toArray) ∧ w'.ownsRow 0 64 3 (.slice (some ⟨gv, 0, none⟩) ls.length cap) ls.length (Tl.flatL ls) ∧ (∃ vs, Ch.Four w' G vs st (fun b => w.heap.size < b ∧ b < gv)) ∧ (w.heap.size < G ∧ G < gv ∧ w.heap.size < gv) ∧ Keeps (fun _ => False) w w' := by
  obtain ⟨W, hW⟩ : ∃ W, W = w.alloc (.cells heldZ.toArray 44) := ⟨_, rfl⟩
  have hK : Keeps (fun _ => False) w W := by rw [hW]; exact (Keeps.refl _ w).alloc _
  have hB : Blk W w.heap.size heldZ 44 := by rw [hW]; exact Blk.new w _ 44
  have hC := h.kept hK fun _ _ h => h
  have HLt : Hid (c < w.heap.size) := h.blk.lt
  have HX : Hid (Calls _ _ _ _ _) := context_any c tb cb rg pc ls st FT FC W.drew (hC.kept ((Keeps.refl (fun _ => False) W).drew) fun _ _ h => h)
  have HW : Hid (W = w.alloc (.cells heldZ.toArray 44)) := hW
  have HH : Hid (CoreAt W c tb cb rg pc ls st FT FC ∧ Keeps (fun _ => False) w W ∧ Blk W w.heap.size heldZ 44) := ⟨hC, hK, hB⟩
  clear h hK hB hC hW
  go_enter Tryz.func30, Tryz.ntmps30
  go_upto_region 3 with fail
  simp only [heldZ] at HW
  rw [← HW.out]
  have hS : (fun w' : World => w'.cell? ⟨c, 17, none⟩ = some (ptr tb) ∧ w'.cell? ⟨c, 18, none⟩ = some (ptr cb)) W.drew := ⟨HH.out.1.blk.cell (cs17 rg pc tb cb HH.out.1.len).1, HH.out.1.blk.cell (cs17 rg pc tb cb HH.out.1.len).2.1⟩
  refine wp_region_held_drew (S := (fun w' => w'.cell? ⟨c, 17, none⟩ = some (ptr tb) ∧ w'.cell? ⟨c, 18, none⟩ = some (ptr cb))) (by kernel_rfl) hS (fun hHeld => ?_)
  simp only [List.size_toArray, List.length_cons, List.length_nil, Nat.reduceAdd, Array.replicate_succ, Array.replicate_zero, List.push_toArray, List.append_toArray, List.nil_append, List.cons_append]
  refine tk 0 (ptr c) hHeld ?_
  simp only [Act.put, List.setIfInBounds_toArray, List.set_cons_zero, List.set_cons_succ]
  refine tk 2 (ptr c) hHeld ?_
  simp only [Act.put, List.setIfInBounds_toArray, List.set_cons_zero, List.set_cons_succ]
  refine tk 3 (ptr c) hHeld ?_
  simp only [Act.put, List.setIfInBounds_toArray, List.set_cons_zero, List.set_cons_succ]
  refine tk 4 (.pointer (some ⟨c, 18, none⟩)) hHeld ?_
  simp only [Act.put, List.setIfInBounds_toArray, List.set_cons_zero, List.set_cons_succ]
  refine tk 5 (ptr cb) hHeld ?_
  simp only [Act.put, List.setIfInBounds_toArray, List.set_cons_zero, List.set_cons_succ]
  refine tk 7 (ptr c) hHeld ?_
  simp only [Act.put, List.setIfInBounds_toArray, List.set_cons_zero, List.set_cons_succ]
  refine tk 8 (ptr c) hHeld ?_
  simp only [Act.put, List.setIfInBounds_toArray, List.set_cons_zero, List.set_cons_succ]
  refine tk 9 (.pointer (some ⟨c, 17, none⟩)) hHeld ?_
  simp only [Act.put, List.setIfInBounds_toArray, List.set_cons_zero, List.set_cons_succ]
  refine tk 10 (ptr tb) hHeld ?_
  simp only [Act.put, List.setIfInBounds_toArray, List.set_cons_zero, List.set_cons_succ]
  refine wpAnyH_ready (rs := [1]) (by kernel_rfl) (by simp) ?_
  refine AllReadyH.cons rfl (fun Kq hK => ?_) AllReadyH.nil
  go_simp
  refine HX.out.mono ?_
  rintro e w1 ⟨rfl, hK1'⟩
  have hK1 : Keeps (fun _ => False) W w1 := ((Keeps.refl (fun _ => False) W).drew).trans hK1' fun _ _ h => h
  clear hK1'
  have hC1 := HH.out.1.kept hK1 fun _ _ h => h
  have hS1 : (fun w' : World => w'.cell? ⟨c, 17, none⟩ = some (ptr tb) ∧ w'.cell? ⟨c, 18, none⟩ = some (ptr cb)) w1 := ⟨hC1.blk.cell (cs17 rg pc tb cb hC1.len).1, hC1.blk.cell (cs17 rg pc tb cb hC1.len).2.1⟩
  have HL : Hid (Calls _ _ _ _ _) := Ch.lines_any cb st FC w1 hC1.ca
  have HC1 : Hid (CoreAt w1 c tb cb rg pc ls st FT FC ∧ Keeps (fun _ => False) w w1 ∧ Blk w1 w.heap.size heldZ 44) := ⟨hC1, HH.out.2.1.trans hK1 fun _ _ h => h, HH.out.2.2.kept hK1 fun h => h⟩
  clear hC1 hK1 HX HH
  refine hK.out _ _ hS1 (fun hHeld => ?_)
  simp only [Act.put, List.setIfInBounds_toArray, List.set_cons_zero, List.set_cons_succ]
  refine wpAnyH_ready (rs := [6]) (by kernel_rfl) (by simp) ?_
  refine AllReadyH.cons rfl (fun Kq hK => ?_) AllReadyH.nil
  go_simp
  refine HL.out.mono ?_
  rintro e w2 ⟨G, vs, rfl, hF2, hG2, hK2⟩
  have hC2 := HC1.out.1.kept hK2 fun _ _ h => h
  have hS2 : (fun w' : World => w'.cell? ⟨c, 17, none⟩ = some (ptr tb) ∧ w'.cell? ⟨c, 18, none⟩ = some (ptr cb)) w2 := ⟨hC2.blk.cell (cs17 rg pc tb cb hC2.len).1, hC2.blk.cell (cs17 rg pc tb cb hC2.len).2.1⟩
  have HLe : Hid (Calls _ _ _ _ _) := Tl.leaves_any tb ls FT w2 hC2.tl
  have HD2 : Hid (CoreAt w2 c tb cb rg pc ls st FT FC ∧ c < w.heap.size) := ⟨hC2, HLt.out⟩
  have HC2 : Hid (rg.length = 16 ∧ Keeps (fun _ => False) w w2 ∧ Blk w2 w.heap.size heldZ 44) := ⟨hC2.len, HC1.out.2.1.trans hK2 fun _ _ h => h, HC1.out.2.2.kept hK2 fun h => h⟩
  have hsz1 : w.heap.size + 1 ≤ w1.heap.size := by
    have hb1 := HC1.out.2.2.lt
    omega
  have HF : Hid (Ch.Four w2 G vs st (fun b => w1.heap.size ≤ b) ∧ w1.heap.size ≤ G ∧ w.heap.size < w1.heap.size) := ⟨hF2, hG2, by omega⟩
  clear hC2 HL HC1 hF2 hG2 hsz1
  refine hK.out _ _ hS2 (fun hHeld => ?_)
  simp only [Act.put, List.setIfInBounds_toArray, List.set_cons_zero, List.set_cons_succ]
  refine wpAnyH_ready (rs := [11]) (by kernel_rfl) (by simp) ?_
  refine AllReadyH.cons rfl (fun Kq hK => ?_) AllReadyH.nil
  go_simp
  refine HLe.out.mono ?_
  rintro e w3 ⟨v, rfl, hO, ⟨gv, hgv, hlt⟩, hK3⟩
  obtain ⟨cap, rfl⟩ : ∃ cap, v = .slice (some ⟨gv, 0, none⟩) ls.length cap := by
    rcases hO.2 with ⟨rfl, _⟩ | ⟨g', cap, cur, rfl, _⟩
    · simp [Value.ownBlock] at hgv
    · simp [Value.ownBlock] at hgv
      subst hgv
      exact ⟨cap, rfl⟩
  obtain ⟨V, eV⟩ : ∃ V, V = heldL rg pc (.slice (some ⟨G, 0, none⟩) 4 4) (.slice (some ⟨gv, 0, none⟩) ls.length cap) := ⟨_, rfl⟩
  have hl19 : V.length = 19 := by rw [eV]; exact heldL_len HC2.out.1 _ _ _
  have hB3 := HC2.out.2.2.kept hK3 fun h => h
  have HBu : Hid (Tryz.prog.built 44 [(0, .agg (ctx rg pc).toArray), (1, .slice (some ⟨G, 0, none⟩) 4 4), (2, .slice (some ⟨gv, 0, none⟩) ls.length cap)] = some V.toArray) := by rw [eV]; exact built44 rg pc G gv ls.length cap HC2.out.1
  have HTh : Hid (w3.there w.heap.size 0 V.toArray.size ∧ (Tryz.prog.info? 44).map (·.size) = some V.toArray.size ∧ V.toArray.all (·.oneCell') = true) := by
    refine ⟨fun j hj => ⟨?_, hB3.frozen _⟩, by rw [List.size_toArray, hl19]; kernel_rfl, all_oneCell_toArray (by rw [eV]; exact heldL_one _ _ _ _ _ _)⟩
    have hj' : j < 19 := by simpa [hl19] using hj
    rw [hB3.cell (List.getElem?_eq_getElem (by simpa [heldZ] using hj'))]
    rfl
  have hB4 := blk_setCells (b := w.heap.size) (t := 44) V heldZ [] [] w3 hB3 (by rw [hl19]; rfl)
  have HE : Hid (Blk (w3.setCells w.heap.size 0 V.toArray.toList) w.heap.size V 44 ∧ Keeps (fun _ => False) w (w3.setCells w.heap.size 0 V.toArray.toList) ∧ (Tryz.prog.info? 44).map (·.size) = some V.length ∧ (w3.setCells w.heap.size 0 V.toArray.toList).ownsRow 0 64 3 (.slice (some ⟨gv, 0, none⟩) ls.length cap) ls.length (Tl.flatL ls) ∧ V = heldL rg pc (.slice (some ⟨G, 0, none⟩) 4 4) (.slice (some ⟨gv, 0, none⟩) ls.length cap) ∧ (∃ vs, Ch.Four (w3.setCells w.heap.size 0 V.toArray.toList) G vs st (fun b => w.heap.size < b ∧ b < gv)) ∧ (w.heap.size < G ∧ G < gv ∧ w.heap.size < gv)) := by
    have hk3 : Keeps (fun _ => False) w w3 := HC2.out.2.1.trans hK3 fun _ _ h => h
    have hks := keeps_setCells w.heap.size V.toArray.toList 0 w3
    have hsz := HC2.out.2.1.size
    have hb := HC2.out.2.2.lt
    obtain ⟨hF, hG1, hw1⟩ := HF.out
    have hGl := hF.blk.lt
    have hk23 : Keeps (fun k => k = w.heap.size) w2 (w3.setCells w.heap.size 0 V.toArray.toList) := hK3.trans' hks
    refine ⟨by simpa using hB4, hk3.trans hks fun k hk e => by omega, by rw [hl19]; kernel_rfl, Tl.owns_kept hO hks fun k hk e => ?_, eV, ⟨vs, ?_⟩, by omega, by omega, by omega⟩
    · simp [Value.ownBlock] at hk
      omega
    · exact (hF.mono (D' := fun b => w.heap.size < b ∧ b < gv) fun b h1 h2 => ⟨by omega, by omega⟩).kept hk23 (by omega) fun b h1 h2 => by omega
  have hC3 := HD2.out.1.kept hK3 fun _ _ h => h
  have hS3 : (fun w' : World => w'.cell? ⟨c, 17, none⟩ = some (ptr tb) ∧ w'.cell? ⟨c, 18, none⟩ = some (ptr cb)) w3 := ⟨hC3.blk.cell (cs17 rg pc tb cb hC3.len).1, hC3.blk.cell (cs17 rg pc tb cb hC3.len).2.1⟩
  have hb4 := hC3.blk.kept (keeps_setCells w.heap.size V.toArray.toList 0 w3) (by have := HD2.out.2; show ¬ c = w.heap.size; omega)
  have hS4 : (fun w' : World => w'.cell? ⟨c, 17, none⟩ = some (ptr tb) ∧ w'.cell? ⟨c, 18, none⟩ = some (ptr cb)) (w3.setCells w.heap.size 0 V.toArray.toList) := ⟨hb4.cell (cs17 rg pc tb cb hC3.len).1, hb4.cell (cs17 rg pc tb cb hC3.len).2.1⟩
  clear hO hgv hlt hK3 hl19 hB3 hB4 HLe HC2 HD2 hC3 eV hb4 HF
  refine hK.out _ _ hS3 (fun hHeld => ?_)
  simp only [Act.put, List.setIfInBounds_toArray, List.set_cons_zero, List.set_cons_succ]
  refine tk 12 (.agg V.toArray) hHeld ?_ (hr := by (intro w _; refine exec_build rfl ?_ w; go_simp; exact HBu.out))
  simp only [Act.put, List.setIfInBounds_toArray, List.set_cons_zero, List.set_cons_succ]
  refine wpAnyH_ready (rs := [13]) (by kernel_rfl) (by simp) ?_
  refine AllReadyH.cons rfl (fun Kq hK => ?_) AllReadyH.nil
  refine (if_pos (by kernel_rfl)).mpr ?_
  refine wp_store_mid 44 (.tmp 2) (.tmp 18) rfl w.heap.size 0 V.toArray rfl rfl HTh.out.1 HTh.out.2.1 HTh.out.2.2 ?_
  refine hK.out _ _ hS4 (fun hHeld => ?_)
  simp only [Act.put, List.setIfInBounds_toArray, List.set_cons_zero, List.set_cons_succ]
  refine wpAnyH_done (by kernel_rfl) ?_ _
  clear hHeld
  go_wp2
  refine bodyPost_ret (results_cell_one (p := 2) (ty := 44) rfl _ _ ⟨w.heap.size, 0, none⟩ _ rfl (load_blk HE.out.1 44 _ Tryz.underlying44 rfl HE.out.2.2.1)) rfl ?_
  obtain ⟨_, e2, _, e4, e5, e6, e7⟩ := HE.out
  exact ⟨G, gv, cap, by rw [e5], e4, e6, e7, e2⟩


/-- The rows of a cache. -/
def rows (st : Nat → List Int) : List (List Int) := [st 0, st 1, st 2, st 3]

/-- What can be read of what is held. -/
def HR (w : World) (lls : List (List Int)) (ls : List Tl.Lf) (l v : Value) : Prop :=
  ∃ la lc va vc, l = .slice la lls.length lc ∧ v = .slice va ls.length vc ∧ Ch.SegL w la lls ∧ Tl.SegL w va ls ∧ (ls.length ≤ vc ∧ vc ≤ maxLen)
theorem HR.kept {w w' : World} {lls : List (List Int)} {ls : List Tl.Lf} {l v : Value} (h : HR w lls ls l v) (hK : Keeps (fun _ => False) w w') : HR w' lls ls l v := by
  obtain ⟨la, lc, va, vc, h1, h2, h3, h4, h5⟩ := h
  exact ⟨la, lc, va, vc, h1, h2, h3.kept hK, h4.kept hK fun _ _ h => h, h5⟩
theorem HR.of {w : World} {G gv n : Nat} {vs : Nat → Value} {st : Nat → List Int} {ls : List Tl.Lf} {v : Value} {cl : Nat} (h1 : Ch.Lst w G vs st) (hf : ∀ i, i < 4 → (st i).length ≤ 2) (h2 : w.ownsRow 0 64 3 v ls.length (Tl.flatL ls)) : HR w (rows st) ls (.slice (some ⟨G, 0, none⟩) 4 cl) v := by
  obtain ⟨a, cap, e, h3, h4, _, h5⟩ := Tl.row_val h2
  exact ⟨_, _, a, cap, rfl, e, Ch.Four.segL (D := fun _ => False) h1 hf, h5, h3, by unfold maxLen; omega⟩

theorem built44gx (r0 r1 r2 r3 r4 r5 r6 r7 r8 r9 r10 r11 r12 r13 r14 r15 : UInt32) (pc : Nat) (a1 a2 : Option Addr) (n1 c1 n2 c2 : Nat) :
    Tryz.prog.built 44 [(0, .agg (ctx [r0, r1, r2, r3, r4, r5, r6, r7, r8, r9, r10, r11, r12, r13, r14, r15] pc).toArray), (1, .slice a1 n1 c1), (2, .slice a2 n2 c2)] = some (heldL [r0, r1, r2, r3, r4, r5, r6, r7, r8, r9, r10, r11, r12, r13, r14, r15] pc (.slice a1 n1 c1) (.slice a2 n2 c2)).toArray := by kernel_rfl
theorem sixteen {rg : List UInt32} (h : rg.length = 16) : ∃ r0 r1 r2 r3 r4 r5 r6 r7 r8 r9 r10 r11 r12 r13 r14 r15, rg = [r0, r1, r2, r3, r4, r5, r6, r7, r8, r9, r10, r11, r12, r13, r14, r15] := by
  match rg, h with
  | [r0, r1, r2, r3, r4, r5, r6, r7, r8, r9, r10, r11, r12, r13, r14, r15], _ => exact ⟨r0, r1, r2, r3, r4, r5, r6, r7, r8, r9, r10, r11, r12, r13, r14, r15, rfl⟩
theorem built44g (rg : List UInt32) (pc : Nat) (a1 a2 : Option Addr) (n1 c1 n2 c2 : Nat) (hl : rg.length = 16) :
    Tryz.prog.built 44 [(0, .agg (ctx rg pc).toArray), (1, .slice a1 n1 c1), (2, .slice a2 n2 c2)] = some (heldL rg pc (.slice a1 n1 c1) (.slice a2 n2 c2)).toArray := by
  obtain ⟨r0, r1, r2, r3, r4, r5, r6, r7, r8, r9, r10, r11, r12, r13, r14, r15, rfl⟩ := sixteen hl
  exact built44gx _ _ _ _ _ _ _ _ _ _ _ _ _ _ _ _ _ _ _ _ _ _ _
theorem heldL_oneg (rg : List UInt32) (pc : Nat) (a1 a2 : Option Addr) (n1 c1 n2 c2 : Nat) : ∀ v ∈ heldL rg pc (.slice a1 n1 c1) (.slice a2 n2 c2), v.oneCell' = true := by
  intro v hv
  simp only [heldL, List.mem_append, List.mem_cons, List.not_mem_nil, or_false] at hv
  rcases hv with h | rfl | rfl
  · exact ctx_one rg pc v h
  · rfl
  · rfl

/-- The document's core. -/
structure RefAt (w : World) (r tb cb : Nat) (rg : List UInt32) (pc : Nat) (ls : List Tl.Lf) (us : List Int) (GT GC : Nat → Prop) : Prop where
  blk : Blk w r (coreCells rg pc tb cb) 98
  len : rg.length = 16
  tl : Tl.Rf w tb ls GT
  ca : ∃ u, Ch.Rc w cb us u GC
  pos : ∀ x ∈ us, 0 ≤ x
  gt : ∀ k, GT k → k ≠ r ∧ ¬ GC k
  gc : ∀ k, GC k → k ≠ r
  pcl : pc < 4294967296
theorem RefAt.kept {S : Nat → Prop} {w w' : World} {r tb cb : Nat} {rg : List UInt32} {pc : Nat} {ls : List Tl.Lf} {us : List Int} {GT GC : Nat → Prop} (h : RefAt w r tb cb rg pc ls us GT GC) (hK : Keeps S w w') (hn : ∀ k, (k = r ∨ GT k ∨ GC k) → ¬ S k) : RefAt w' r tb cb rg pc ls us GT GC := by
  obtain ⟨u, hu⟩ := h.ca
  exact ⟨h.blk.kept hK (hn _ (.inl rfl)), h.len, h.tl.kept hK fun b hb => hn _ (.inr (.inl hb)), ⟨u, hu.kept hK fun b hb => hn _ (.inr (.inr hb))⟩, h.pos, h.gt, h.gc, h.pcl⟩
theorem RefAt.lt {w : World} {r tb cb : Nat} {rg : List UInt32} {pc : Nat} {ls : List Tl.Lf} {us : List Int} {GT GC : Nat → Prop} (h : RefAt w r tb cb rg pc ls us GT GC) : ∀ k, (k = r ∨ GT k ∨ GC k) → k < w.heap.size := by
  obtain ⟨u, hu⟩ := h.ca
  rintro k (rfl | h1 | h1)
  · exact h.blk.lt
  · exact h.tl.lt k h1
  · exact hu.lt k h1

theorem ctx_get (rg : List UInt32) (pc tb cb : Nat) (h : rg.length = 16) {j : Nat} {v : Value} (hv : (ctx rg pc)[j]? = some v) : (coreCells rg pc tb cb)[j]? = some v := by
  unfold coreCells
  rw [List.getElem?_append_left (List.getElem?_eq_some_iff.1 hv).1]
  exact hv
theorem info40 {rg : List UInt32} (h : rg.length = 16) (pc : Nat) : (Tryz.prog.info? 40).map (·.size) = some (ctx rg pc).length := by rw [ctx_len h]; kernel_rfl
theorem two_hd {us : List Int} (i : Nat) : (Ch.hd (i : Int) us).length ≤ 2 := by
  unfold Ch.hd Ch.lastTwo
  rw [List.length_drop]
  omega

set_option maxHeartbeats 4000000 in
theorem refHeld_any (r tb cb : Nat) (rg : List UInt32) (pc : Nat) (ls : List Tl.Lf) (us : List Int) (GT GC : Nat → Prop) (w : World) (h : RefAt w r tb cb rg pc ls us GT GC) :
    Calls Tryz.prog 48 #[ptr r] w fun e w' => ∃ l v, e = .returned (.agg (heldL rg pc l v).toArray) ∧ HR w' (rows fun i => Ch.hd (i : Int) us) ls l v ∧ Keeps (fun _ => False) w w' := by
  obtain ⟨u, hu⟩ := h.ca
  obtain ⟨W, hW⟩ : ∃ W, W = w.alloc (.cells heldZ.toArray 44) := ⟨_, rfl⟩
  have hK : Keeps (fun _ => False) w W := by rw [hW]; exact (Keeps.refl _ w).alloc _
  have hB : Blk W w.heap.size heldZ 44 := by rw [hW]; exact Blk.new w _ 44
  have HLt : Hid (r < w.heap.size) := h.blk.lt
  have HW : Hid (W = w.alloc (.cells heldZ.toArray 44)) := hW
  have hC := h.kept hK fun _ _ h => h
  have hU := hu.kept hK fun _ _ h => h
  have HH : Hid (RefAt W r tb cb rg pc ls us GT GC ∧ Keeps (fun _ => False) w W ∧ Blk W w.heap.size heldZ 44 ∧ Ch.Rc W cb us u GC) := ⟨hC, hK, hB, hU⟩
  have HL : Hid (Calls _ _ _ _ _) := Ch.linesR_any cb us u GC W.drew (hU.kept ((Keeps.refl (fun _ => False) W).drew) fun _ _ h => h) h.pos
  clear h hK hB hC hW hU hu
  go_enter Tryz.func48, Tryz.ntmps48
  go_upto_region 1 with fail
  simp only [heldZ] at HW
  rw [← HW.out]
  have hS : (fun w' : World => Blk w' r (coreCells rg pc tb cb) 98) W.drew := HH.out.1.blk.kept ((Keeps.refl (fun _ => False) W).drew) fun h => h
  refine wp_region_held_drew (S := (fun w' : World => Blk w' r (coreCells rg pc tb cb) 98)) (by kernel_rfl) hS (fun hHeld => ?_)
  simp only [List.size_toArray, List.length_cons, List.length_nil, Nat.reduceAdd, Array.replicate_succ, Array.replicate_zero, List.push_toArray, List.append_toArray, List.nil_append, List.cons_append]
  refine tk 0 (ptr r) hHeld ?_
  simp only [Act.put, List.setIfInBounds_toArray, List.set_cons_zero, List.set_cons_succ]
  refine tk 1 (ptr r) hHeld ?_
  simp only [Act.put, List.setIfInBounds_toArray, List.set_cons_zero, List.set_cons_succ]
  refine tk 2 (.pointer (some ⟨r, 0, none⟩)) hHeld ?_
  simp only [Act.put, List.setIfInBounds_toArray, List.set_cons_zero, List.set_cons_succ]
  refine tk 3 (.agg (ctx rg pc).toArray) hHeld ?_ (hr := by
    intro w hSw
    have h := run_loadVar_mid (P := Tryz.prog) w r 0 40 (ctx rg pc) _ (fun j v hv => by rw [Nat.zero_add]; exact Blk.cell hSw (ctx_get rg pc tb cb HH.out.1.len hv)) Tryz.underlying40 rfl (info40 HH.out.1.len pc)
    exact exec_load_run 40 (.tmp 5) ⟨r, 0, none⟩ _ rfl rfl h)
  simp only [Act.put, List.setIfInBounds_toArray, List.set_cons_zero, List.set_cons_succ]
  refine tk 4 (ptr r) hHeld ?_
  simp only [Act.put, List.setIfInBounds_toArray, List.set_cons_zero, List.set_cons_succ]
  refine tk 5 (ptr r) hHeld ?_
  simp only [Act.put, List.setIfInBounds_toArray, List.set_cons_zero, List.set_cons_succ]
  refine tk 6 (.pointer (some ⟨r, 18, none⟩)) hHeld ?_
  simp only [Act.put, List.setIfInBounds_toArray, List.set_cons_zero, List.set_cons_succ]
  refine tk 7 (ptr cb) hHeld ?_ (hr := by
    intro w hSw
    have h := Blk.cell hSw (cs17 rg pc tb cb HH.out.1.len).2.1
    go_simp)
  simp only [Act.put, List.setIfInBounds_toArray, List.set_cons_zero, List.set_cons_succ]
  refine tk 9 (ptr r) hHeld ?_
  simp only [Act.put, List.setIfInBounds_toArray, List.set_cons_zero, List.set_cons_succ]
  refine tk 10 (ptr r) hHeld ?_
  simp only [Act.put, List.setIfInBounds_toArray, List.set_cons_zero, List.set_cons_succ]
  refine tk 11 (.pointer (some ⟨r, 17, none⟩)) hHeld ?_
  simp only [Act.put, List.setIfInBounds_toArray, List.set_cons_zero, List.set_cons_succ]
  refine tk 12 (ptr tb) hHeld ?_ (hr := by
    intro w hSw
    have h := Blk.cell hSw (cs17 rg pc tb cb HH.out.1.len).1
    go_simp)
  simp only [Act.put, List.setIfInBounds_toArray, List.set_cons_zero, List.set_cons_succ]
  refine wpAnyH_ready (rs := [8]) (by kernel_rfl) (by simp) ?_
  refine AllReadyH.cons rfl (fun Kq hK => ?_) AllReadyH.nil
  go_simp
  refine HL.out.mono ?_
  rintro e w1 ⟨G, vs, cl, rfl, hLD, hK1'⟩
  have hK1 : Keeps (fun _ => False) W w1 := ((Keeps.refl (fun _ => False) W).drew).trans hK1' fun _ _ h => h
  clear hK1'
  have hC1 := HH.out.1.kept hK1 fun _ _ h => h
  have hS1 : (fun w' : World => Blk w' r (coreCells rg pc tb cb) 98) w1 := hC1.blk
  have HLe : Hid (Calls _ _ _ _ _) := Tl.leavesR_any tb ls GT w1 hC1.tl
  have HC2 : Hid (rg.length = 16 ∧ Keeps (fun _ => False) w w1 ∧ Blk w1 w.heap.size heldZ 44 ∧ RefAt w1 r tb cb rg pc ls us GT GC ∧ Ch.Lst w1 G vs (fun (i : Nat) => Ch.hd (i : Int) us) ∧ G ≠ w.heap.size ∧ ∀ (i : Nat), i < 4 → ∀ a n c, vs i = .slice a n c → ∀ x, a = some x → x.block ≠ w.heap.size) := by
    refine ⟨hC1.len, HH.out.2.1.trans hK1 fun _ _ h => h, HH.out.2.2.1.kept hK1 fun h => h, hC1, hLD.lst, ?_, ?_⟩
    · have h1 := hLD.g
      have h2 := HH.out.2.2.1.lt
      have h3 : W.drew.heap.size = W.heap.size := rfl
      omega
    · intro i hi a n c e x ex
      have h1 := hLD.s i hi a n c e x ex
      have h2 := HH.out.2.2.1.lt
      have h3 : W.drew.heap.size = W.heap.size := rfl
      omega
  clear hC1 HL HH hLD hK1
  refine hK.out _ _ hS1 (fun hHeld => ?_)
  simp only [Act.put, List.setIfInBounds_toArray, List.set_cons_zero, List.set_cons_succ]
  refine wpAnyH_ready (rs := [13]) (by kernel_rfl) (by simp) ?_
  refine AllReadyH.cons rfl (fun Kq hK => ?_) AllReadyH.nil
  go_simp
  refine HLe.out.mono ?_
  rintro e w3 ⟨v, rfl, hO, hgv, hK3⟩
  obtain ⟨va, vc, rfl, hv1, hv2, hv3, hv4⟩ := Tl.row_val hO
  obtain ⟨V, eV⟩ : ∃ V, V = heldL rg pc (.slice (some ⟨G, 0, none⟩) 4 cl) (.slice va ls.length vc) := ⟨_, rfl⟩
  have hl19 : V.length = 19 := by rw [eV]; exact heldL_len HC2.out.1 _ _ _
  have hB3 := HC2.out.2.2.1.kept hK3 fun h => h
  have HBu : Hid (Tryz.prog.built 44 [(0, .agg (ctx rg pc).toArray), (1, .slice (some ⟨G, 0, none⟩) 4 cl), (2, .slice va ls.length vc)] = some V.toArray) := by rw [eV]; exact built44g rg pc _ _ _ _ _ _ HC2.out.1
  have HTh : Hid (w3.there w.heap.size 0 V.toArray.size ∧ (Tryz.prog.info? 44).map (·.size) = some V.toArray.size ∧ V.toArray.all (·.oneCell') = true) := by
    refine ⟨fun j hj => ⟨?_, hB3.frozen _⟩, by rw [List.size_toArray, hl19]; kernel_rfl, all_oneCell_toArray (by rw [eV]; exact heldL_oneg _ _ _ _ _ _ _ _)⟩
    have hj' : j < 19 := by simpa [hl19] using hj
    rw [hB3.cell (List.getElem?_eq_getElem (by simpa [heldZ] using hj'))]
    rfl
  have hB4 := blk_setCells (b := w.heap.size) (t := 44) V heldZ [] [] w3 hB3 (by rw [hl19]; rfl)
  have HE : Hid (Blk (w3.setCells w.heap.size 0 V.toArray.toList) w.heap.size V 44 ∧ Keeps (fun _ => False) w (w3.setCells w.heap.size 0 V.toArray.toList) ∧ (Tryz.prog.info? 44).map (·.size) = some V.length ∧ V = heldL rg pc (.slice (some ⟨G, 0, none⟩) 4 cl) (.slice va ls.length vc) ∧ HR (w3.setCells w.heap.size 0 V.toArray.toList) (rows fun i => Ch.hd (i : Int) us) ls (.slice (some ⟨G, 0, none⟩) 4 cl) (.slice va ls.length vc)) := by
    have hk3 : Keeps (fun _ => False) w w3 := HC2.out.2.1.trans hK3 fun _ _ h => h
    have hks := keeps_setCells w.heap.size V.toArray.toList 0 w3
    have hsz := HC2.out.2.1.size
    have hb := HC2.out.2.2.1.lt
    obtain ⟨_, _, _, _, hL, hG, hX⟩ := HC2.out
    have hk13 : Keeps (fun k => k = w.heap.size) w1 (w3.setCells w.heap.size 0 V.toArray.toList) := hK3.trans' hks
    refine ⟨by simpa using hB4, hk3.trans hks fun k hk e => by omega, by rw [hl19]; kernel_rfl, eV, HR.of (vs := vs) (gv := 0) (n := 0) ⟨fun i hi => ?_, fun i hi => ?_⟩ (fun i hi => two_hd i) (Tl.owns_kept hO hks fun k hk e => ?_)⟩
    · exact Ch.cell_kept (hL.cell i hi) hk13 hG
    · obtain ⟨a, c, e1, e2, e3⟩ := hL.seg i hi
      exact ⟨a, c, e1, e2.kept hk13 (hX i hi a _ c e1), e3⟩
    · have := hgv k hk
      omega
  have hC3 := HC2.out.2.2.2.1.kept hK3 fun _ _ h => h
  have hS3 : (fun w' : World => Blk w' r (coreCells rg pc tb cb) 98) w3 := hC3.blk
  have hS4 : (fun w' : World => Blk w' r (coreCells rg pc tb cb) 98) (w3.setCells w.heap.size 0 V.toArray.toList) := hC3.blk.kept (keeps_setCells w.heap.size V.toArray.toList 0 w3) (by have := HLt.out; show ¬ r = w.heap.size; omega)
  clear hO hgv hK3 hl19 hB3 hB4 HLe HC2 hC3 eV hv1 hv2 hv3 hv4
  refine hK.out _ _ hS3 (fun hHeld => ?_)
  simp only [Act.put, List.setIfInBounds_toArray, List.set_cons_zero, List.set_cons_succ]
  refine tk 14 (.agg V.toArray) hHeld ?_ (hr := by (intro w _; refine exec_build rfl ?_ w; go_simp; exact HBu.out))
  simp only [Act.put, List.setIfInBounds_toArray, List.set_cons_zero, List.set_cons_succ]
  refine wpAnyH_ready (rs := [15]) (by kernel_rfl) (by simp) ?_
  refine AllReadyH.cons rfl (fun Kq hK => ?_) AllReadyH.nil
  refine (if_pos (by kernel_rfl)).mpr ?_
  refine wp_store_mid 44 (.tmp 2) (.tmp 17) rfl w.heap.size 0 V.toArray rfl rfl HTh.out.1 HTh.out.2.1 HTh.out.2.2 ?_
  refine hK.out _ _ hS4 (fun hHeld => ?_)
  simp only [Act.put, List.setIfInBounds_toArray, List.set_cons_zero, List.set_cons_succ]
  refine wpAnyH_done (by kernel_rfl) ?_ _
  clear hHeld
  go_wp2
  refine bodyPost_ret (results_cell_one (p := 2) (ty := 44) rfl _ _ ⟨w.heap.size, 0, none⟩ _ rfl (load_blk HE.out.1 44 _ Tryz.underlying44 rfl HE.out.2.2.1)) rfl ?_
  obtain ⟨_, e2, _, e4, e5⟩ := HE.out
  exact ⟨_, _, by rw [e4], e5, e2⟩

end Go.Proofs.YtipejahmjdamjaaGreatDoor
namespace Go.Proofs.YtipejahmjdamjaaGreatDoor
open Go.RowKit Go.Shelf
set_option linter.unusedVariables false
set_option linter.unusedSimpArgs false
set_option maxRecDepth 6000

theorem heldL_get (rg : List UInt32) (pc : Nat) (l v : Value) (h : rg.length = 16) : (heldL rg pc l v)[17]? = some l ∧ (heldL rg pc l v)[18]? = some v := by
  obtain ⟨r0, r1, r2, r3, r4, r5, r6, r7, r8, r9, r10, r11, r12, r13, r14, r15, rfl⟩ := sixteen h
  exact ⟨rfl, rfl⟩
theorem heldL_ctx (rg : List UInt32) (pc : Nat) (l v : Value) {j : Nat} {x : Value} (hv : (ctx rg pc)[j]? = some x) : (heldL rg pc l v)[j]? = some x := by
  unfold heldL
  rw [List.getElem?_append_left (List.getElem?_eq_some_iff.1 hv).1]
  exact hv

set_option maxHeartbeats 4000000 in
theorem sameHeld_any (rg : List UInt32) (pc : Nat) (lls : List (List Int)) (ls : List Tl.Lf) (l1 v1 l2 v2 : Value) (w : World) (hl : rg.length = 16) (hp : pc < 4294967296) (h1 : HR w lls ls l1 v1) (h2 : HR w lls ls l2 v2) (hm : (lls.length : Int) ≤ 2147483647) :
    Calls Tryz.prog 29 #[.agg (heldL rg pc l1 v1).toArray, .agg (heldL rg pc l2 v2).toArray] w fun e w' => e = .returned (.bool true) ∧ Keeps (fun _ => False) w w' := by
  obtain ⟨V1, eV1⟩ : ∃ V, V = heldL rg pc l1 v1 := ⟨_, rfl⟩
  obtain ⟨V2, eV2⟩ : ∃ V, V = heldL rg pc l2 v2 := ⟨_, rfl⟩
  obtain ⟨W1, eW1⟩ : ∃ W, W = w.alloc (.cells V1.toArray 44) := ⟨_, rfl⟩
  obtain ⟨W2, eW2⟩ : ∃ W, W = W1.alloc (.cells V2.toArray 44) := ⟨_, rfl⟩
  obtain ⟨b1, eb1⟩ : ∃ b, b = w.heap.size := ⟨_, rfl⟩
  obtain ⟨b2, eb2⟩ : ∃ b, b = W1.heap.size := ⟨_, rfl⟩
  rw [← eV1, ← eV2]
  have k1 : Keeps (fun _ => False) w W1 := by rw [eW1]; exact (Keeps.refl _ w).alloc _
  have k2 : Keeps (fun _ => False) W1 W2 := by rw [eW2]; exact (Keeps.refl _ W1).alloc _
  have hB1 : Blk W1 b1 V1 44 := by rw [eW1, eb1]; simpa using Blk.new w V1.toArray 44
  have hB2 : Blk W2 b2 V2 44 := by rw [eW2, eb2]; simpa using Blk.new W1 V2.toArray 44
  have hB1' := hB1.kept k2 fun h => h
  have hs2 : W2.heap.size = W1.heap.size + 1 := by rw [eW2]; simp
  have HR1 : Hid (W2.rangeAt b1 0 (ctx rg pc) ∧ W2.rangeAt b2 0 (ctx rg pc) ∧ (Tryz.prog.info? 40).map (·.size) = some (ctx rg pc).length) :=
    ⟨fun j v hv => by rw [Nat.zero_add]; exact hB1'.cell (by rw [eV1]; exact heldL_ctx rg pc _ _ hv), fun j v hv => by rw [Nat.zero_add]; exact hB2.cell (by rw [eV2]; exact heldL_ctx rg pc _ _ hv), info40 hl pc⟩
  have HEq : Hid (∀ w' : World, (binOp .eql 40 (.agg (ctx rg pc).toArray) (.agg (ctx rg pc).toArray)).run Tryz.prog w' = .ok (.bool true) w') := eql_ctx rg pc hl hp
  have c1 : W2.cell? ⟨b1, 17, none⟩ = some l1 := hB1'.cell (by rw [eV1]; exact (heldL_get rg pc _ _ hl).1)
  have c2 : W2.cell? ⟨b2, 17, none⟩ = some l2 := hB2.cell (by rw [eV2]; exact (heldL_get rg pc _ _ hl).1)
  have d1 : W2.cell? ⟨b1, 18, none⟩ = some v1 := hB1'.cell (by rw [eV1]; exact (heldL_get rg pc _ _ hl).2)
  have d2 : W2.cell? ⟨b2, 18, none⟩ = some v2 := hB2.cell (by rw [eV2]; exact (heldL_get rg pc _ _ hl).2)
  have kk : Keeps (fun _ => False) w W2 := k1.trans k2 fun _ _ h => h
  obtain ⟨la1, lc1, va1, vc1, rfl, rfl, s1, t1, u1⟩ := h1.kept kk
  obtain ⟨la2, lc2, va2, vc2, rfl, rfl, s2, t2, u2⟩ := h2.kept kk
  have HC1 : Hid (Calls _ _ _ _ _) := sameLines_any la1 la2 lls lc1 lc2 W2 s1 s2 hm
  have HK : Hid (Keeps (fun _ => False) w W2 ∧ W2.cell? ⟨b1, 18, none⟩ = some (.slice va1 ls.length vc1) ∧ W2.cell? ⟨b2, 18, none⟩ = some (.slice va2 ls.length vc2) ∧ Tl.SegL W2 va1 ls ∧ Tl.SegL W2 va2 ls ∧ (ls.length ≤ vc1 ∧ vc1 ≤ maxLen) ∧ (ls.length ≤ vc2 ∧ vc2 ≤ maxLen)) := ⟨kk, d1, d2, t1, t2, u1, u2⟩
  have HW : Hid (W2 = (w.alloc (.cells V1.toArray 44)).alloc (.cells V2.toArray 44) ∧ b1 = w.heap.size ∧ b2 = w.heap.size + 1) := ⟨by rw [eW2, eW1], eb1, by rw [eb2, eW1]; simp⟩
  clear h1 h2 hm eV1 eV2 k1 k2 hB1 hB2 hB1' hs2 s1 s2 t1 t2 u1 u2 kk d1 d2 eW1 eW2 eb1 eb2
  go_enter Tryz.func29, Tryz.ntmps29
  go_upto_region 1 with fail
  rw [← HW.out.1, ← HW.out.2.2, ← HW.out.2.1]
  clear HW
  go_wp2_with (refine wpList_load_mid rfl 40 (.tmp 5) rfl b1 0 rfl (ctx rg pc) _ HR1.out.1 Tryz.underlying40 rfl HR1.out.2.2 ?_; refine Hid.out ?_)
  unfold Hid
  go_wp2_with (refine wpList_load_mid rfl 40 (.tmp 7) rfl b2 0 rfl (ctx rg pc) _ HR1.out.2.1 Tryz.underlying40 rfl HR1.out.2.2 ?_; refine Hid.out ?_)
  unfold Hid
  have heq := HEq.out
  clear HEq HR1
  go_wp2_with fail
  refine HC1.out.mono ?_
  rintro e w3 ⟨rfl, k3⟩
  have hk := HK.out
  have d1 := Ch.cell_kept hk.2.1 k3 fun h => h
  have d2 := Ch.cell_kept hk.2.2.1 k3 fun h => h
  have HC2 : Hid (Calls _ _ _ _ _) := Tl.sameL_any va1 va2 ls ls vc1 vc2 w3 hk.2.2.2.2.2.1 hk.2.2.2.2.2.2 (hk.2.2.2.1.kept k3 fun _ _ h => h) (hk.2.2.2.2.1.kept k3 fun _ _ h => h)
  have HK3 : Hid (Keeps (fun _ => False) w w3) := hk.1.trans k3 fun _ _ h => h
  clear HC1 HK hk k3 c1 c2
  go_wp2_with fail
  refine HC2.out.mono ?_
  rintro e w4 ⟨rfl, k4⟩
  have HK4 : Hid (Keeps (fun _ => False) w w4) := HK3.out.trans k4 fun _ _ h => h
  clear HK3 k4 d1 d2 HC2
  go_wp2
  go_ret
  exact ⟨rfl, HK4.out⟩

end Go.Proofs.YtipejahmjdamjaaGreatDoor
