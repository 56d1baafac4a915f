import Derived.Test.YtipejahmjdamjaaGreatDoorZa
namespace Go.Proofs.YtipejahmjdamjaaGreatDoor
open Go.RowKit Go.Shelf
set_option linter.unusedVariables false
set_option linter.unusedSimpArgs false
set_option maxRecDepth 6000

theorem tk {P : Program} {md : Region.Mode} {ops : Array Oper} {Q : Exit → Act → World → Prop} {S : World → Prop} {oi : Oper} {fuel : Nat} {listed : Array Bool} {a : Act} {w : World} (i : Nat) (v : Value) (hS : S w) (h : wpAnyH P md ops Q S fuel (listed.setIfInBounds i true) (a.put oi.dst v) w)
    (hi : ops[i]? = some oi := by (simp only [List.getElem?_toArray, List.getElem?_cons_succ, List.getElem?_cons_zero]; exact rfl))
    (hs : Region.noSelect ops = true := by kernel_rfl) (hf : Region.free md ops listed i = true := by kernel_rfl) (hc : (Region.ready md ops listed).contains i = true := by kernel_rfl)
    (hQ : ∀ c a w, Q (.panic c) (a.put oi.dst v) w → Q (.panic c) a w := by exact fun _ _ _ h => h) (hg : Region.wanted oi (yielded ops a.tmps) = true := by kernel_rfl)
    (hr : ∀ w, S w → (execOp a.eval oi).run P w = .ok (.value v) w := by (intro w hSw; (try dsimp only at hSw); go_simp; try omega)) : wpAnyH P md ops Q S (fuel + 1) listed a w :=
  wpAnyH_take hi hs hf hc hQ (Or.inl ⟨hg, hr⟩) hS h
theorem tn {P : Program} {md : Region.Mode} {ops : Array Oper} {Q : Exit → Act → World → Prop} {S : World → Prop} {oi : Oper} {fuel : Nat} {listed : Array Bool} {a : Act} {w : World} (i : Nat) (hS : S w) (h : wpAnyH P md ops Q S fuel (listed.setIfInBounds i true) (a.put oi.dst undef) w)
    (hi : ops[i]? = some oi := by (simp only [List.getElem?_toArray, List.getElem?_cons_succ, List.getElem?_cons_zero]; exact rfl))
    (hs : Region.noSelect ops = true := by kernel_rfl) (hf : Region.free md ops listed i = true := by kernel_rfl) (hc : (Region.ready md ops listed).contains i = true := by kernel_rfl)
    (hQ : ∀ c a w, Q (.panic c) (a.put oi.dst undef) w → Q (.panic c) a w := by exact fun _ _ _ h => h) (hg : Region.wanted oi (yielded ops a.tmps) = false := by kernel_rfl) : wpAnyH P md ops Q S (fuel + 1) listed a w :=
  wpAnyH_take hi hs hf hc hQ (Or.inr ⟨hg, rfl⟩) hS h

theorem exec_build {P : Program} {a : Act} {oi : Oper} {t : TypeId} {parts : Array (Nat × Operand)} {cells : Array Value} (ho : oi.op = .build t parts) (h : P.built t (parts.map fun (i, x) => (i, a.eval x)).toList = some cells) (w : World) : (execOp a.eval oi).run P w = .ok (.value (.agg cells)) w := by
  unfold execOp
  simp only [ho, Sem.run_bind, run_build w t _ cells h, Result.andThen_ok]
  rfl

def heldL (rg : List UInt32) (pc : Nat) (l v : Value) : List Value := ctx rg pc ++ [l, v]
def heldZ : List Value := [.int .u32 0, .int .u32 0, .int .u32 0, .int .u32 0, .int .u32 0, .int .u32 0, .int .u32 0, .int .u32 0, .int .u32 0, .int .u32 0, .int .u32 0, .int .u32 0, .int .u32 0, .int .u32 0, .int .u32 0, .int .u32 0, .int .u32 0, .slice none 0 0, .slice none 0 0]

theorem built44x (r0 r1 r2 r3 r4 r5 r6 r7 r8 r9 r10 r11 r12 r13 r14 r15 : UInt32) (pc G gv n cap : Nat) :
    Tryz.prog.built 44 [(0, .agg (ctx [r0, r1, r2, r3, r4, r5, r6, r7, r8, r9, r10, r11, r12, r13, r14, r15] pc).toArray), (1, .slice (some ⟨G, 0, none⟩) 4 4), (2, .slice (some ⟨gv, 0, none⟩) n cap)] = some (heldL [r0, r1, r2, r3, r4, r5, r6, r7, r8, r9, r10, r11, r12, r13, r14, r15] pc (.slice (some ⟨G, 0, none⟩) 4 4) (.slice (some ⟨gv, 0, none⟩) n cap)).toArray := by
  kernel_rfl
theorem built44 (rg : List UInt32) (pc G gv n cap : Nat) (hl : rg.length = 16) :
    Tryz.prog.built 44 [(0, .agg (ctx rg pc).toArray), (1, .slice (some ⟨G, 0, none⟩) 4 4), (2, .slice (some ⟨gv, 0, none⟩) n cap)] = some (heldL rg pc (.slice (some ⟨G, 0, none⟩) 4 4) (.slice (some ⟨gv, 0, none⟩) n cap)).toArray := by
  match rg, hl with
  | [r0, r1, r2, r3, r4, r5, r6, r7, r8, r9, r10, r11, r12, r13, r14, r15], _ => exact built44x r0 r1 r2 r3 r4 r5 r6 r7 r8 r9 r10 r11 r12 r13 r14 r15 pc G gv n cap

theorem heldL_len {rg : List UInt32} (h : rg.length = 16) (pc : Nat) (l v : Value) : (heldL rg pc l v).length = 19 := by simp [heldL, ctx_len h]
theorem heldL_one (rg : List UInt32) (pc G gv n cap : Nat) : ∀ v ∈ heldL rg pc (.slice (some ⟨G, 0, none⟩) 4 4) (.slice (some ⟨gv, 0, none⟩) n cap), v.oneCell' = true := fun v hv => by
  rcases List.mem_append.1 hv with e | e
  · exact ctx_one _ _ v e
  · simp at e; rcases e with rfl | rfl <;> rfl

set_option maxHeartbeats 4000000 in
/-- All that a core holds is told. -/
theorem held_any (c tb cb : Nat) (rg : List UInt32) (pc : Nat) (ls : List Tl.Lf) (st : Nat → List Int) (FT FC : Nat → Prop) (w : World) (h : CoreAt w c tb cb rg pc ls st FT FC) :
    Calls Tryz.prog 30 #[ptr c] w fun e w' => ∃ G gv cap, e = .returned (.agg (heldL rg pc (.slice (some ⟨G, 0, none⟩) 4 4) (.slice (some ⟨gv, 0, none⟩) ls.length cap)).toArray) ∧ w'.ownsRow 0 64 3 (.slice (some ⟨gv, 0, none⟩) ls.length cap) ls.length (Tl.flatL ls) ∧ w.heap.size ≤ gv ∧ Keeps (fun _ => False) w w' := by
  obtain ⟨W, hW⟩ : ∃ W, W = w.alloc (.cells heldZ.toArray 44) := ⟨_, rfl⟩
  have hK : Keeps (fun _ => False) w W := by rw [hW]; exact (Keeps.refl _ w).alloc _
  have hB : Blk W w.heap.size heldZ 44 := by rw [hW]; exact Blk.new w _ 44
  have hC := h.kept hK fun _ _ h => h
  have HLt : Hid (c < w.heap.size) := h.blk.lt
  have HX : Hid (Calls _ _ _ _ _) := context_any c tb cb rg pc ls st FT FC W.drew (hC.kept ((Keeps.refl (fun _ => False) W).drew) fun _ _ h => h)
  have HW : Hid (W = w.alloc (.cells heldZ.toArray 44)) := hW
  have HH : Hid (CoreAt W c tb cb rg pc ls st FT FC ∧ Keeps (fun _ => False) w W ∧ Blk W w.heap.size heldZ 44) := ⟨hC, hK, hB⟩
  clear h hK hB hC hW
  go_enter Tryz.func30, Tryz.ntmps30
  go_upto_region 3 with fail
  simp only [heldZ] at HW
  rw [← HW.out]
  have hS : (fun w' : World => w'.cell? ⟨c, 17, none⟩ = some (ptr tb) ∧ w'.cell? ⟨c, 18, none⟩ = some (ptr cb)) W.drew := ⟨HH.out.1.blk.cell (cs17 rg pc tb cb HH.out.1.len).1, HH.out.1.blk.cell (cs17 rg pc tb cb HH.out.1.len).2.1⟩
  refine wp_region_held_drew (S := (fun w' => w'.cell? ⟨c, 17, none⟩ = some (ptr tb) ∧ w'.cell? ⟨c, 18, none⟩ = some (ptr cb))) (by kernel_rfl) hS (fun hHeld => ?_)
  simp only [List.size_toArray, List.length_cons, List.length_nil, Nat.reduceAdd, Array.replicate_succ, Array.replicate_zero, List.push_toArray, List.append_toArray, List.nil_append, List.cons_append]
  refine tk 0 (ptr c) hHeld ?_
  simp only [Act.put, List.setIfInBounds_toArray, List.set_cons_zero, List.set_cons_succ]
  refine tk 2 (ptr c) hHeld ?_
  simp only [Act.put, List.setIfInBounds_toArray, List.set_cons_zero, List.set_cons_succ]
  refine tk 3 (ptr c) hHeld ?_
  simp only [Act.put, List.setIfInBounds_toArray, List.set_cons_zero, List.set_cons_succ]
  refine tk 4 (.pointer (some ⟨c, 18, none⟩)) hHeld ?_
  simp only [Act.put, List.setIfInBounds_toArray, List.set_cons_zero, List.set_cons_succ]
  refine tk 5 (ptr cb) hHeld ?_
  simp only [Act.put, List.setIfInBounds_toArray, List.set_cons_zero, List.set_cons_succ]
  refine tk 7 (ptr c) hHeld ?_
  simp only [Act.put, List.setIfInBounds_toArray, List.set_cons_zero, List.set_cons_succ]
  refine tk 8 (ptr c) hHeld ?_
  simp only [Act.put, List.setIfInBounds_toArray, List.set_cons_zero, List.set_cons_succ]
  refine tk 9 (.pointer (some ⟨c, 17, none⟩)) hHeld ?_
  simp only [Act.put, List.setIfInBounds_toArray, List.set_cons_zero, List.set_cons_succ]
  refine tk 10 (ptr tb) hHeld ?_
  simp only [Act.put, List.setIfInBounds_toArray, List.set_cons_zero, List.set_cons_succ]
  refine wpAnyH_ready (rs := [1]) (by kernel_rfl) (by simp) ?_
  refine AllReadyH.cons rfl (fun Kq hK => ?_) AllReadyH.nil
  go_simp
  refine HX.out.mono ?_
  rintro e w1 ⟨rfl, hK1'⟩
  have hK1 : Keeps (fun _ => False) W w1 := ((Keeps.refl (fun _ => False) W).drew).trans hK1' fun _ _ h => h
  clear hK1'
  have hC1 := HH.out.1.kept hK1 fun _ _ h => h
  have hS1 : (fun w' : World => w'.cell? ⟨c, 17, none⟩ = some (ptr tb) ∧ w'.cell? ⟨c, 18, none⟩ = some (ptr cb)) w1 := ⟨hC1.blk.cell (cs17 rg pc tb cb hC1.len).1, hC1.blk.cell (cs17 rg pc tb cb hC1.len).2.1⟩
  have HL : Hid (Calls _ _ _ _ _) := Ch.lines_any cb st FC w1 hC1.ca
  have HC1 : Hid (CoreAt w1 c tb cb rg pc ls st FT FC ∧ Keeps (fun _ => False) w w1 ∧ Blk w1 w.heap.size heldZ 44) := ⟨hC1, HH.out.2.1.trans hK1 fun _ _ h => h, HH.out.2.2.kept hK1 fun h => h⟩
  clear hC1 hK1 HX HH
  refine hK.out _ _ hS1 (fun hHeld => ?_)
  simp only [Act.put, List.setIfInBounds_toArray, List.set_cons_zero, List.set_cons_succ]
  refine wpAnyH_ready (rs := [6]) (by kernel_rfl) (by simp) ?_
  refine AllReadyH.cons rfl (fun Kq hK => ?_) AllReadyH.nil
  go_simp
  refine HL.out.mono ?_
  rintro e w2 ⟨G, vs, rfl, _, _, hK2⟩
  have hC2 := HC1.out.1.kept hK2 fun _ _ h => h
  have hS2 : (fun w' : World => w'.cell? ⟨c, 17, none⟩ = some (ptr tb) ∧ w'.cell? ⟨c, 18, none⟩ = some (ptr cb)) w2 := ⟨hC2.blk.cell (cs17 rg pc tb cb hC2.len).1, hC2.blk.cell (cs17 rg pc tb cb hC2.len).2.1⟩
  have HLe : Hid (Calls _ _ _ _ _) := Tl.leaves_any tb ls FT w2 hC2.tl
  have HD2 : Hid (CoreAt w2 c tb cb rg pc ls st FT FC ∧ c < w.heap.size) := ⟨hC2, HLt.out⟩
  have HC2 : Hid (rg.length = 16 ∧ Keeps (fun _ => False) w w2 ∧ Blk w2 w.heap.size heldZ 44) := ⟨hC2.len, HC1.out.2.1.trans hK2 fun _ _ h => h, HC1.out.2.2.kept hK2 fun h => h⟩
  clear hC2 HL HC1
  refine hK.out _ _ hS2 (fun hHeld => ?_)
  simp only [Act.put, List.setIfInBounds_toArray, List.set_cons_zero, List.set_cons_succ]
  refine wpAnyH_ready (rs := [11]) (by kernel_rfl) (by simp) ?_
  refine AllReadyH.cons rfl (fun Kq hK => ?_) AllReadyH.nil
  go_simp
  refine HLe.out.mono ?_
  rintro e w3 ⟨v, rfl, hO, ⟨gv, hgv, hlt⟩, hK3⟩
  obtain ⟨cap, rfl⟩ : ∃ cap, v = .slice (some ⟨gv, 0, none⟩) ls.length cap := by
    rcases hO.2 with ⟨rfl, _⟩ | ⟨g', cap, cur, rfl, _⟩
    · simp [Value.ownBlock] at hgv
    · simp [Value.ownBlock] at hgv
      subst hgv
      exact ⟨cap, rfl⟩
  obtain ⟨V, eV⟩ : ∃ V, V = heldL rg pc (.slice (some ⟨G, 0, none⟩) 4 4) (.slice (some ⟨gv, 0, none⟩) ls.length cap) := ⟨_, rfl⟩
  have hl19 : V.length = 19 := by rw [eV]; exact heldL_len HC2.out.1 _ _ _
  have hB3 := HC2.out.2.2.kept hK3 fun h => h
  have HBu : Hid (Tryz.prog.built 44 [(0, .agg (ctx rg pc).toArray), (1, .slice (some ⟨G, 0, none⟩) 4 4), (2, .slice (some ⟨gv, 0, none⟩) ls.length cap)] = some V.toArray) := by rw [eV]; exact built44 rg pc G gv ls.length cap HC2.out.1
  have HTh : Hid (w3.there w.heap.size 0 V.toArray.size ∧ (Tryz.prog.info? 44).map (·.size) = some V.toArray.size ∧ V.toArray.all (·.oneCell') = true) := by
    refine ⟨fun j hj => ⟨?_, hB3.frozen _⟩, by rw [List.size_toArray, hl19]; kernel_rfl, all_oneCell_toArray (by rw [eV]; exact heldL_one _ _ _ _ _ _)⟩
    have hj' : j < 19 := by simpa [hl19] using hj
    rw [hB3.cell (List.getElem?_eq_getElem (by simpa [heldZ] using hj'))]
    rfl
  have hB4 := blk_setCells (b := w.heap.size) (t := 44) V heldZ [] [] w3 hB3 (by rw [hl19]; rfl)
  have HE : Hid (Blk (w3.setCells w.heap.size 0 V.toArray.toList) w.heap.size V 44 ∧ Keeps (fun _ => False) w (w3.setCells w.heap.size 0 V.toArray.toList) ∧ (Tryz.prog.info? 44).map (·.size) = some V.length ∧ (w3.setCells w.heap.size 0 V.toArray.toList).ownsRow 0 64 3 (.slice (some ⟨gv, 0, none⟩) ls.length cap) ls.length (Tl.flatL ls) ∧ w.heap.size ≤ gv ∧ V = heldL rg pc (.slice (some ⟨G, 0, none⟩) 4 4) (.slice (some ⟨gv, 0, none⟩) ls.length cap)) := by
    have hk3 : Keeps (fun _ => False) w w3 := HC2.out.2.1.trans hK3 fun _ _ h => h
    have hks := keeps_setCells w.heap.size V.toArray.toList 0 w3
    have hsz := HC2.out.2.1.size
    have hb := HC2.out.2.2.lt
    refine ⟨by simpa using hB4, hk3.trans hks fun k hk e => by omega, by rw [hl19]; kernel_rfl, Tl.owns_kept hO hks fun k hk e => ?_, by omega, eV⟩
    simp [Value.ownBlock] at hk
    omega
  have hC3 := HD2.out.1.kept hK3 fun _ _ h => h
  have hS3 : (fun w' : World => w'.cell? ⟨c, 17, none⟩ = some (ptr tb) ∧ w'.cell? ⟨c, 18, none⟩ = some (ptr cb)) w3 := ⟨hC3.blk.cell (cs17 rg pc tb cb hC3.len).1, hC3.blk.cell (cs17 rg pc tb cb hC3.len).2.1⟩
  have hb4 := hC3.blk.kept (keeps_setCells w.heap.size V.toArray.toList 0 w3) (by have := HD2.out.2; show ¬ c = w.heap.size; omega)
  have hS4 : (fun w' : World => w'.cell? ⟨c, 17, none⟩ = some (ptr tb) ∧ w'.cell? ⟨c, 18, none⟩ = some (ptr cb)) (w3.setCells w.heap.size 0 V.toArray.toList) := ⟨hb4.cell (cs17 rg pc tb cb hC3.len).1, hb4.cell (cs17 rg pc tb cb hC3.len).2.1⟩
  clear hO hgv hlt hK3 hl19 hB3 hB4 HLe HC2 HD2 hC3 eV hb4
  refine hK.out _ _ hS3 (fun hHeld => ?_)
  simp only [Act.put, List.setIfInBounds_toArray, List.set_cons_zero, List.set_cons_succ]
  refine tk 12 (.agg V.toArray) hHeld ?_ (hr := by (intro w _; refine exec_build rfl ?_ w; go_simp; exact HBu.out))
  simp only [Act.put, List.setIfInBounds_toArray, List.set_cons_zero, List.set_cons_succ]
  refine wpAnyH_ready (rs := [13]) (by kernel_rfl) (by simp) ?_
  refine AllReadyH.cons rfl (fun Kq hK => ?_) AllReadyH.nil
  refine (if_pos (by kernel_rfl)).mpr ?_
  refine wp_store_mid 44 (.tmp 2) (.tmp 18) rfl w.heap.size 0 V.toArray rfl rfl HTh.out.1 HTh.out.2.1 HTh.out.2.2 ?_
  refine hK.out _ _ hS4 (fun hHeld => ?_)
  simp only [Act.put, List.setIfInBounds_toArray, List.set_cons_zero, List.set_cons_succ]
  refine wpAnyH_done (by kernel_rfl) ?_ _
  clear hHeld
  go_wp2
  refine bodyPost_ret (results_cell_one (p := 2) (ty := 44) rfl _ _ ⟨w.heap.size, 0, none⟩ _ rfl (load_blk HE.out.1 44 _ Tryz.underlying44 rfl HE.out.2.2.1)) rfl ?_
  obtain ⟨_, e2, _, e4, e5, e6⟩ := HE.out
  exact ⟨G, gv, cap, by rw [e6], e4, e5, e2⟩

end Go.Proofs.YtipejahmjdamjaaGreatDoor
