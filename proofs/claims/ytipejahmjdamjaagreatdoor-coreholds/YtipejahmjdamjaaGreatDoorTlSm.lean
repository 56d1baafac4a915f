import Derived.Test.YtipejahmjdamjaaGreatDoorZa
import Derived.Test.YtipejahmjdamjaaGreatDoorTlRing
import Derived.Test.YtipejahmjdamjaaGreatDoorPg
import Derived.Test.YtipejahmjdamjaaGreatDoorWx
namespace Go.Proofs.YtipejahmjdamjaaGreatDoor
open Go.RowKit Go.Shelf
set_option linter.unusedVariables false
set_option linter.unusedSimpArgs false
set_option maxRecDepth 6000

theorem tk {P : Program} {md : Region.Mode} {ops : Array Oper} {Q : Exit → Act → World → Prop} {S : World → Prop} {oi : Oper} {fuel : Nat} {listed : Array Bool} {a : Act} {w : World} (i : Nat) (v : Value) (hS : S w) (h : wpAnyH P md ops Q S fuel (listed.setIfInBounds i true) (a.put oi.dst v) w)
    (hi : ops[i]? = some oi := by (simp only [List.getElem?_toArray, List.getElem?_cons_succ, List.getElem?_cons_zero]; exact rfl))
    (hs : Region.noSelect ops = true := by kernel_rfl) (hf : Region.free md ops listed i = true := by kernel_rfl) (hc : (Region.ready md ops listed).contains i = true := by kernel_rfl)
    (hQ : ∀ c a w, Q (.panic c) (a.put oi.dst v) w → Q (.panic c) a w := by exact fun _ _ _ h => h) (hg : Region.wanted oi (yielded ops a.tmps) = true := by kernel_rfl)
    (hr : ∀ w, S w → (execOp a.eval oi).run P w = .ok (.value v) w := by (intro w hSw; (try dsimp only at hSw); go_simp; try omega)) : wpAnyH P md ops Q S (fuel + 1) listed a w :=
  wpAnyH_take hi hs hf hc hQ (Or.inl ⟨hg, hr⟩) hS h
theorem tn {P : Program} {md : Region.Mode} {ops : Array Oper} {Q : Exit → Act → World → Prop} {S : World → Prop} {oi : Oper} {fuel : Nat} {listed : Array Bool} {a : Act} {w : World} (i : Nat) (hS : S w) (h : wpAnyH P md ops Q S fuel (listed.setIfInBounds i true) (a.put oi.dst undef) w)
    (hi : ops[i]? = some oi := by (simp only [List.getElem?_toArray, List.getElem?_cons_succ, List.getElem?_cons_zero]; exact rfl))
    (hs : Region.noSelect ops = true := by kernel_rfl) (hf : Region.free md ops listed i = true := by kernel_rfl) (hc : (Region.ready md ops listed).contains i = true := by kernel_rfl)
    (hQ : ∀ c a w, Q (.panic c) (a.put oi.dst undef) w → Q (.panic c) a w := by exact fun _ _ _ h => h) (hg : Region.wanted oi (yielded ops a.tmps) = false := by kernel_rfl) : wpAnyH P md ops Q S (fuel + 1) listed a w :=
  wpAnyH_take hi hs hf hc hQ (Or.inr ⟨hg, rfl⟩) hS h

theorem exec_build {P : Program} {a : Act} {oi : Oper} {t : TypeId} {parts : Array (Nat × Operand)} {cells : Array Value} (ho : oi.op = .build t parts) (h : P.built t (parts.map fun (i, x) => (i, a.eval x)).toList = some cells) (w : World) : (execOp a.eval oi).run P w = .ok (.value (.agg cells)) w := by
  unfold execOp
  simp only [ho, Sem.run_bind, run_build w t _ cells h, Result.andThen_ok]
  rfl

def heldL (rg : List UInt32) (pc : Nat) (l v : Value) : List Value := ctx rg pc ++ [l, v]
def heldZ : List Value := [.int .u32 0, .int .u32 0, .int .u32 0, .int .u32 0, .int .u32 0, .int .u32 0, .int .u32 0, .int .u32 0, .int .u32 0, .int .u32 0, .int .u32 0, .int .u32 0, .int .u32 0, .int .u32 0, .int .u32 0, .int .u32 0, .int .u32 0, .slice none 0 0, .slice none 0 0]

theorem built44x (r0 r1 r2 r3 r4 r5 r6 r7 r8 r9 r10 r11 r12 r13 r14 r15 : UInt32) (pc G gv n cap : Nat) :
    Tryz.prog.built 44 [(0, .agg (ctx [r0, r1, r2, r3, r4, r5, r6, r7, r8, r9, r10, r11, r12, r13, r14, r15] pc).toArray), (1, .slice (some ⟨G, 0, none⟩) 4 4), (2, .slice (some ⟨gv, 0, none⟩) n cap)] = some (heldL [r0, r1, r2, r3, r4, r5, r6, r7, r8, r9, r10, r11, r12, r13, r14, r15] pc (.slice (some ⟨G, 0, none⟩) 4 4) (.slice (some ⟨gv, 0, none⟩) n cap)).toArray := by
  kernel_rfl
theorem built44 (rg : List UInt32) (pc G gv n cap : Nat) (hl : rg.length = 16) :
    Tryz.prog.built 44 [(0, .agg (ctx rg pc).toArray), (1, .slice (some ⟨G, 0, none⟩) 4 4), (2, .slice (some ⟨gv, 0, none⟩) n cap)] = some (heldL rg pc (.slice (some ⟨G, 0, none⟩) 4 4) (.slice (some ⟨gv, 0, none⟩) n cap)).toArray := by
  match rg, hl with
  | [r0, r1, r2, r3, r4, r5, r6, r7, r8, r9, r10, r11, r12, r13, r14, r15], _ => exact built44x r0 r1 r2 r3 r4 r5 r6 r7 r8 r9 r10 r11 r12 r13 r14 r15 pc G gv n cap

theorem heldL_len {rg : List UInt32} (h : rg.length = 16) (pc : Nat) (l v : Value) : (heldL rg pc l v).length = 19 := by simp [heldL, ctx_len h]
theorem heldL_one (rg : List UInt32) (pc G gv n cap : Nat) : ∀ v ∈ heldL rg pc (.slice (some ⟨G, 0, none⟩) 4 4) (.slice (some ⟨gv, 0, none⟩) n cap), v.oneCell' = true := fun v hv => by
  rcases List.mem_append.1 hv with e | e
  · exact ctx_one _ _ v e
  · simp at e; rcases e with rfl | rfl <;> rfl

set_option maxHeartbeats 4000000 in
/-- All that a core holds is told. -/
theorem held_any (c tb cb : Nat) (rg : List UInt32) (pc : Nat) (ls : List Tl.Lf) (st : Nat → List Int) (FT FC : Nat → Prop) (w : World) (h : CoreAt w c tb cb rg pc ls st FT FC) :
    Calls Tryz.prog 30 #[ptr c] w fun e w' => ∃ G gv cap, e = .returned (.agg (heldL rg pc (.slice (some ⟨G, 0, none⟩) 4 4) (.slice (some ⟨gv, 0, none⟩) ls.length cap)).toArray) ∧ w'.ownsRow 0 64 3 (.slice (some ⟨gv, 0, none⟩) ls.length cap) ls.length (Tl.flatL ls) ∧ w.heap.size ≤ gv ∧ Keeps (fun _ => False) w w' := by
  obtain ⟨W, hW⟩ : ∃ W, W = w.alloc (.cells heldZ.toArray 44) := ⟨_, rfl⟩
  have hK : Keeps (fun _ => False) w W := by rw [hW]; exact (Keeps.refl _ w).alloc _
  have hB : Blk W w.heap.size heldZ 44 := by rw [hW]; exact Blk.new w _ 44
  have hC := h.kept hK fun _ _ h => h
  have HLt : Hid (c < w.heap.size) := h.blk.lt
  have HX : Hid (Calls _ _ _ _ _) := context_any c tb cb rg pc ls st FT FC W.drew (hC.kept ((Keeps.refl (fun _ => False) W).drew) fun _ _ h => h)
  have HW : Hid (W = w.alloc (.cells heldZ.toArray 44)) := hW
  have HH : Hid (CoreAt W c tb cb rg pc ls st FT FC ∧ Keeps (fun _ => False) w W ∧ Blk W w.heap.size heldZ 44) := ⟨hC, hK, hB⟩
  clear h hK hB hC hW
  go_enter Tryz.func30, Tryz.ntmps30
  go_upto_region 3 with fail
  simp only [heldZ] at HW
  rw [← HW.out]
  have hS : (fun w' : World => w'.cell? ⟨c, 17, none⟩ = some (ptr tb) ∧ w'.cell? ⟨c, 18, none⟩ = some (ptr cb)) W.drew := ⟨HH.out.1.blk.cell (cs17 rg pc tb cb HH.out.1.len).1, HH.out.1.blk.cell (cs17 rg pc tb cb HH.out.1.len).2.1⟩
  refine wp_region_held_drew (S := (fun w' => w'.cell? ⟨c, 17, none⟩ = some (ptr tb) ∧ w'.cell? ⟨c, 18, none⟩ = some (ptr cb))) (by kernel_rfl) hS (fun hHeld => ?_)
  simp only [List.size_toArray, List.length_cons, List.length_nil, Nat.reduceAdd, Array.replicate_succ, Array.replicate_zero, List.push_toArray, List.append_toArray, List.nil_append, List.cons_append]
  refine tk 0 (ptr c) hHeld ?_
  simp only [Act.put, List.setIfInBounds_toArray, List.set_cons_zero, List.set_cons_succ]
  refine tk 2 (ptr c) hHeld ?_
  simp only [Act.put, List.setIfInBounds_toArray, List.set_cons_zero, List.set_cons_succ]
  refine tk 3 (ptr c) hHeld ?_
  simp only [Act.put, List.setIfInBounds_toArray, List.set_cons_zero, List.set_cons_succ]
  refine tk 4 (.pointer (some ⟨c, 18, none⟩)) hHeld ?_
  simp only [Act.put, List.setIfInBounds_toArray, List.set_cons_zero, List.set_cons_succ]
  refine tk 5 (ptr cb) hHeld ?_
  simp only [Act.put, List.setIfInBounds_toArray, List.set_cons_zero, List.set_cons_succ]
  refine tk 7 (ptr c) hHeld ?_
  simp only [Act.put, List.setIfInBounds_toArray, List.set_cons_zero, List.set_cons_succ]
  refine tk 8 (ptr c) hHeld ?_
  simp only [Act.put, List.setIfInBounds_toArray, List.set_cons_zero, List.set_cons_succ]
  refine tk 9 (.pointer (some ⟨c, 17, none⟩)) hHeld ?_
  simp only [Act.put, List.setIfInBounds_toArray, List.set_cons_zero, List.set_cons_succ]
  refine tk 10 (ptr tb) hHeld ?_
  simp only [Act.put, List.setIfInBounds_toArray, List.set_cons_zero, List.set_cons_succ]
  refine wpAnyH_ready (rs := [1]) (by kernel_rfl) (by simp) ?_
  refine AllReadyH.cons rfl (fun Kq hK => ?_) AllReadyH.nil
  go_simp
  refine HX.out.mono ?_
  rintro e w1 ⟨rfl, hK1'⟩
  have hK1 : Keeps (fun _ => False) W w1 := ((Keeps.refl (fun _ => False) W).drew).trans hK1' fun _ _ h => h
  clear hK1'
  have hC1 := HH.out.1.kept hK1 fun _ _ h => h
  have hS1 : (fun w' : World => w'.cell? ⟨c, 17, none⟩ = some (ptr tb) ∧ w'.cell? ⟨c, 18, none⟩ = some (ptr cb)) w1 := ⟨hC1.blk.cell (cs17 rg pc tb cb hC1.len).1, hC1.blk.cell (cs17 rg pc tb cb hC1.len).2.1⟩
  have HL : Hid (Calls _ _ _ _ _) := Ch.lines_any cb st FC w1 hC1.ca
  have HC1 : Hid (CoreAt w1 c tb cb rg pc ls st FT FC ∧ Keeps (fun _ => False) w w1 ∧ Blk w1 w.heap.size heldZ 44) := ⟨hC1, HH.out.2.1.trans hK1 fun _ _ h => h, HH.out.2.2.kept hK1 fun h => h⟩
  clear hC1 hK1 HX HH
  refine hK.out _ _ hS1 (fun hHeld => ?_)
  simp only [Act.put, List.setIfInBounds_toArray, List.set_cons_zero, List.set_cons_succ]
  refine wpAnyH_ready (rs := [6]) (by kernel_rfl) (by simp) ?_
  refine AllReadyH.cons rfl (fun Kq hK => ?_) AllReadyH.nil
  go_simp
  refine HL.out.mono ?_
  rintro e w2 ⟨G, vs, rfl, _, _, hK2⟩
  have hC2 := HC1.out.1.kept hK2 fun _ _ h => h
  have hS2 : (fun w' : World => w'.cell? ⟨c, 17, none⟩ = some (ptr tb) ∧ w'.cell? ⟨c, 18, none⟩ = some (ptr cb)) w2 := ⟨hC2.blk.cell (cs17 rg pc tb cb hC2.len).1, hC2.blk.cell (cs17 rg pc tb cb hC2.len).2.1⟩
  have HLe : Hid (Calls _ _ _ _ _) := Tl.leaves_any tb ls FT w2 hC2.tl
  have HD2 : Hid (CoreAt w2 c tb cb rg pc ls st FT FC ∧ c < w.heap.size) := ⟨hC2, HLt.out⟩
  have HC2 : Hid (rg.length = 16 ∧ Keeps (fun _ => False) w w2 ∧ Blk w2 w.heap.size heldZ 44) := ⟨hC2.len, HC1.out.2.1.trans hK2 fun _ _ h => h, HC1.out.2.2.kept hK2 fun h => h⟩
  clear hC2 HL HC1
  refine hK.out _ _ hS2 (fun hHeld => ?_)
  simp only [Act.put, List.setIfInBounds_toArray, List.set_cons_zero, List.set_cons_succ]
  refine wpAnyH_ready (rs := [11]) (by kernel_rfl) (by simp) ?_
  refine AllReadyH.cons rfl (fun Kq hK => ?_) AllReadyH.nil
  go_simp
  refine HLe.out.mono ?_
  rintro e w3 ⟨v, rfl, hO, ⟨gv, hgv, hlt⟩, hK3⟩
  obtain ⟨cap, rfl⟩ : ∃ cap, v = .slice (some ⟨gv, 0, none⟩) ls.length cap := by
    rcases hO.2 with ⟨rfl, _⟩ | ⟨g', cap, cur, rfl, _⟩
    · simp [Value.ownBlock] at hgv
    · simp [Value.ownBlock] at hgv
      subst hgv
      exact ⟨cap, rfl⟩
  obtain ⟨V, eV⟩ : ∃ V, V = heldL rg pc (.slice (some ⟨G, 0, none⟩) 4 4) (.slice (some ⟨gv, 0, none⟩) ls.length cap) := ⟨_, rfl⟩
  have hl19 : V.length = 19 := by rw [eV]; exact heldL_len HC2.out.1 _ _ _
  have hB3 := HC2.out.2.2.kept hK3 fun h => h
  have HBu : Hid (Tryz.prog.built 44 [(0, .agg (ctx rg pc).toArray), (1, .slice (some ⟨G, 0, none⟩) 4 4), (2, .slice (some ⟨gv, 0, none⟩) ls.length cap)] = some V.toArray) := by rw [eV]; exact built44 rg pc G gv ls.length cap HC2.out.1
  have HTh : Hid (w3.there w.heap.size 0 V.toArray.size ∧ (Tryz.prog.info? 44).map (·.size) = some V.toArray.size ∧ V.toArray.all (·.oneCell') = true) := by
    refine ⟨fun j hj => ⟨?_, hB3.frozen _⟩, by rw [List.size_toArray, hl19]; kernel_rfl, all_oneCell_toArray (by rw [eV]; exact heldL_one _ _ _ _ _ _)⟩
    have hj' : j < 19 := by simpa [hl19] using hj
    rw [hB3.cell (List.getElem?_eq_getElem (by simpa [heldZ] using hj'))]
    rfl
  have hB4 := blk_setCells (b := w.heap.size) (t := 44) V heldZ [] [] w3 hB3 (by rw [hl19]; rfl)
  have HE : Hid (Blk (w3.setCells w.heap.size 0 V.toArray.toList) w.heap.size V 44 ∧ Keeps (fun _ => False) w (w3.setCells w.heap.size 0 V.toArray.toList) ∧ (Tryz.prog.info? 44).map (·.size) = some V.length ∧ (w3.setCells w.heap.size 0 V.toArray.toList).ownsRow 0 64 3 (.slice (some ⟨gv, 0, none⟩) ls.length cap) ls.length (Tl.flatL ls) ∧ w.heap.size ≤ gv ∧ V = heldL rg pc (.slice (some ⟨G, 0, none⟩) 4 4) (.slice (some ⟨gv, 0, none⟩) ls.length cap)) := by
    have hk3 : Keeps (fun _ => False) w w3 := HC2.out.2.1.trans hK3 fun _ _ h => h
    have hks := keeps_setCells w.heap.size V.toArray.toList 0 w3
    have hsz := HC2.out.2.1.size
    have hb := HC2.out.2.2.lt
    refine ⟨by simpa using hB4, hk3.trans hks fun k hk e => by omega, by rw [hl19]; kernel_rfl, Tl.owns_kept hO hks fun k hk e => ?_, by omega, eV⟩
    simp [Value.ownBlock] at hk
    omega
  have hC3 := HD2.out.1.kept hK3 fun _ _ h => h
  have hS3 : (fun w' : World => w'.cell? ⟨c, 17, none⟩ = some (ptr tb) ∧ w'.cell? ⟨c, 18, none⟩ = some (ptr cb)) w3 := ⟨hC3.blk.cell (cs17 rg pc tb cb hC3.len).1, hC3.blk.cell (cs17 rg pc tb cb hC3.len).2.1⟩
  have hb4 := hC3.blk.kept (keeps_setCells w.heap.size V.toArray.toList 0 w3) (by have := HD2.out.2; show ¬ c = w.heap.size; omega)
  have hS4 : (fun w' : World => w'.cell? ⟨c, 17, none⟩ = some (ptr tb) ∧ w'.cell? ⟨c, 18, none⟩ = some (ptr cb)) (w3.setCells w.heap.size 0 V.toArray.toList) := ⟨hb4.cell (cs17 rg pc tb cb hC3.len).1, hb4.cell (cs17 rg pc tb cb hC3.len).2.1⟩
  clear hO hgv hlt hK3 hl19 hB3 hB4 HLe HC2 HD2 hC3 eV hb4
  refine hK.out _ _ hS3 (fun hHeld => ?_)
  simp only [Act.put, List.setIfInBounds_toArray, List.set_cons_zero, List.set_cons_succ]
  refine tk 12 (.agg V.toArray) hHeld ?_ (hr := by (intro w _; refine exec_build rfl ?_ w; go_simp; exact HBu.out))
  simp only [Act.put, List.setIfInBounds_toArray, List.set_cons_zero, List.set_cons_succ]
  refine wpAnyH_ready (rs := [13]) (by kernel_rfl) (by simp) ?_
  refine AllReadyH.cons rfl (fun Kq hK => ?_) AllReadyH.nil
  refine (if_pos (by kernel_rfl)).mpr ?_
  refine wp_store_mid 44 (.tmp 2) (.tmp 18) rfl w.heap.size 0 V.toArray rfl rfl HTh.out.1 HTh.out.2.1 HTh.out.2.2 ?_
  refine hK.out _ _ hS4 (fun hHeld => ?_)
  simp only [Act.put, List.setIfInBounds_toArray, List.set_cons_zero, List.set_cons_succ]
  refine wpAnyH_done (by kernel_rfl) ?_ _
  clear hHeld
  go_wp2
  refine bodyPost_ret (results_cell_one (p := 2) (ty := 44) rfl _ _ ⟨w.heap.size, 0, none⟩ _ rfl (load_blk HE.out.1 44 _ Tryz.underlying44 rfl HE.out.2.2.1)) rfl ?_
  obtain ⟨_, e2, _, e4, e5, e6⟩ := HE.out
  exact ⟨G, gv, cap, by rw [e6], e4, e5, e2⟩

end Go.Proofs.YtipejahmjdamjaaGreatDoor
namespace Go.Proofs.YtipejahmjdamjaaGreatDoor
open Go.RowKit Go.Shelf
set_option linter.unusedVariables false
set_option maxRecDepth 6000

/-! ### What two cores hold, held beside one another -/
set_option maxRecDepth 20000 in
set_option maxHeartbeats 4000000 in
theorem sameLines_any (a1 a2 : Option Addr) (lls : List (List Int)) (p1 p2 : Nat) (w : World) (h1 : Ch.SegL w a1 lls) (h2 : Ch.SegL w a2 lls) (hm : (lls.length : Int) ≤ 2147483647) :
    Calls Tryz.prog 60 #[.slice a1 lls.length p1, .slice a2 lls.length p2] w fun e w' => e = .returned (.bool true) ∧ Keeps (fun _ => False) w w' := by
  obtain ⟨N, eN⟩ : ∃ N, N = lls.length := ⟨_, rfl⟩
  rw [← eN] at hm ⊢
  have HS : Hid (Ch.SegL w a1 lls ∧ Ch.SegL w a2 lls ∧ N = lls.length) := ⟨h1, h2, eN⟩
  clear h1 h2 eN
  go_enter Tryz.func60, Tryz.ntmps60
  go_wp2
  go_loopw [6] (fun i wr => ∃ j : Nat, j ≤ N ∧ i = .int .i64 j ∧ Keeps (fun _ => False) w wr) (fun i _ => N - (intOf i).toNat)
  case atStart => exact ⟨0, by omega, rfl, Keeps.refl _ _⟩
  case round =>
    obtain ⟨j, hj, rfl, hK⟩ := hrel
    by_cases hlt : j < N
    · obtain ⟨l, hl⟩ : ∃ l, lls[j]? = some l := ⟨_, List.getElem?_eq_getElem (by have := HS.out.2.2; omega)⟩
      rcases HS.out.1.kept hK with h0 | ⟨G1, O1, rfl, hc1⟩
      · rw [h0] at hl; simp at hl
      rcases HS.out.2.1.kept hK with h0 | ⟨G2, O2, rfl, hc2⟩
      · rw [h0] at hl; simp at hl
      obtain ⟨x1, c1, cu, hs1, _, hlm⟩ := hc1 j l hl
      obtain ⟨x2, c2, cv, hs2, _, _⟩ := hc2 j l hl
      obtain ⟨n, hn⟩ : ∃ n, n = l.length := ⟨_, rfl⟩
      rw [← hn] at cu cv hlm
      have hjn : (j : Int) < N := by omega
      have HJ : Hid (j < N ∧ n = l.length ∧ Ch.SegI wr x1 l ∧ Ch.SegI wr x2 l ∧ Keeps (fun _ => False) w wr ∧ wr.cell? ⟨G1, O1 + j, none⟩ = some (.slice x1 n c1) ∧ wr.cell? ⟨G2, O2 + j, none⟩ = some (.slice x2 n c2)) := ⟨hlt, hn, hs1, hs2, hK, cu, cv⟩
      clear hc1 hc2 hs1 hs2 hn hlt hj hK hl
      obtain ⟨wo, hwo⟩ : ∃ wo, wo = wr := ⟨_, rfl⟩
      subst hwo
      go_wp2
      clear cu cv
      go_loopw [9] (fun i wq => ∃ m : Nat, m ≤ n ∧ i = .int .i64 m ∧ Keeps (fun _ => False) wo wq) (fun i _ => n - (intOf i).toNat)
      case atStart => exact ⟨0, by omega, rfl, Keeps.refl _ wo⟩
      case round =>
        obtain ⟨m, hm', rfl, hKm⟩ := hrel
        obtain ⟨hlt, hn, g1, g2, g3, g4, g5⟩ := HJ.out
        by_cases hmn : m < n
        · have hmu : m < l.length := by omega
          rcases g1.kept hKm fun _ _ h => h with h0 | ⟨b1, o1, e1, hc1⟩
          · exact absurd hmu (by rw [h0]; simp)
          · rcases g2.kept hKm fun _ _ h => h with h0 | ⟨b2, o2, e2, hc2⟩
            · exact absurd hmu (by rw [h0]; simp)
            · have k1 := hc1 m hmu
              have k2 := hc2 m hmu
              subst e1
              subst e2
              obtain ⟨x, hxx⟩ : ∃ x, x = l[m]'hmu := ⟨_, rfl⟩
              rw [← hxx] at k1 k2
              have hmz : (m : Int) < n := by omega
              have HM : Hid (m < n ∧ Keeps (fun _ => False) wo wr) := ⟨hmn, hKm⟩
              clear hc1 hc2 hxx hmu hmn hm' hlt hn g1 g2 g3 g4 g5 hKm
              go_wp2
              go_quiet (fail)
              go_wp2
              go_roundw
              case rel => exact ⟨m + 1, by have := HM.out.1; omega, by go_num, HM.out.2.drewN _⟩
              case measure => have := HM.out.1; simp [intOf]; omega
        · obtain rfl : m = n := by omega
          have HQ : Hid (Keeps (fun _ => False) w wr ∧ j < N) := ⟨g3.trans hKm fun _ _ h => h, hlt⟩
          clear hm' hmn hlt hn g1 g2 g3 g4 g5 hKm
          go_wp2
          go_roundw
          case rel => exact ⟨j + 1, by have := HQ.out.2; omega, by go_num, HQ.out.1⟩
          case measure => have := HQ.out.2; simp [intOf]; omega
    · obtain rfl : j = N := by omega
      have HK : Hid (Keeps (fun _ => False) w wr) := hK
      clear hK
      go_wp2
      go_ret
      exact ⟨rfl, HK.out⟩

end Go.Proofs.YtipejahmjdamjaaGreatDoor
namespace Go.Proofs.YtipejahmjdamjaaGreatDoor.Tl
open Go.RowKit Go.Shelf
set_option linter.unusedVariables false
set_option maxRecDepth 6000

set_option maxHeartbeats 1000000 in
theorem sameL_any (a b : Option Addr) (A B : List Lf) (ca cb : Nat) (w : World) (hla : A.length ≤ ca ∧ ca ≤ maxLen) (hlb : B.length ≤ cb ∧ cb ≤ maxLen) (ha : SegL w a A) (hb : SegL w b B) :
    Calls Tryz.prog 61 #[.slice a A.length ca, .slice b B.length cb] w fun r w' => r = .returned (.bool (decide (A = B))) ∧ Keeps (fun _ => False) w w' := by
  obtain ⟨n, hn⟩ : ∃ n, n = A.length := ⟨_, rfl⟩
  obtain ⟨m, hm⟩ : ∃ m, m = B.length := ⟨_, rfl⟩
  have HS : Hid (SegL w a A ∧ SegL w b B ∧ n = A.length ∧ m = B.length) := ⟨ha, hb, hn, hm⟩
  have hc1 : (n : Int) ≤ ca := by omega
  have hc2 : (ca : Int) ≤ 9223372036854775807 := by unfold maxLen at hla; omega
  have hc3 : (m : Int) ≤ cb := by omega
  have hc4 : (cb : Int) ≤ 9223372036854775807 := by unfold maxLen at hlb; omega
  rw [← hn, ← hm]
  clear hla hlb ha hb hn hm
  by_cases hnm : n = m
  · subst hnm
    go_enter Tryz.func61, Tryz.ntmps61
    go_wp2
    go_loopw [5] (fun i wr => ∃ j : Nat, j ≤ n ∧ i = .int .i64 j ∧ A.take j = B.take j ∧ Keeps (fun _ => False) w wr) (fun i _ => n - (intOf i).toNat)
    case atStart => exact ⟨0, by omega, rfl, by simp, Keeps.refl _ _⟩
    case round =>
      obtain ⟨j, hj, rfl, he, hK⟩ := hrel
      by_cases hlt : j < n
      · obtain ⟨x, hx⟩ : ∃ x, A[j]? = some x := ⟨_, List.getElem?_eq_getElem (by have := HS.out.2.2.1; omega)⟩
        obtain ⟨y, hy⟩ : ∃ y, B[j]? = some y := ⟨_, List.getElem?_eq_getElem (by have := HS.out.2.2.2; omega)⟩
        obtain ⟨g, o, rfl, hx3⟩ : ∃ g o, a = some ⟨g, o, none⟩ ∧ LeafAt w g (o + j * 3) x := by
          rcases HS.out.1 with h | ⟨g, o, ha, h⟩
          · rw [h] at hx; simp at hx
          · exact ⟨g, o, ha, h j x hx⟩
        obtain ⟨h, q, rfl, hy3⟩ : ∃ g o, b = some ⟨g, o, none⟩ ∧ LeafAt w g (o + j * 3) y := by
          rcases HS.out.2.1 with h | ⟨g, o, ha, h⟩
          · rw [h] at hy; simp at hy
          · exact ⟨g, o, ha, h j y hy⟩
        obtain ⟨x0, x1, x2⟩ := hx3.kept hK fun h => h
        obtain ⟨y0, y1, y2⟩ := hy3.kept hK fun h => h
        have hlt' : (j : Int) < n := by omega
        by_cases hxy : x = y
        · subst hxy
          have HE : Hid (A.take (j + 1) = B.take (j + 1) ∧ Keeps (fun _ => False) w wr) := ⟨by rw [List.take_add_one, List.take_add_one, hx, hy, he], hK⟩
          clear he hx hy hx3 hy3 hK
          go_wp2_with fail
          go_quiet (fail)
          go_wp2
          go_roundw
          case rel => exact ⟨j + 1, by omega, by go_num, HE.out.1, HE.out.2.drewN nq⟩
          case measure => simp [intOf]; omega
        · have hq : ∀ w' : World, (binOp .neq 64 x.v y.v).run Tryz.prog w' = .ok (.bool true) w' := fun w' => by rw [neq_leaf, decide_eq_false hxy]; rfl
          have HE : Hid (decide (A = B) = false ∧ Keeps (fun _ => False) w wr) := ⟨decide_eq_false fun e => hxy (by rw [e, hy] at hx; exact (Option.some.inj hx).symm), hK⟩
          clear he hx hy hx3 hy3 hK hxy
          go_wp2_with fail
          go_quiet (fail)
          go_wp2
          go_ret
          exact ⟨by rw [HE.out.1]; rfl, HE.out.2.drewN nq⟩
      · obtain rfl : j = n := by omega
        have HE : Hid (decide (A = B) = true ∧ Keeps (fun _ => False) w wr) := by
          rw [List.take_of_length_le (by have := HS.out.2.2.1; omega), List.take_of_length_le (by have := HS.out.2.2.2; omega)] at he
          exact ⟨decide_eq_true he, hK⟩
        clear he hK
        go_wp2
        go_ret
        exact ⟨by rw [HE.out.1]; rfl, HE.out.2⟩
  · have HE : Hid (decide (A = B) = false) := decide_eq_false fun e => hnm (by rw [HS.out.2.2.1, HS.out.2.2.2, e])
    have hnm' : ((n : Int) == (m : Int)) = false := by
      simp; omega
    go_enter Tryz.func61, Tryz.ntmps61
    go_wp2
    go_ret
    exact ⟨by rw [HE.out]; rfl, Keeps.refl _ _⟩

end Go.Proofs.YtipejahmjdamjaaGreatDoor.Tl
