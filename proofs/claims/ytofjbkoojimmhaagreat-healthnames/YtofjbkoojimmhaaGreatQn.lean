import Derived.Test.YtofjbkoojimmhaaGreatQm
namespace Go.Proofs.YtofjbkoojimmhaaGreat
open Go.RowKit
set_option linter.unusedVariables false
set_option linter.unusedSimpArgs false
set_option maxRecDepth 6000

set_option maxHeartbeats 4000000 in
theorem sharedClo (Q : Par) (r : Rgn) (G QL QM : Nat) (hQL : Q.rs.length = QL) (hlen : Q.rs.length ≤ Q.rc ∧ Q.rc ≤ maxLen) (hr : r.fr.Ok) (hs : ∀ s ∈ Q.rs, s.fr.Ok) (w : World) (hE : Bls [(G, [.int .i64 r.page, .int .i64 r.pages, .int .i64 r.frame, .int .i64 r.rights], 156)] w) (hX : SegA Rgn.vs 4 w Q.ra Q.rs) : Calls Tryz.prog 152 #[.agg #[.string Q.name, .int .i64 Q.entry, .int .i64 Q.action, .int .i64 Q.restarts, .int .i64 Q.inputs, .int .i64 Q.outputs, .slice Q.ra QL Q.rc, .slice Q.pa QM Q.pc], .pointer (some ⟨G, 0, none⟩)] w fun e w' => e = .returned (.bool (Q.rs.any fun s => s.fr.meets r.fr)) ∧ Keeps (fun _ => False) w w' := by
  have HM : Hid (∀ w', Keeps (fun _ => False) w w' → Calls Tryz.prog 131 #[.slice Q.ra QL Q.rc, .func (.func 132) #[] #[], r.fr.v] w' fun e w'' => e = .returned (.bool (Q.rs.any fun s => s.fr.meets r.fr)) ∧ Keeps (fun _ => False) w' w'') := fun w' k => by
    have := anyMeets_any 132 Rgn.fr run_frames Q.rs Q.ra Q.rc r.fr hr hs hlen w' (hX.kept k fun _ _ _ h => h)
    rw [hQL] at this
    exact this
  clear hX hQL hlen hr hs
  obtain ⟨W, hW⟩ : ∃ W, W = w.alloc (.cells #[.string Q.name, .int .i64 Q.entry, .int .i64 Q.action, .int .i64 Q.restarts, .int .i64 Q.inputs, .int .i64 Q.outputs, .slice Q.ra QL Q.rc, .slice Q.pa QM Q.pc] 35) := ⟨_, rfl⟩
  obtain ⟨B, hP⟩ : ∃ B, B = w.heap.size := ⟨_, rfl⟩
  have HS : Hid (∀ w', Bls [(B, [.string Q.name, .int .i64 Q.entry, .int .i64 Q.action, .int .i64 Q.restarts, .int .i64 Q.inputs, .int .i64 Q.outputs, .slice Q.ra QL Q.rc, .slice Q.pa QM Q.pc], 35), (G, [.int .i64 r.page, .int .i64 r.pages, .int .i64 r.frame, .int .i64 r.rights], 156)] w' → (w'.cell? ⟨B, 0, none⟩ = some (.string Q.name) ∧ w'.cell? ⟨B, 1, none⟩ = some (.int .i64 Q.entry) ∧ w'.cell? ⟨B, 2, none⟩ = some (.int .i64 Q.action) ∧ w'.cell? ⟨B, 3, none⟩ = some (.int .i64 Q.restarts) ∧ w'.cell? ⟨B, 4, none⟩ = some (.int .i64 Q.inputs) ∧ w'.cell? ⟨B, 5, none⟩ = some (.int .i64 Q.outputs) ∧ w'.cell? ⟨B, 6, none⟩ = some (.slice Q.ra QL Q.rc) ∧ w'.cell? ⟨B, 7, none⟩ = some (.slice Q.pa QM Q.pc) ∧ w'.cell? ⟨G, 0, none⟩ = some (.int .i64 r.page) ∧ w'.cell? ⟨G, 1, none⟩ = some (.int .i64 r.pages) ∧ w'.cell? ⟨G, 2, none⟩ = some (.int .i64 r.frame) ∧ w'.cell? ⟨G, 3, none⟩ = some (.int .i64 r.rights))) := fun w' h => ⟨(h _ (.head _)).cell (i := 0) rfl, (h _ (.head _)).cell (i := 1) rfl, (h _ (.head _)).cell (i := 2) rfl, (h _ (.head _)).cell (i := 3) rfl, (h _ (.head _)).cell (i := 4) rfl, (h _ (.head _)).cell (i := 5) rfl, (h _ (.head _)).cell (i := 6) rfl, (h _ (.head _)).cell (i := 7) rfl, (h _ (.tail _ (.head _))).cell (i := 0) rfl, (h _ (.tail _ (.head _))).cell (i := 1) rfl, (h _ (.tail _ (.head _))).cell (i := 2) rfl, (h _ (.tail _ (.head _))).cell (i := 3) rfl⟩
  have HO : Hid (BI w [(B, [.string Q.name, .int .i64 Q.entry, .int .i64 Q.action, .int .i64 Q.restarts, .int .i64 Q.inputs, .int .i64 Q.outputs, .slice Q.ra QL Q.rc, .slice Q.pa QM Q.pc], 35), (G, [.int .i64 r.page, .int .i64 r.pages, .int .i64 r.frame, .int .i64 r.rights], 156)] W) := by rw [hW, hP]; exact BI.box hE _ _
  clear hE
  go_enter Tryz.func152, Tryz.ntmps152
  go_upto_region 1 with fail
  rw [← hW, ← hP]
  clear hW hP
  refine wp_region_held_drew (S := (fun w' => w'.cell? ⟨B, 0, none⟩ = some (.string Q.name) ∧ w'.cell? ⟨B, 1, none⟩ = some (.int .i64 Q.entry) ∧ w'.cell? ⟨B, 2, none⟩ = some (.int .i64 Q.action) ∧ w'.cell? ⟨B, 3, none⟩ = some (.int .i64 Q.restarts) ∧ w'.cell? ⟨B, 4, none⟩ = some (.int .i64 Q.inputs) ∧ w'.cell? ⟨B, 5, none⟩ = some (.int .i64 Q.outputs) ∧ w'.cell? ⟨B, 6, none⟩ = some (.slice Q.ra QL Q.rc) ∧ w'.cell? ⟨B, 7, none⟩ = some (.slice Q.pa QM Q.pc) ∧ w'.cell? ⟨G, 0, none⟩ = some (.int .i64 r.page) ∧ w'.cell? ⟨G, 1, none⟩ = some (.int .i64 r.pages) ∧ w'.cell? ⟨G, 2, none⟩ = some (.int .i64 r.frame) ∧ w'.cell? ⟨G, 3, none⟩ = some (.int .i64 r.rights))) Tryz.mixd (HS.out _ (HO.out.kept ((Keeps.refl _ _).drew)).1) (fun hHeld => ?_)
  simp only [List.size_toArray, List.length_cons, List.length_nil, Nat.reduceAdd, Array.replicate_succ, Array.replicate_zero, List.push_toArray, List.append_toArray, List.nil_append, List.cons_append]
  refine wpAnyH_take (i := 0) (oi := { dst := some 4, op := Op.fieldAddr 35 (Operand.tmp 2) 6, type := 0, pos := "partition.go:49", after := #[], guard := none }) (v := .pointer (some ⟨B, 6, none⟩)) rfl (by kernel_rfl) (by kernel_rfl) (by kernel_rfl) (fun _ _ _ h => h) (Or.inl ⟨by kernel_rfl, by (intro w hSw; (try dsimp only at hSw); go_simp)⟩) hHeld ?_
  simp only [Act.put, List.setIfInBounds_toArray, List.set_cons_zero, List.set_cons_succ]
  refine wpAnyH_take (i := 1) (oi := { dst := some 5, op := Op.load 32 (Operand.tmp 4), type := 32, pos := "partition.go:49", after := #[{ on := 0, ground := Ground.data }], guard := none }) (v := .slice Q.ra QL Q.rc) rfl (by kernel_rfl) (by kernel_rfl) (by kernel_rfl) (fun _ _ _ h => h) (Or.inl ⟨by kernel_rfl, by (intro w hSw; (try dsimp only at hSw); go_simp)⟩) hHeld ?_
  simp only [Act.put, List.setIfInBounds_toArray, List.set_cons_zero, List.set_cons_succ]
  refine wpAnyH_take (i := 2) (oi := { dst := some 6, op := Op.load 156 (Operand.tmp 1), type := 156, pos := "partition.go:49", after := #[], guard := none }) (v := .agg #[.int .i64 r.page, .int .i64 r.pages, .int .i64 r.frame, .int .i64 r.rights]) rfl (by kernel_rfl) (by kernel_rfl) (by kernel_rfl) (fun _ _ _ h => h) (Or.inl ⟨by kernel_rfl, by (intro w hSw; (try dsimp only at hSw); go_simp)⟩) hHeld ?_
  simp only [Act.put, List.setIfInBounds_toArray, List.set_cons_zero, List.set_cons_succ]
  refine wpAnyH_ready (rs := [3]) (by kernel_rfl) (by simp) ?_
  refine AllReadyH.cons (o := { dst := some 7, op := Op.call { callee := Callee.value (Operand.func 132), args := #[Operand.tmp 6], argTypes := #[156] }, type := 188, pos := "partition.go:49", after := #[{ on := 2, ground := Ground.data }], guard := none }) rfl (fun K hK => ?_) AllReadyH.nil
  go_simp
  refine (framesOf_any r W.drew).mono ?_
  rintro r w1 ⟨rfl, hKc⟩
  have HO1 : Hid (BI w [(B, [.string Q.name, .int .i64 Q.entry, .int .i64 Q.action, .int .i64 Q.restarts, .int .i64 Q.inputs, .int .i64 Q.outputs, .slice Q.ra QL Q.rc, .slice Q.pa QM Q.pc], 35), (G, [.int .i64 r.page, .int .i64 r.pages, .int .i64 r.frame, .int .i64 r.rights], 156)] w1) := HO.out.kept (((Keeps.refl _ _).drew).trans hKc fun _ _ h => h)
  clear hKc
  refine hK.out _ _ (HS.out _ HO1.out.1) (fun hHeld => ?_)
  simp only [Act.put, List.setIfInBounds_toArray, List.set_cons_zero, List.set_cons_succ]
  refine wpAnyH_ready (rs := [4]) (by kernel_rfl) (by simp) ?_
  refine AllReadyH.cons (o := { dst := some 8, op := Op.call { callee := Callee.value (Operand.func 131), args := #[Operand.tmp 5, Operand.func 132, Operand.tmp 7], argTypes := #[32, 190, 188] }, type := 4, pos := "partition.go:49", after := #[{ on := 1, ground := Ground.data }, { on := 3, ground := Ground.data }, { on := 3, ground := Ground.chain }], guard := none }) rfl (fun K hK => ?_) AllReadyH.nil
  go_simp
  refine (HM.out w1 HO1.out.2).mono ?_
  rintro r w2 ⟨rfl, hKc⟩
  have HO2 : Hid (BI w [(B, [.string Q.name, .int .i64 Q.entry, .int .i64 Q.action, .int .i64 Q.restarts, .int .i64 Q.inputs, .int .i64 Q.outputs, .slice Q.ra QL Q.rc, .slice Q.pa QM Q.pc], 35), (G, [.int .i64 r.page, .int .i64 r.pages, .int .i64 r.frame, .int .i64 r.rights], 156)] w2) := HO1.out.kept hKc
  clear hKc
  refine hK.out _ _ (HS.out _ HO2.out.1) (fun hHeld => ?_)
  simp only [Act.put, List.setIfInBounds_toArray, List.set_cons_zero, List.set_cons_succ]
  refine wpAnyH_take (i := 5) (oi := { dst := some 3, op := Op.assign (Operand.tmp 8), type := 4, pos := "partition.go:49", after := #[{ on := 4, ground := Ground.data }, { on := 4, ground := Ground.chain }, { on := 0, ground := Ground.phase }, { on := 1, ground := Ground.phase }, { on := 2, ground := Ground.phase }, { on := 3, ground := Ground.phase }, { on := 4, ground := Ground.phase }], guard := none }) (v := .bool (Q.rs.any fun s => s.fr.meets r.fr)) rfl (by kernel_rfl) (by kernel_rfl) (by kernel_rfl) (fun _ _ _ h => h) (Or.inl ⟨by kernel_rfl, by (intro w hSw; (try dsimp only at hSw); go_simp)⟩) hHeld ?_
  simp only [Act.put, List.setIfInBounds_toArray, List.set_cons_zero, List.set_cons_succ]
  refine wpAnyH_done (by kernel_rfl) ?_ _
  clear hHeld
  go_wp2
  go_ret
  exact ⟨rfl, HO2.out.2⟩
set_option maxHeartbeats 4000000 in
theorem q83 (x : Cfg) (N : Nat) (p i : Nat) (r : Rgn) (C I G A : Nat) (hp : p ≤ x.ps.length) (hr : r.fr.Ok) (hs : ∀ Q ∈ x.ps.take p, ∀ s ∈ Q.rs, s.fr.Ok) : Ask 151 #[.pointer (some ⟨C, 0, none⟩), .pointer (some ⟨I, 0, none⟩), .pointer (some ⟨G, 0, none⟩), .pointer (some ⟨A, 0, none⟩)] (Env x N [(C, [.int .i64 x.frames, .int .i64 x.major, .int .i64 x.kernel, .int .i64 x.room, .slice x.ca x.cs.length x.cc, .slice x.pa x.ps.length x.pc, .slice x.ha x.hs.length x.hc], 26), (I, [.int .i64 (p : Int)], 3), (G, [.int .i64 r.page, .int .i64 r.pages, .int .i64 r.frame, .int .i64 r.rights], 156), (A, [.int .i64 (p : Int), .int .i64 (i : Int)], 114)]) (unl (!((x.ps.take p).any fun Q => Q.rs.any fun s => s.fr.meets r.fr)) ⟨411, p, i⟩) := by
  intro w hE
  have HM : Hid (∀ w, Env x N [(C, [.int .i64 x.frames, .int .i64 x.major, .int .i64 x.kernel, .int .i64 x.room, .slice x.ca x.cs.length x.cc, .slice x.pa x.ps.length x.pc, .slice x.ha x.hs.length x.hc], 26), (I, [.int .i64 (p : Int)], 3), (G, [.int .i64 r.page, .int .i64 r.pages, .int .i64 r.frame, .int .i64 r.rights], 156), (A, [.int .i64 (p : Int), .int .i64 (i : Int)], 114)] w → Calls Tryz.prog 144 #[.slice x.pa p x.pc, .func (.func 152) #[] #[.pointer (some ⟨G, 0, none⟩)]] w fun e w' => e = .returned (.bool ((x.ps.take p).any fun Q => Q.rs.any fun s => s.fr.meets r.fr)) ∧ Keeps (fun _ => False) w w') := fun w hE => by
    have hl : (x.ps.take p).length = p := by rw [List.length_take]; omega
    have := containsFunc_par (x.ps.take p) x.pa x.pc 152 #[.pointer (some ⟨G, 0, none⟩)] (fun w' => Bls [(G, [.int .i64 r.page, .int .i64 r.pages, .int .i64 r.frame, .int .i64 r.rights], 156)] w' ∧ SegA Par.vs 8 w' x.pa (x.ps.take p) ∧ ∀ Q ∈ x.ps.take p, SegA Rgn.vs 4 w' Q.ra Q.rs) (fun Q => Q.rs.any fun s => s.fr.meets r.fr) (fun args w => enter_fn Tryz.func152 rfl rfl args w) (fun w w' h k => ⟨h.1.kept k, h.2.1.kept k fun _ _ _ h => h, fun X hX => (h.2.2 X hX).kept k fun _ _ _ h => h⟩) (fun w h => h.2.1) (by rw [hl]; have := hE.cin.plen; omega)
      (fun Q hQ w' h => sharedClo Q r G _ _ rfl (hE.cin.pin Q (List.mem_of_mem_take hQ)).rlen hr (hs Q hQ) w' h.1 (h.2.2 Q hQ)) w ⟨fun b hb => hE.bl b (by simp only [List.mem_cons, List.not_mem_nil, or_false] at hb ⊢; exact .inr (.inr (.inl hb))), hE.cin.pseg.take p, fun Q hQ => (hE.cin.pin Q (List.mem_of_mem_take hQ)).rseg⟩
    rw [hl] at this
    exact this
  have hpc : (p : Int) ≤ x.pc ∧ (x.pc : Int) ≤ 9223372036854775807 := by have := hE.cin.plen; unfold maxLen at this; omega
  clear hp hr hs
  have HEk : Hid (∀ w w', (Env x N [(C, [.int .i64 x.frames, .int .i64 x.major, .int .i64 x.kernel, .int .i64 x.room, .slice x.ca x.cs.length x.cc, .slice x.pa x.ps.length x.pc, .slice x.ha x.hs.length x.hc], 26), (I, [.int .i64 (p : Int)], 3), (G, [.int .i64 r.page, .int .i64 r.pages, .int .i64 r.frame, .int .i64 r.rights], 156), (A, [.int .i64 (p : Int), .int .i64 (i : Int)], 114)]) w → Keeps (fun _ => False) w w' → (Env x N [(C, [.int .i64 x.frames, .int .i64 x.major, .int .i64 x.kernel, .int .i64 x.room, .slice x.ca x.cs.length x.cc, .slice x.pa x.ps.length x.pc, .slice x.ha x.hs.length x.hc], 26), (I, [.int .i64 (p : Int)], 3), (G, [.int .i64 r.page, .int .i64 r.pages, .int .i64 r.frame, .int .i64 r.rights], 156), (A, [.int .i64 (p : Int), .int .i64 (i : Int)], 114)]) w') := fun _ _ h k => h.kept k
  have HS : Hid (∀ w', (Env x N [(C, [.int .i64 x.frames, .int .i64 x.major, .int .i64 x.kernel, .int .i64 x.room, .slice x.ca x.cs.length x.cc, .slice x.pa x.ps.length x.pc, .slice x.ha x.hs.length x.hc], 26), (I, [.int .i64 (p : Int)], 3), (G, [.int .i64 r.page, .int .i64 r.pages, .int .i64 r.frame, .int .i64 r.rights], 156), (A, [.int .i64 (p : Int), .int .i64 (i : Int)], 114)]) w' → (w'.cell? ⟨C, 0, none⟩ = some (.int .i64 x.frames) ∧ w'.cell? ⟨C, 1, none⟩ = some (.int .i64 x.major) ∧ w'.cell? ⟨C, 2, none⟩ = some (.int .i64 x.kernel) ∧ w'.cell? ⟨C, 3, none⟩ = some (.int .i64 x.room) ∧ w'.cell? ⟨C, 4, none⟩ = some (.slice x.ca x.cs.length x.cc) ∧ w'.cell? ⟨C, 5, none⟩ = some (.slice x.pa x.ps.length x.pc) ∧ w'.cell? ⟨C, 6, none⟩ = some (.slice x.ha x.hs.length x.hc) ∧ w'.cell? ⟨I, 0, none⟩ = some (.int .i64 (p : Int)) ∧ w'.cell? ⟨G, 0, none⟩ = some (.int .i64 r.page) ∧ w'.cell? ⟨G, 1, none⟩ = some (.int .i64 r.pages) ∧ w'.cell? ⟨G, 2, none⟩ = some (.int .i64 r.frame) ∧ w'.cell? ⟨G, 3, none⟩ = some (.int .i64 r.rights) ∧ w'.cell? ⟨A, 0, none⟩ = some (.int .i64 (p : Int)) ∧ w'.cell? ⟨A, 1, none⟩ = some (.int .i64 (i : Int)))) := fun w' h => ⟨(h.bl _ (.head _)).cell (i := 0) rfl, (h.bl _ (.head _)).cell (i := 1) rfl, (h.bl _ (.head _)).cell (i := 2) rfl, (h.bl _ (.head _)).cell (i := 3) rfl, (h.bl _ (.head _)).cell (i := 4) rfl, (h.bl _ (.head _)).cell (i := 5) rfl, (h.bl _ (.head _)).cell (i := 6) rfl, (h.bl _ (.tail _ (.head _))).cell (i := 0) rfl, (h.bl _ (.tail _ (.tail _ (.head _)))).cell (i := 0) rfl, (h.bl _ (.tail _ (.tail _ (.head _)))).cell (i := 1) rfl, (h.bl _ (.tail _ (.tail _ (.head _)))).cell (i := 2) rfl, (h.bl _ (.tail _ (.tail _ (.head _)))).cell (i := 3) rfl, (h.bl _ (.tail _ (.tail _ (.tail _ (.head _))))).cell (i := 0) rfl, (h.bl _ (.tail _ (.tail _ (.tail _ (.head _))))).cell (i := 1) rfl⟩
  obtain ⟨W, hW⟩ : ∃ W, W = w.alloc (.cells #[.int .i64 0, .int .i64 0, .int .i64 0] 140) := ⟨_, rfl⟩
  obtain ⟨R, hR⟩ : ∃ R, R = w.heap.size := ⟨_, rfl⟩
  have HO : Hid (ObI w (Env x N [(C, [.int .i64 x.frames, .int .i64 x.major, .int .i64 x.kernel, .int .i64 x.room, .slice x.ca x.cs.length x.cc, .slice x.pa x.ps.length x.pc, .slice x.ha x.hs.length x.hc], 26), (I, [.int .i64 (p : Int)], 3), (G, [.int .i64 r.page, .int .i64 r.pages, .int .i64 r.frame, .int .i64 r.rights], 156), (A, [.int .i64 (p : Int), .int .i64 (i : Int)], 114)]) R W) := by rw [hW, hR]; exact ⟨hE.kept ((Keeps.refl _ _).alloc _), Blk.new _ _ _, (Keeps.refl _ _).alloc _, Nat.le_refl _⟩
  clear hE
  go_enter Tryz.func151, Tryz.ntmps151
  go_upto_region 1 with fail
  rw [← hW, ← hR]
  clear hW hR
  obtain ⟨c0_0, c0_1, c0_2, c0_3, c0_4, c0_5, c0_6, c1_0, c2_0, c2_1, c2_2, c2_3, c3_0, c3_1⟩ := HS.out _ HO.out.env
  go_wp2_with fail
  refine (HM.out W HO.out.env).mono ?_
  rintro e w1 ⟨rfl, hKc⟩
  have HO1 : Hid (ObI w (Env x N [(C, [.int .i64 x.frames, .int .i64 x.major, .int .i64 x.kernel, .int .i64 x.room, .slice x.ca x.cs.length x.cc, .slice x.pa x.ps.length x.pc, .slice x.ha x.hs.length x.hc], 26), (I, [.int .i64 (p : Int)], 3), (G, [.int .i64 r.page, .int .i64 r.pages, .int .i64 r.frame, .int .i64 r.rights], 156), (A, [.int .i64 (p : Int), .int .i64 (i : Int)], 114)]) R w1) := HO.out.kept HEk.out hKc
  clear hKc
  clear c0_0 c0_1 c0_2 c0_3 c0_4 c0_5 c0_6 c1_0 c2_0 c2_1 c2_2 c2_3 c3_0 c3_1
  obtain ⟨c0_0, c0_1, c0_2, c0_3, c0_4, c0_5, c0_6, c1_0, c2_0, c2_1, c2_2, c2_3, c3_0, c3_1⟩ := HS.out _ HO1.out.env
  go_wp2_with fail
  refine (unless_any (!((x.ps.take p).any fun Q => Q.rs.any fun s => s.fr.meets r.fr)) 411 p i w1).mono ?_
  rintro e w2 ⟨rfl, hKc⟩
  have HO2 : Hid (ObI w (Env x N [(C, [.int .i64 x.frames, .int .i64 x.major, .int .i64 x.kernel, .int .i64 x.room, .slice x.ca x.cs.length x.cc, .slice x.pa x.ps.length x.pc, .slice x.ha x.hs.length x.hc], 26), (I, [.int .i64 (p : Int)], 3), (G, [.int .i64 r.page, .int .i64 r.pages, .int .i64 r.frame, .int .i64 r.rights], 156), (A, [.int .i64 (p : Int), .int .i64 (i : Int)], 114)]) R w2) := HO1.out.kept HEk.out hKc
  clear hKc
  clear c0_0 c0_1 c0_2 c0_3 c0_4 c0_5 c0_6 c1_0 c2_0 c2_1 c2_2 c2_3 c3_0 c3_1
  obtain ⟨c0_0, c0_1, c0_2, c0_3, c0_4, c0_5, c0_6, c1_0, c2_0, c2_1, c2_2, c2_3, c3_0, c3_1⟩ := HS.out _ HO2.out.env
  obtain ⟨Gz, hG⟩ : ∃ Gz : Flt, unl (!((x.ps.take p).any fun Q => Q.rs.any fun s => s.fr.meets r.fr)) ⟨411, p, i⟩ = Gz := ⟨_, rfl⟩
  have HG : Hid (unl (!((x.ps.take p).any fun Q => Q.rs.any fun s => s.fr.meets r.fr)) ⟨411, p, i⟩ = Gz) := hG
  rw [hG]
  clear hG
  obtain ⟨gn, ga, gb⟩ := Gz
  have m0 := HO2.out.ans.cell (i := 0) rfl
  have m1 := HO2.out.ans.cell (i := 1) rfl
  have m2 := HO2.out.ans.cell (i := 2) rfl
  have n0 := HO2.out.ans.frozen 0
  have n1 := HO2.out.ans.frozen 1
  have n2 := HO2.out.ans.frozen 2
  clear c0_0 c0_1 c0_2 c0_3 c0_4 c0_5 c0_6 c1_0 c2_0 c2_1 c2_2 c2_3 c3_0 c3_1
  go_wp2
  obtain ⟨hB, hK3⟩ := set3 HO2.out.ans (.int .i64 gn) (.int .i64 ga) (.int .i64 gb)
  obtain ⟨Wb, hWb⟩ : ∃ Wb, Wb = (((w2.setCell ⟨R, 0, none⟩ (.int .i64 gn)).setCell ⟨R, 1, none⟩ (.int .i64 ga)).setCell ⟨R, 2, none⟩ (.int .i64 gb)) := ⟨_, rfl⟩
  rw [← hWb] at hB hK3 ⊢
  (try simp only [Exit.inBlock, Exit.then])
  refine bodyPost_ret (results_cell_row rfl _ _ R 140 _ (0, 0) _ rfl hB Tryz.underlying140 rfl (by kernel_rfl)) rfl ?_
  have hlo := HO.out.lo
  exact ⟨by rw [HG.out], HO2.out.keeps.trans hK3 fun k hk e => by omega⟩
end Go.Proofs.YtofjbkoojimmhaaGreat
