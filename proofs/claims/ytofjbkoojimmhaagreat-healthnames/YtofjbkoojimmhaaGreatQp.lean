import Derived.Test.YtofjbkoojimmhaaGreatQo
namespace Go.Proofs.YtofjbkoojimmhaaGreat
open Go.RowKit
set_option linter.unusedVariables false
set_option linter.unusedSimpArgs false
set_option maxRecDepth 6000

set_option maxHeartbeats 8000000 in
theorem regionQuestions_any (x : Cfg) (N p i : Nat) (P : Par) (r : Rgn) (hP : x.ps[p]? = some P) (hr : P.rs[i]? = some r) (h1 : 1 ≤ x.frames) (h2 : x.frames ≤ 1024) (hah : ∀ s ∈ P.rs.take i, s.okB x.frames = true) (hpv : ∀ Q ∈ x.ps.take p, ∀ s ∈ Q.rs, s.okB x.frames = true) :
    Makes 112 #[x.v, .int .i64 (p : Int), .int .i64 (i : Int)] (Env x N []) (firstF (rgnF x p P i r)) := by
  intro w hE
  have hPi := hE.cin.pin P (List.mem_of_getElem? hP)
  have hrf := hPi.rfine r (List.mem_of_getElem? hr)
  have hPlt := (List.getElem?_eq_some_iff.1 hP).1
  have hrlt := (List.getElem?_eq_some_iff.1 hr).1
  obtain ⟨g0, o0, hpa, hc0⟩ := hE.cin.par hP
  obtain ⟨g1, o1, hra, hc1⟩ := hPi.rseg.at hr
  obtain ⟨W, hW⟩ : ∃ W, W = (x.laid w).alloc (.cells #[.int .i64 (p : Int)] 3) := ⟨_, rfl⟩
  obtain ⟨C, hC⟩ : ∃ C, C = w.heap.size := ⟨_, rfl⟩
  obtain ⟨I, hI⟩ : ∃ I, I = w.heap.size + 1 := ⟨_, rfl⟩
  have hE1 : Env x N [(C, [.int .i64 x.frames, .int .i64 x.major, .int .i64 x.kernel, .int .i64 x.room, .slice x.ca x.cs.length x.cc, .slice x.pa x.ps.length x.pc, .slice x.ha x.hs.length x.hc], 26)] (x.laid w) := by rw [hC]; exact hE.box _ _
  have hE2 : Env x N [(I, [.int .i64 (p : Int)], 3), (C, [.int .i64 x.frames, .int .i64 x.major, .int .i64 x.kernel, .int .i64 x.room, .slice x.ca x.cs.length x.cc, .slice x.pa x.ps.length x.pc, .slice x.ha x.hs.length x.hc], 26)] W := by
    have := hE1.box [.int .i64 (p : Int)] 3
    rw [hW, hI]
    simpa [Cfg.laid] using this
  obtain ⟨PL, hPL⟩ : ∃ PL, x.ps.length = PL := ⟨_, rfl⟩
  obtain ⟨RL, hRL⟩ : ∃ RL, P.rs.length = RL := ⟨_, rfl⟩
  have HS : Hid (∀ w', Env x N [(I, [.int .i64 (p : Int)], 3), (C, [.int .i64 x.frames, .int .i64 x.major, .int .i64 x.kernel, .int .i64 x.room, .slice x.ca x.cs.length x.cc, .slice x.pa x.ps.length x.pc, .slice x.ha x.hs.length x.hc], 26)] w' → (w'.cell? ⟨C, 5, none⟩ = some (.slice (some ⟨g0, o0, none⟩) PL x.pc) ∧ w'.cell? ⟨I, 0, none⟩ = some (.int .i64 (p : Int)) ∧ w'.cell? ⟨g0, o0 + p * 8 + 6, none⟩ = some (.slice (some ⟨g1, o1, none⟩) RL P.rc) ∧ w'.cell? ⟨g1, o1 + i * 4, none⟩ = some (.int .i64 r.page) ∧ w'.cell? ⟨g1, o1 + i * 4 + 1, none⟩ = some (.int .i64 r.pages) ∧ w'.cell? ⟨g1, o1 + i * 4 + 2, none⟩ = some (.int .i64 r.frame) ∧ w'.cell? ⟨g1, o1 + i * 4 + 3, none⟩ = some (.int .i64 r.rights))) := by
    intro w' h
    have hPi := h.cin.pin P (List.mem_of_getElem? hP)
    obtain ⟨g2, o2, e2, hc2⟩ := h.cin.par hP
    obtain ⟨g3, o3, e3, hc3⟩ := hPi.rseg.at hr
    rw [hpa] at e2
    cases e2
    rw [hra] at e3
    cases e3
    have z5 := (h.bl _ (.tail _ (.head _))).cell (i := 5) rfl
    have z6 := hc2 6 _ rfl
    have y0 := hc3 0 _ rfl
    rw [Nat.add_zero] at y0
    rw [hpa, hPL] at z5
    rw [hra, hRL] at z6
    exact ⟨z5, (h.bl _ (.head _)).cell (i := 0) rfl, z6, y0, hc3 1 _ rfl, hc3 2 _ rfl, hc3 3 _ rfl⟩
  have HO : Hid (Env x N [(I, [.int .i64 (p : Int)], 3), (C, [.int .i64 x.frames, .int .i64 x.major, .int .i64 x.kernel, .int .i64 x.room, .slice x.ca x.cs.length x.cc, .slice x.pa x.ps.length x.pc, .slice x.ha x.hs.length x.hc], 26)] W ∧ Keeps (fun _ => False) w W ∧ True) := ⟨hE2, by rw [hW]; exact ((Keeps.refl _ _).alloc _).alloc _, trivial⟩
  have HF : Hid (∀ (A G H : Nat) (w' : World), Env x N ((A, [.int .i64 (p : Int), .int .i64 (i : Int)], 114) :: (H, [.slice (some ⟨g1, o1, none⟩) i P.rc], 32) :: (G, [.int .i64 r.page, .int .i64 r.pages, .int .i64 r.frame, .int .i64 r.rights], 156) :: [(I, [.int .i64 (p : Int)], 3), (C, [.int .i64 x.frames, .int .i64 x.major, .int .i64 x.kernel, .int .i64 x.room, .slice x.ca x.cs.length x.cc, .slice x.pa x.ps.length x.pc, .slice x.ha x.hs.length x.hc], 26)]) w' → Keeps (fun _ => False) w w' →
      MkP (firstF (rgnF x p P i r)) w (.returned (.slice (some ⟨w'.heap.size, 0, none⟩) 4 4)) (w'.alloc (.cells #[.func (.func 146) #[] #[.pointer (some ⟨G, 0, none⟩), .pointer (some ⟨C, 0, none⟩), .pointer (some ⟨A, 0, none⟩)], .func (.func 148) #[] #[.pointer (some ⟨H, 0, none⟩), .pointer (some ⟨G, 0, none⟩), .pointer (some ⟨A, 0, none⟩)], .func (.func 150) #[] #[.pointer (some ⟨H, 0, none⟩), .pointer (some ⟨G, 0, none⟩), .pointer (some ⟨A, 0, none⟩)], .func (.func 151) #[] #[.pointer (some ⟨C, 0, none⟩), .pointer (some ⟨I, 0, none⟩), .pointer (some ⟨G, 0, none⟩), .pointer (some ⟨A, 0, none⟩)]] 158))) := by
    intro A G H w' h k
    rw [← hra] at h
    exact MkP.of (rgnQs x N p i P r C I G H A hP hr hrf h1 h2 hah hpv _ rfl) (k.trans ((Keeps.refl (fun _ => False) _).alloc _) fun _ _ h => h) (Blk.new _ _ _) (h.kept ((Keeps.refl _ _).alloc _)) rfl rfl
  have hb1 : (PL : Int) ≤ x.pc ∧ (x.pc : Int) ≤ 9223372036854775807 := by have := hE.cin.plen; unfold maxLen at this; omega
  have hb2 : (RL : Int) ≤ P.rc ∧ (P.rc : Int) ≤ 9223372036854775807 := by have := hPi.rlen; unfold maxLen at this; omega
  have hib : i ≤ P.rc := by have := hPi.rlen; omega
  rw [hPL] at hPlt
  rw [hRL] at hrlt
  clear hE hPi hrf hpa hc0 hra hc1 hE1 hE2 hPL hRL hah hpv h1 h2 hP hr
  unfold Cfg.laid at hW
  go_enter Tryz.func112, Tryz.ntmps112
  go_upto_region 1 with fail
  rw [← hW, ← hI, ← hC]
  clear hW hI hC
  refine wp_region_held_drew (S := (fun w' => w'.cell? ⟨C, 5, none⟩ = some (.slice (some ⟨g0, o0, none⟩) PL x.pc) ∧ w'.cell? ⟨I, 0, none⟩ = some (.int .i64 (p : Int)) ∧ w'.cell? ⟨g0, o0 + p * 8 + 6, none⟩ = some (.slice (some ⟨g1, o1, none⟩) RL P.rc) ∧ w'.cell? ⟨g1, o1 + i * 4, none⟩ = some (.int .i64 r.page) ∧ w'.cell? ⟨g1, o1 + i * 4 + 1, none⟩ = some (.int .i64 r.pages) ∧ w'.cell? ⟨g1, o1 + i * 4 + 2, none⟩ = some (.int .i64 r.frame) ∧ w'.cell? ⟨g1, o1 + i * 4 + 3, none⟩ = some (.int .i64 r.rights))) Tryz.mixd (HS.out _ (HO.out.1.kept ((Keeps.refl _ _).drew))) (fun hHeld => ?_)
  simp only [List.size_toArray, List.length_cons, List.length_nil, Nat.reduceAdd, Array.replicate_succ, Array.replicate_zero, List.push_toArray, List.append_toArray, List.nil_append, List.cons_append]
  refine wpAnyH_take (i := 0) (oi := { dst := some 10, op := Op.fieldAddr 26 (Operand.tmp 3) 5, type := 0, pos := "partition.go:41", after := #[], guard := none }) (v := .pointer (some ⟨C, 5, none⟩)) rfl (by kernel_rfl) (by kernel_rfl) (by kernel_rfl) (fun _ _ _ h => h) (Or.inl ⟨by kernel_rfl, by (intro w hSw; (try dsimp only at hSw); go_simp)⟩) hHeld ?_
  simp only [Act.put, List.setIfInBounds_toArray, List.set_cons_zero, List.set_cons_succ]
  refine wpAnyH_take (i := 1) (oi := { dst := some 11, op := Op.load 23 (Operand.tmp 10), type := 23, pos := "partition.go:41", after := #[{ on := 0, ground := Ground.data }], guard := none }) (v := .slice (some ⟨g0, o0, none⟩) PL x.pc) rfl (by kernel_rfl) (by kernel_rfl) (by kernel_rfl) (fun _ _ _ h => h) (Or.inl ⟨by kernel_rfl, by (intro w hSw; (try dsimp only at hSw); go_simp)⟩) hHeld ?_
  simp only [Act.put, List.setIfInBounds_toArray, List.set_cons_zero, List.set_cons_succ]
  refine wpAnyH_take (i := 2) (oi := { dst := some 12, op := Op.load 3 (Operand.tmp 4), type := 3, pos := "partition.go:41", after := #[], guard := none }) (v := .int .i64 (p : Int)) rfl (by kernel_rfl) (by kernel_rfl) (by kernel_rfl) (fun _ _ _ h => h) (Or.inl ⟨by kernel_rfl, by (intro w hSw; (try dsimp only at hSw); go_simp)⟩) hHeld ?_
  simp only [Act.put, List.setIfInBounds_toArray, List.set_cons_zero, List.set_cons_succ]
  refine wpAnyH_take (i := 3) (oi := { dst := some 13, op := Op.indexAddr 23 (Operand.tmp 11) (Operand.tmp 12), type := 0, pos := "partition.go:41", after := #[{ on := 1, ground := Ground.data }, { on := 2, ground := Ground.data }], guard := none }) (v := .pointer (some ⟨g0, o0 + p * 8, none⟩)) rfl (by kernel_rfl) (by kernel_rfl) (by kernel_rfl) (fun _ _ _ h => h) (Or.inl ⟨by kernel_rfl, by (intro w hSw; (try dsimp only at hSw); go_simp)⟩) hHeld ?_
  simp only [Act.put, List.setIfInBounds_toArray, List.set_cons_zero, List.set_cons_succ]
  refine wpAnyH_take (i := 4) (oi := { dst := some 14, op := Op.fieldAddr 35 (Operand.tmp 13) 6, type := 0, pos := "partition.go:41", after := #[{ on := 3, ground := Ground.data }], guard := none }) (v := .pointer (some ⟨g0, o0 + p * 8 + 6, none⟩)) rfl (by kernel_rfl) (by kernel_rfl) (by kernel_rfl) (fun _ _ _ h => h) (Or.inl ⟨by kernel_rfl, by (intro w hSw; (try dsimp only at hSw); go_simp)⟩) hHeld ?_
  simp only [Act.put, List.setIfInBounds_toArray, List.set_cons_zero, List.set_cons_succ]
  refine wpAnyH_take (i := 5) (oi := { dst := some 15, op := Op.load 32 (Operand.tmp 14), type := 32, pos := "partition.go:41", after := #[{ on := 4, ground := Ground.data }], guard := none }) (v := .slice (some ⟨g1, o1, none⟩) RL P.rc) rfl (by kernel_rfl) (by kernel_rfl) (by kernel_rfl) (fun _ _ _ h => h) (Or.inl ⟨by kernel_rfl, by (intro w hSw; (try dsimp only at hSw); go_simp)⟩) hHeld ?_
  simp only [Act.put, List.setIfInBounds_toArray, List.set_cons_zero, List.set_cons_succ]
  refine wpAnyH_take (i := 6) (oi := { dst := some 16, op := Op.move (Operand.tmp 2), type := 3, pos := "partition.go:41", after := #[], guard := none }) (v := .int .i64 (i : Int)) rfl (by kernel_rfl) (by kernel_rfl) (by kernel_rfl) (fun _ _ _ h => h) (Or.inl ⟨by kernel_rfl, by (intro w hSw; (try dsimp only at hSw); go_simp)⟩) hHeld ?_
  simp only [Act.put, List.setIfInBounds_toArray, List.set_cons_zero, List.set_cons_succ]
  refine wpAnyH_take (i := 7) (oi := { dst := some 17, op := Op.indexAddr 32 (Operand.tmp 15) (Operand.tmp 16), type := 0, pos := "partition.go:41", after := #[{ on := 5, ground := Ground.data }, { on := 6, ground := Ground.data }], guard := none }) (v := .pointer (some ⟨g1, o1 + i * 4, none⟩)) rfl (by kernel_rfl) (by kernel_rfl) (by kernel_rfl) (fun _ _ _ h => h) (Or.inl ⟨by kernel_rfl, by (intro w hSw; (try dsimp only at hSw); go_simp)⟩) hHeld ?_
  simp only [Act.put, List.setIfInBounds_toArray, List.set_cons_zero, List.set_cons_succ]
  refine wpAnyH_take (i := 8) (oi := { dst := some 18, op := Op.load 156 (Operand.tmp 17), type := 156, pos := "partition.go:41", after := #[{ on := 7, ground := Ground.data }], guard := none }) (v := .agg #[.int .i64 r.page, .int .i64 r.pages, .int .i64 r.frame, .int .i64 r.rights]) rfl (by kernel_rfl) (by kernel_rfl) (by kernel_rfl) (fun _ _ _ h => h) (Or.inl ⟨by kernel_rfl, by (intro w hSw; (try dsimp only at hSw); go_simp)⟩) hHeld ?_
  simp only [Act.put, List.setIfInBounds_toArray, List.set_cons_zero, List.set_cons_succ]
  refine wpAnyH_take (i := 9) (oi := { dst := some 19, op := Op.fieldAddr 26 (Operand.tmp 3) 5, type := 0, pos := "partition.go:41", after := #[], guard := none }) (v := .pointer (some ⟨C, 5, none⟩)) rfl (by kernel_rfl) (by kernel_rfl) (by kernel_rfl) (fun _ _ _ h => h) (Or.inl ⟨by kernel_rfl, by (intro w hSw; (try dsimp only at hSw); go_simp)⟩) hHeld ?_
  simp only [Act.put, List.setIfInBounds_toArray, List.set_cons_zero, List.set_cons_succ]
  refine wpAnyH_take (i := 10) (oi := { dst := some 20, op := Op.load 23 (Operand.tmp 19), type := 23, pos := "partition.go:41", after := #[{ on := 9, ground := Ground.data }], guard := none }) (v := .slice (some ⟨g0, o0, none⟩) PL x.pc) rfl (by kernel_rfl) (by kernel_rfl) (by kernel_rfl) (fun _ _ _ h => h) (Or.inl ⟨by kernel_rfl, by (intro w hSw; (try dsimp only at hSw); go_simp)⟩) hHeld ?_
  simp only [Act.put, List.setIfInBounds_toArray, List.set_cons_zero, List.set_cons_succ]
  refine wpAnyH_take (i := 11) (oi := { dst := some 21, op := Op.load 3 (Operand.tmp 4), type := 3, pos := "partition.go:41", after := #[], guard := none }) (v := .int .i64 (p : Int)) rfl (by kernel_rfl) (by kernel_rfl) (by kernel_rfl) (fun _ _ _ h => h) (Or.inl ⟨by kernel_rfl, by (intro w hSw; (try dsimp only at hSw); go_simp)⟩) hHeld ?_
  simp only [Act.put, List.setIfInBounds_toArray, List.set_cons_zero, List.set_cons_succ]
  refine wpAnyH_take (i := 12) (oi := { dst := some 22, op := Op.indexAddr 23 (Operand.tmp 20) (Operand.tmp 21), type := 0, pos := "partition.go:41", after := #[{ on := 10, ground := Ground.data }, { on := 11, ground := Ground.data }], guard := none }) (v := .pointer (some ⟨g0, o0 + p * 8, none⟩)) rfl (by kernel_rfl) (by kernel_rfl) (by kernel_rfl) (fun _ _ _ h => h) (Or.inl ⟨by kernel_rfl, by (intro w hSw; (try dsimp only at hSw); go_simp)⟩) hHeld ?_
  simp only [Act.put, List.setIfInBounds_toArray, List.set_cons_zero, List.set_cons_succ]
  refine wpAnyH_take (i := 13) (oi := { dst := some 23, op := Op.fieldAddr 35 (Operand.tmp 22) 6, type := 0, pos := "partition.go:41", after := #[{ on := 12, ground := Ground.data }], guard := none }) (v := .pointer (some ⟨g0, o0 + p * 8 + 6, none⟩)) rfl (by kernel_rfl) (by kernel_rfl) (by kernel_rfl) (fun _ _ _ h => h) (Or.inl ⟨by kernel_rfl, by (intro w hSw; (try dsimp only at hSw); go_simp)⟩) hHeld ?_
  simp only [Act.put, List.setIfInBounds_toArray, List.set_cons_zero, List.set_cons_succ]
  refine wpAnyH_take (i := 14) (oi := { dst := some 24, op := Op.load 32 (Operand.tmp 23), type := 32, pos := "partition.go:41", after := #[{ on := 13, ground := Ground.data }], guard := none }) (v := .slice (some ⟨g1, o1, none⟩) RL P.rc) rfl (by kernel_rfl) (by kernel_rfl) (by kernel_rfl) (fun _ _ _ h => h) (Or.inl ⟨by kernel_rfl, by (intro w hSw; (try dsimp only at hSw); go_simp)⟩) hHeld ?_
  simp only [Act.put, List.setIfInBounds_toArray, List.set_cons_zero, List.set_cons_succ]
  refine wpAnyH_take (i := 15) (oi := { dst := some 25, op := Op.move (Operand.tmp 2), type := 3, pos := "partition.go:41", after := #[], guard := none }) (v := .int .i64 (i : Int)) rfl (by kernel_rfl) (by kernel_rfl) (by kernel_rfl) (fun _ _ _ h => h) (Or.inl ⟨by kernel_rfl, by (intro w hSw; (try dsimp only at hSw); go_simp)⟩) hHeld ?_
  simp only [Act.put, List.setIfInBounds_toArray, List.set_cons_zero, List.set_cons_succ]
  refine wpAnyH_take (i := 16) (oi := { dst := some 26, op := Op.slice 32 (Operand.tmp 24) none (some (Operand.tmp 25)) none, type := 32, pos := "partition.go:41", after := #[{ on := 14, ground := Ground.data }, { on := 15, ground := Ground.data }], guard := none }) (v := .slice (some ⟨g1, o1, none⟩) i P.rc) rfl (by kernel_rfl) (by kernel_rfl) (by kernel_rfl) (fun _ _ _ h => h) (Or.inl ⟨by kernel_rfl, by (intro w hSw; (try dsimp only at hSw); go_simp)⟩) hHeld ?_
  simp only [Act.put, List.setIfInBounds_toArray, List.set_cons_zero, List.set_cons_succ]
  obtain ⟨w0, hw0⟩ : ∃ w0, w0 = W.drew := ⟨_, rfl⟩
  have hs0 : Env x N [(I, [.int .i64 (p : Int)], 3), (C, [.int .i64 x.frames, .int .i64 x.major, .int .i64 x.kernel, .int .i64 x.room, .slice x.ca x.cs.length x.cc, .slice x.pa x.ps.length x.pc, .slice x.ha x.hs.length x.hc], 26)] w0 ∧ Keeps (fun _ => False) w w0 := by rw [hw0]; exact ⟨HO.out.1.kept ((Keeps.refl _ _).drew), HO.out.2.1.trans ((Keeps.refl (fun _ => False) _).drew) fun _ _ h => h⟩
  have hCI : C < w0.heap.size ∧ I < w0.heap.size := ⟨(hs0.1.bl _ (.tail _ (.head _))).lt, (hs0.1.bl _ (.head _)).lt⟩
  rw [← hw0]
  clear hw0
  refine wpAnyH_ready (rs := [17, 18]) (by kernel_rfl) (by simp) ?_
  refine (AllReadyH.cons (o := { dst := some 7, op := Op.alloc 156, type := 0, pos := "partition.go:41", after := #[], guard := none }) rfl (fun K hK => ?_) (AllReadyH.cons (o := { dst := some 8, op := Op.alloc 32, type := 0, pos := "partition.go:41", after := #[], guard := none }) rfl (fun K hK => ?_) AllReadyH.nil))
  · go_simp
    obtain ⟨wa, hw⟩ : ∃ wa, wa = w0.alloc (.cells #[.int .i64 0, .int .i64 0, .int .i64 0, .int .i64 0] 156) := ⟨_, rfl⟩
    obtain ⟨G, hG⟩ : ∃ G, G = w0.heap.size := ⟨_, rfl⟩
    have ha : Env x N ((G, [.int .i64 0, .int .i64 0, .int .i64 0, .int .i64 0], 156) :: [(I, [.int .i64 (p : Int)], 3), (C, [.int .i64 x.frames, .int .i64 x.major, .int .i64 x.kernel, .int .i64 x.room, .slice x.ca x.cs.length x.cc, .slice x.pa x.ps.length x.pc, .slice x.ha x.hs.length x.hc], 26)]) wa ∧ Keeps (fun _ => False) w wa := by rw [hw, hG]; exact ⟨hs0.1.box _ _, hs0.2.trans ((Keeps.refl (fun _ => False) _).alloc _) fun _ _ h => h⟩
    have hltG : w0.heap.size ≤ G ∧ w.heap.size ≤ G ∧ N ≤ G ∧ G < wa.heap.size := ⟨by rw [hG]; exact Nat.le_refl _, by rw [hG]; exact hs0.2.size, by rw [hG]; exact hs0.1.nn, (ha.1.bl _ (.head _)).lt⟩
    rw [← hw, ← hG]
    clear hw hG
    refine hK.out _ _ (HS.out _ (ha.1.sub fun b hb => List.mem_cons_of_mem _ hb)) (fun hHeld => ?_)
    simp only [Act.put, List.setIfInBounds_toArray, List.set_cons_zero, List.set_cons_succ]
    refine wpAnyH_ready (rs := [18]) (by kernel_rfl) (by simp) ?_
    refine AllReadyH.cons (o := { dst := some 8, op := Op.alloc 32, type := 0, pos := "partition.go:41", after := #[], guard := none }) rfl (fun K hK => ?_) AllReadyH.nil
    have hltX : w0.heap.size < wa.heap.size := by omega
    go_simp
    obtain ⟨wb, hw⟩ : ∃ wb, wb = wa.alloc (.cells #[.slice none 0 0] 32) := ⟨_, rfl⟩
    obtain ⟨H, hH⟩ : ∃ H, H = wa.heap.size := ⟨_, rfl⟩
    have hb : Env x N ((H, [.slice none 0 0], 32) :: ((G, [.int .i64 0, .int .i64 0, .int .i64 0, .int .i64 0], 156) :: [(I, [.int .i64 (p : Int)], 3), (C, [.int .i64 x.frames, .int .i64 x.major, .int .i64 x.kernel, .int .i64 x.room, .slice x.ca x.cs.length x.cc, .slice x.pa x.ps.length x.pc, .slice x.ha x.hs.length x.hc], 26)])) wb ∧ Keeps (fun _ => False) w wb := by rw [hw, hH]; exact ⟨ha.1.box _ _, ha.2.trans ((Keeps.refl (fun _ => False) _).alloc _) fun _ _ h => h⟩
    have hltH : w0.heap.size ≤ H ∧ w.heap.size ≤ H ∧ N ≤ H ∧ H < wb.heap.size := ⟨by rw [hH]; exact Nat.le_of_lt hltX, by rw [hH]; exact ha.2.size, by rw [hH]; exact ha.1.nn, (hb.1.bl _ (.head _)).lt⟩
    rw [← hw, ← hH]
    have hGH : G < H := by rw [hH]; exact hltG.2.2.2
    clear hw hH
    have hb2 : Env x N ((G, [.int .i64 0, .int .i64 0, .int .i64 0, .int .i64 0], 156) :: (H, [.slice none 0 0], 32) :: [(I, [.int .i64 (p : Int)], 3), (C, [.int .i64 x.frames, .int .i64 x.major, .int .i64 x.kernel, .int .i64 x.room, .slice x.ca x.cs.length x.cc, .slice x.pa x.ps.length x.pc, .slice x.ha x.hs.length x.hc], 26)]) wb := hb.1.sub fun b hb => by simp only [List.mem_cons, List.not_mem_nil, or_false] at hb ⊢; rcases hb with h | h | h | h <;> simp [h]
    have HK0 : Hid (Keeps (fun _ => False) w wb) := hb.2
    refine hK.out _ _ (HS.out _ (hb2.sub fun b hb => List.mem_cons_of_mem _ (List.mem_cons_of_mem _ hb))) (fun hHeld => ?_)
    simp only [Act.put, List.setIfInBounds_toArray, List.set_cons_zero, List.set_cons_succ]
    refine wpAnyH_ready (rs := [19]) (by kernel_rfl) (by simp) ?_
    refine AllReadyH.cons (o := { dst := none, op := Op.store 156 (Operand.tmp 7) (Operand.tmp 18), type := 0, pos := "partition.go:41", after := #[{ on := 17, ground := Ground.data }, { on := 8, ground := Ground.data }, { on := 0, ground := Ground.phase }, { on := 1, ground := Ground.phase }, { on := 2, ground := Ground.phase }, { on := 3, ground := Ground.phase }, { on := 4, ground := Ground.phase }, { on := 5, ground := Ground.phase }, { on := 6, ground := Ground.phase }, { on := 7, ground := Ground.phase }, { on := 8, ground := Ground.phase }, { on := 9, ground := Ground.textOnly Departure.lateStores }, { on := 10, ground := Ground.textOnly Departure.lateStores }, { on := 11, ground := Ground.textOnly Departure.lateStores }, { on := 12, ground := Ground.textOnly Departure.lateStores }, { on := 13, ground := Ground.textOnly Departure.lateStores }, { on := 14, ground := Ground.textOnly Departure.lateStores }, { on := 15, ground := Ground.textOnly Departure.lateStores }, { on := 16, ground := Ground.textOnly Departure.lateStoresUnsure }, { on := 17, ground := Ground.phase }, { on := 18, ground := Ground.phase }], guard := none }) rfl (fun K hK => ?_) AllReadyH.nil
    refine wp_store_row 156 _ _ rfl G #[.int .i64 r.page, .int .i64 r.pages, .int .i64 r.frame, .int .i64 r.rights] (by rfl) (by rfl) 156 _ (hb2.bl _ (.head _)) Tryz.size156 rfl (all39 ..) ?_
    obtain ⟨wc, hwc⟩ : ∃ wc, wc = wb.setRow G #[.int .i64 r.page, .int .i64 r.pages, .int .i64 r.frame, .int .i64 r.rights] := ⟨_, rfl⟩
    have hBc : Blk wc G [.int .i64 r.page, .int .i64 r.pages, .int .i64 r.frame, .int .i64 r.rights] 156 := by rw [hwc]; exact (hb2.bl _ (.head _)).setRow _
    have kc : Keeps (fun k => k = G) wb wc := by rw [hwc]; exact (Keeps.refl _ _).setRow _ _ fun _ => rfl
    have hc : Env x N ((G, [.int .i64 r.page, .int .i64 r.pages, .int .i64 r.frame, .int .i64 r.rights], 156) :: (H, [.slice none 0 0], 32) :: [(I, [.int .i64 (p : Int)], 3), (C, [.int .i64 x.frames, .int .i64 x.major, .int .i64 x.kernel, .int .i64 x.room, .slice x.ca x.cs.length x.cc, .slice x.pa x.ps.length x.pc, .slice x.ha x.hs.length x.hc], 26)]) wc := hb2.put kc hBc hltG.2.2.1 fun b hb => by
      simp only [List.mem_cons, List.not_mem_nil, or_false] at hb
      rcases hb with rfl | rfl | rfl <;> dsimp only <;> omega
    have HK1 : Hid (Keeps (fun _ => False) w wc) := HK0.out.trans kc fun k hk e => by omega
    rw [← hwc]
    clear hwc kc hBc
    refine hK.out _ _ (HS.out _ (hc.sub fun b hb => List.mem_cons_of_mem _ (List.mem_cons_of_mem _ hb))) (fun hHeld => ?_)
    simp only [Act.put, List.setIfInBounds_toArray, List.set_cons_zero, List.set_cons_succ]
    refine wpAnyH_ready (rs := [20]) (by kernel_rfl) (by simp) ?_
    refine AllReadyH.cons (o := { dst := none, op := Op.store 32 (Operand.tmp 8) (Operand.tmp 26), type := 0, pos := "partition.go:41", after := #[{ on := 18, ground := Ground.data }, { on := 16, ground := Ground.data }, { on := 19, ground := Ground.chain }, { on := 0, ground := Ground.phase }, { on := 1, ground := Ground.phase }, { on := 2, ground := Ground.phase }, { on := 3, ground := Ground.phase }, { on := 4, ground := Ground.phase }, { on := 5, ground := Ground.phase }, { on := 6, ground := Ground.phase }, { on := 7, ground := Ground.phase }, { on := 8, ground := Ground.phase }, { on := 9, ground := Ground.phase }, { on := 10, ground := Ground.phase }, { on := 11, ground := Ground.phase }, { on := 12, ground := Ground.phase }, { on := 13, ground := Ground.phase }, { on := 14, ground := Ground.phase }, { on := 15, ground := Ground.phase }, { on := 16, ground := Ground.phase }, { on := 17, ground := Ground.phase }, { on := 18, ground := Ground.phase }, { on := 19, ground := Ground.phase }], guard := none }) rfl (fun K hK => ?_) AllReadyH.nil
    have e0 := (hc.bl _ (.tail _ (.head _))).cell (i := 0) rfl
    have e1 := (hc.bl _ (.tail _ (.head _))).frozen 0
    dsimp only at e0 e1
    go_simp
    obtain ⟨wd, hwd⟩ : ∃ wd, wd = wc.setCell ⟨H, 0, none⟩ (.slice (some ⟨g1, o1, none⟩) i P.rc) := ⟨_, rfl⟩
    have hBd : Blk wd H [.slice (some ⟨g1, o1, none⟩) i P.rc] 32 := by rw [hwd]; exact (hc.bl _ (.tail _ (.head _))).setCell 0 _
    have kd : Keeps (fun k => k = H) wc wd := by rw [hwd]; exact (Keeps.refl _ _).setCell ⟨H, 0, none⟩ _ fun _ => rfl
    have hd : Env x N ((H, [.slice (some ⟨g1, o1, none⟩) i P.rc], 32) :: (G, [.int .i64 r.page, .int .i64 r.pages, .int .i64 r.frame, .int .i64 r.rights], 156) :: [(I, [.int .i64 (p : Int)], 3), (C, [.int .i64 x.frames, .int .i64 x.major, .int .i64 x.kernel, .int .i64 x.room, .slice x.ca x.cs.length x.cc, .slice x.pa x.ps.length x.pc, .slice x.ha x.hs.length x.hc], 26)]) wd := Env.put (cs := [.slice none 0 0]) (hc.sub fun b hb => by simp only [List.mem_cons, List.not_mem_nil, or_false] at hb ⊢; rcases hb with h | h | h | h <;> simp [h]) kd hBd hltH.2.2.1 fun b hb => by
      simp only [List.mem_cons, List.not_mem_nil, or_false] at hb
      rcases hb with rfl | rfl | rfl <;> dsimp only <;> omega
    have HK2 : Hid (Keeps (fun _ => False) w wd) := HK1.out.trans kd fun k hk e => by omega
    rw [← hwd]
    clear hwd kd hBd e0 e1
    refine hK.out _ _ (HS.out _ (hd.sub fun b hb => List.mem_cons_of_mem _ (List.mem_cons_of_mem _ hb))) (fun hHeld => ?_)
    simp only [Act.put, List.setIfInBounds_toArray, List.set_cons_zero, List.set_cons_succ]
    refine wpAnyH_done (by kernel_rfl) ?_ _
    have HD : Hid (Env x N ((H, [.slice (some ⟨g1, o1, none⟩) i P.rc], 32) :: (G, [.int .i64 r.page, .int .i64 r.pages, .int .i64 r.frame, .int .i64 r.rights], 156) :: [(I, [.int .i64 (p : Int)], 3), (C, [.int .i64 x.frames, .int .i64 x.major, .int .i64 x.kernel, .int .i64 x.room, .slice x.ca x.cs.length x.cc, .slice x.pa x.ps.length x.pc, .slice x.ha x.hs.length x.hc], 26)]) wd ∧ Keeps (fun _ => False) w wd) := ⟨hd, HK2.out⟩
    have i0 := (hd.bl _ (.tail _ (.tail _ (.head _)))).cell (i := 0) rfl
    dsimp only at i0
    clear hc hd hb hb2 ha hs0 HK0 HK1 HK2 hHeld hltG hltH hGH hCI hK
    obtain ⟨we, hwe⟩ : ∃ we, we = wd.alloc (.cells #[.int .i64 (p : Int), .int .i64 (i : Int)] 114) := ⟨_, rfl⟩
    obtain ⟨A, hA⟩ : ∃ A, A = wd.heap.size := ⟨_, rfl⟩
    have HE : Hid (Env x N ((A, [.int .i64 (p : Int), .int .i64 (i : Int)], 114) :: (H, [.slice (some ⟨g1, o1, none⟩) i P.rc], 32) :: (G, [.int .i64 r.page, .int .i64 r.pages, .int .i64 r.frame, .int .i64 r.rights], 156) :: [(I, [.int .i64 (p : Int)], 3), (C, [.int .i64 x.frames, .int .i64 x.major, .int .i64 x.kernel, .int .i64 x.room, .slice x.ca x.cs.length x.cc, .slice x.pa x.ps.length x.pc, .slice x.ha x.hs.length x.hc], 26)]) we ∧ Keeps (fun _ => False) w we) := by rw [hwe, hA]; exact ⟨HD.out.1.box _ _, HD.out.2.trans ((Keeps.refl (fun _ => False) _).alloc _) fun _ _ h => h⟩
    go_upto_region 3 with fail
    rw [← hwe, ← hA]
    clear hwe hA i0
    go_wp2
    go_ret
    exact HF.out A G H we HE.out.1 HE.out.2
  · go_simp
    obtain ⟨wa, hw⟩ : ∃ wa, wa = w0.alloc (.cells #[.slice none 0 0] 32) := ⟨_, rfl⟩
    obtain ⟨H, hH⟩ : ∃ H, H = w0.heap.size := ⟨_, rfl⟩
    have ha : Env x N ((H, [.slice none 0 0], 32) :: [(I, [.int .i64 (p : Int)], 3), (C, [.int .i64 x.frames, .int .i64 x.major, .int .i64 x.kernel, .int .i64 x.room, .slice x.ca x.cs.length x.cc, .slice x.pa x.ps.length x.pc, .slice x.ha x.hs.length x.hc], 26)]) wa ∧ Keeps (fun _ => False) w wa := by rw [hw, hH]; exact ⟨hs0.1.box _ _, hs0.2.trans ((Keeps.refl (fun _ => False) _).alloc _) fun _ _ h => h⟩
    have hltH : w0.heap.size ≤ H ∧ w.heap.size ≤ H ∧ N ≤ H ∧ H < wa.heap.size := ⟨by rw [hH]; exact Nat.le_refl _, by rw [hH]; exact hs0.2.size, by rw [hH]; exact hs0.1.nn, (ha.1.bl _ (.head _)).lt⟩
    rw [← hw, ← hH]
    clear hw hH
    refine hK.out _ _ (HS.out _ (ha.1.sub fun b hb => List.mem_cons_of_mem _ hb)) (fun hHeld => ?_)
    simp only [Act.put, List.setIfInBounds_toArray, List.set_cons_zero, List.set_cons_succ]
    refine wpAnyH_ready (rs := [17]) (by kernel_rfl) (by simp) ?_
    refine AllReadyH.cons (o := { dst := some 7, op := Op.alloc 156, type := 0, pos := "partition.go:41", after := #[], guard := none }) rfl (fun K hK => ?_) AllReadyH.nil
    have hltX : w0.heap.size < wa.heap.size := by omega
    go_simp
    obtain ⟨wb, hw⟩ : ∃ wb, wb = wa.alloc (.cells #[.int .i64 0, .int .i64 0, .int .i64 0, .int .i64 0] 156) := ⟨_, rfl⟩
    obtain ⟨G, hG⟩ : ∃ G, G = wa.heap.size := ⟨_, rfl⟩
    have hb : Env x N ((G, [.int .i64 0, .int .i64 0, .int .i64 0, .int .i64 0], 156) :: ((H, [.slice none 0 0], 32) :: [(I, [.int .i64 (p : Int)], 3), (C, [.int .i64 x.frames, .int .i64 x.major, .int .i64 x.kernel, .int .i64 x.room, .slice x.ca x.cs.length x.cc, .slice x.pa x.ps.length x.pc, .slice x.ha x.hs.length x.hc], 26)])) wb ∧ Keeps (fun _ => False) w wb := by rw [hw, hG]; exact ⟨ha.1.box _ _, ha.2.trans ((Keeps.refl (fun _ => False) _).alloc _) fun _ _ h => h⟩
    have hltG : w0.heap.size ≤ G ∧ w.heap.size ≤ G ∧ N ≤ G ∧ G < wb.heap.size := ⟨by rw [hG]; exact Nat.le_of_lt hltX, by rw [hG]; exact ha.2.size, by rw [hG]; exact ha.1.nn, (hb.1.bl _ (.head _)).lt⟩
    rw [← hw, ← hG]
    have hGH : H < G := by rw [hG]; exact hltH.2.2.2
    clear hw hG
    have hb2 : Env x N ((G, [.int .i64 0, .int .i64 0, .int .i64 0, .int .i64 0], 156) :: (H, [.slice none 0 0], 32) :: [(I, [.int .i64 (p : Int)], 3), (C, [.int .i64 x.frames, .int .i64 x.major, .int .i64 x.kernel, .int .i64 x.room, .slice x.ca x.cs.length x.cc, .slice x.pa x.ps.length x.pc, .slice x.ha x.hs.length x.hc], 26)]) wb := hb.1
    have HK0 : Hid (Keeps (fun _ => False) w wb) := hb.2
    refine hK.out _ _ (HS.out _ (hb2.sub fun b hb => List.mem_cons_of_mem _ (List.mem_cons_of_mem _ hb))) (fun hHeld => ?_)
    simp only [Act.put, List.setIfInBounds_toArray, List.set_cons_zero, List.set_cons_succ]
    refine wpAnyH_ready (rs := [19]) (by kernel_rfl) (by simp) ?_
    refine AllReadyH.cons (o := { dst := none, op := Op.store 156 (Operand.tmp 7) (Operand.tmp 18), type := 0, pos := "partition.go:41", after := #[{ on := 17, ground := Ground.data }, { on := 8, ground := Ground.data }, { on := 0, ground := Ground.phase }, { on := 1, ground := Ground.phase }, { on := 2, ground := Ground.phase }, { on := 3, ground := Ground.phase }, { on := 4, ground := Ground.phase }, { on := 5, ground := Ground.phase }, { on := 6, ground := Ground.phase }, { on := 7, ground := Ground.phase }, { on := 8, ground := Ground.phase }, { on := 9, ground := Ground.textOnly Departure.lateStores }, { on := 10, ground := Ground.textOnly Departure.lateStores }, { on := 11, ground := Ground.textOnly Departure.lateStores }, { on := 12, ground := Ground.textOnly Departure.lateStores }, { on := 13, ground := Ground.textOnly Departure.lateStores }, { on := 14, ground := Ground.textOnly Departure.lateStores }, { on := 15, ground := Ground.textOnly Departure.lateStores }, { on := 16, ground := Ground.textOnly Departure.lateStoresUnsure }, { on := 17, ground := Ground.phase }, { on := 18, ground := Ground.phase }], guard := none }) rfl (fun K hK => ?_) AllReadyH.nil
    refine wp_store_row 156 _ _ rfl G #[.int .i64 r.page, .int .i64 r.pages, .int .i64 r.frame, .int .i64 r.rights] (by rfl) (by rfl) 156 _ (hb2.bl _ (.head _)) Tryz.size156 rfl (all39 ..) ?_
    obtain ⟨wc, hwc⟩ : ∃ wc, wc = wb.setRow G #[.int .i64 r.page, .int .i64 r.pages, .int .i64 r.frame, .int .i64 r.rights] := ⟨_, rfl⟩
    have hBc : Blk wc G [.int .i64 r.page, .int .i64 r.pages, .int .i64 r.frame, .int .i64 r.rights] 156 := by rw [hwc]; exact (hb2.bl _ (.head _)).setRow _
    have kc : Keeps (fun k => k = G) wb wc := by rw [hwc]; exact (Keeps.refl _ _).setRow _ _ fun _ => rfl
    have hc : Env x N ((G, [.int .i64 r.page, .int .i64 r.pages, .int .i64 r.frame, .int .i64 r.rights], 156) :: (H, [.slice none 0 0], 32) :: [(I, [.int .i64 (p : Int)], 3), (C, [.int .i64 x.frames, .int .i64 x.major, .int .i64 x.kernel, .int .i64 x.room, .slice x.ca x.cs.length x.cc, .slice x.pa x.ps.length x.pc, .slice x.ha x.hs.length x.hc], 26)]) wc := hb2.put kc hBc hltG.2.2.1 fun b hb => by
      simp only [List.mem_cons, List.not_mem_nil, or_false] at hb
      rcases hb with rfl | rfl | rfl <;> dsimp only <;> omega
    have HK1 : Hid (Keeps (fun _ => False) w wc) := HK0.out.trans kc fun k hk e => by omega
    rw [← hwc]
    clear hwc kc hBc
    refine hK.out _ _ (HS.out _ (hc.sub fun b hb => List.mem_cons_of_mem _ (List.mem_cons_of_mem _ hb))) (fun hHeld => ?_)
    simp only [Act.put, List.setIfInBounds_toArray, List.set_cons_zero, List.set_cons_succ]
    refine wpAnyH_ready (rs := [20]) (by kernel_rfl) (by simp) ?_
    refine AllReadyH.cons (o := { dst := none, op := Op.store 32 (Operand.tmp 8) (Operand.tmp 26), type := 0, pos := "partition.go:41", after := #[{ on := 18, ground := Ground.data }, { on := 16, ground := Ground.data }, { on := 19, ground := Ground.chain }, { on := 0, ground := Ground.phase }, { on := 1, ground := Ground.phase }, { on := 2, ground := Ground.phase }, { on := 3, ground := Ground.phase }, { on := 4, ground := Ground.phase }, { on := 5, ground := Ground.phase }, { on := 6, ground := Ground.phase }, { on := 7, ground := Ground.phase }, { on := 8, ground := Ground.phase }, { on := 9, ground := Ground.phase }, { on := 10, ground := Ground.phase }, { on := 11, ground := Ground.phase }, { on := 12, ground := Ground.phase }, { on := 13, ground := Ground.phase }, { on := 14, ground := Ground.phase }, { on := 15, ground := Ground.phase }, { on := 16, ground := Ground.phase }, { on := 17, ground := Ground.phase }, { on := 18, ground := Ground.phase }, { on := 19, ground := Ground.phase }], guard := none }) rfl (fun K hK => ?_) AllReadyH.nil
    have e0 := (hc.bl _ (.tail _ (.head _))).cell (i := 0) rfl
    have e1 := (hc.bl _ (.tail _ (.head _))).frozen 0
    dsimp only at e0 e1
    go_simp
    obtain ⟨wd, hwd⟩ : ∃ wd, wd = wc.setCell ⟨H, 0, none⟩ (.slice (some ⟨g1, o1, none⟩) i P.rc) := ⟨_, rfl⟩
    have hBd : Blk wd H [.slice (some ⟨g1, o1, none⟩) i P.rc] 32 := by rw [hwd]; exact (hc.bl _ (.tail _ (.head _))).setCell 0 _
    have kd : Keeps (fun k => k = H) wc wd := by rw [hwd]; exact (Keeps.refl _ _).setCell ⟨H, 0, none⟩ _ fun _ => rfl
    have hd : Env x N ((H, [.slice (some ⟨g1, o1, none⟩) i P.rc], 32) :: (G, [.int .i64 r.page, .int .i64 r.pages, .int .i64 r.frame, .int .i64 r.rights], 156) :: [(I, [.int .i64 (p : Int)], 3), (C, [.int .i64 x.frames, .int .i64 x.major, .int .i64 x.kernel, .int .i64 x.room, .slice x.ca x.cs.length x.cc, .slice x.pa x.ps.length x.pc, .slice x.ha x.hs.length x.hc], 26)]) wd := Env.put (cs := [.slice none 0 0]) (hc.sub fun b hb => by simp only [List.mem_cons, List.not_mem_nil, or_false] at hb ⊢; rcases hb with h | h | h | h <;> simp [h]) kd hBd hltH.2.2.1 fun b hb => by
      simp only [List.mem_cons, List.not_mem_nil, or_false] at hb
      rcases hb with rfl | rfl | rfl <;> dsimp only <;> omega
    have HK2 : Hid (Keeps (fun _ => False) w wd) := HK1.out.trans kd fun k hk e => by omega
    rw [← hwd]
    clear hwd kd hBd e0 e1
    refine hK.out _ _ (HS.out _ (hd.sub fun b hb => List.mem_cons_of_mem _ (List.mem_cons_of_mem _ hb))) (fun hHeld => ?_)
    simp only [Act.put, List.setIfInBounds_toArray, List.set_cons_zero, List.set_cons_succ]
    refine wpAnyH_done (by kernel_rfl) ?_ _
    have HD : Hid (Env x N ((H, [.slice (some ⟨g1, o1, none⟩) i P.rc], 32) :: (G, [.int .i64 r.page, .int .i64 r.pages, .int .i64 r.frame, .int .i64 r.rights], 156) :: [(I, [.int .i64 (p : Int)], 3), (C, [.int .i64 x.frames, .int .i64 x.major, .int .i64 x.kernel, .int .i64 x.room, .slice x.ca x.cs.length x.cc, .slice x.pa x.ps.length x.pc, .slice x.ha x.hs.length x.hc], 26)]) wd ∧ Keeps (fun _ => False) w wd) := ⟨hd, HK2.out⟩
    have i0 := (hd.bl _ (.tail _ (.tail _ (.head _)))).cell (i := 0) rfl
    dsimp only at i0
    clear hc hd hb hb2 ha hs0 HK0 HK1 HK2 hHeld hltG hltH hGH hCI hK
    obtain ⟨we, hwe⟩ : ∃ we, we = wd.alloc (.cells #[.int .i64 (p : Int), .int .i64 (i : Int)] 114) := ⟨_, rfl⟩
    obtain ⟨A, hA⟩ : ∃ A, A = wd.heap.size := ⟨_, rfl⟩
    have HE : Hid (Env x N ((A, [.int .i64 (p : Int), .int .i64 (i : Int)], 114) :: (H, [.slice (some ⟨g1, o1, none⟩) i P.rc], 32) :: (G, [.int .i64 r.page, .int .i64 r.pages, .int .i64 r.frame, .int .i64 r.rights], 156) :: [(I, [.int .i64 (p : Int)], 3), (C, [.int .i64 x.frames, .int .i64 x.major, .int .i64 x.kernel, .int .i64 x.room, .slice x.ca x.cs.length x.cc, .slice x.pa x.ps.length x.pc, .slice x.ha x.hs.length x.hc], 26)]) we ∧ Keeps (fun _ => False) w we) := by rw [hwe, hA]; exact ⟨HD.out.1.box _ _, HD.out.2.trans ((Keeps.refl (fun _ => False) _).alloc _) fun _ _ h => h⟩
    go_upto_region 3 with fail
    rw [← hwe, ← hA]
    clear hwe hA i0
    go_wp2
    go_ret
    exact HF.out A G H we HE.out.1 HE.out.2
end Go.Proofs.YtofjbkoojimmhaaGreat
