import Derived.Test.YtofjbkoojimmhaaGreatQs
namespace Go.Proofs.YtofjbkoojimmhaaGreat
open Go.RowKit
set_option linter.unusedVariables false
set_option linter.unusedSimpArgs false
set_option maxRecDepth 6000

/-- What is asked of a partition. -/
def parF (x : Cfg) (p : Nat) (P : Par) : List Flt :=
  [unl (nameB P.name && !((x.ps.take p).any fun Q => Q.name.toList == P.name.toList)) ⟨405, p, -1⟩,
   unl (inR P.action 0 2 && inR P.restarts 0 15) ⟨406, p, -1⟩,
   unl (inR P.inputs 0 16 && inR P.outputs 0 16) ⟨407, p, -1⟩,
   unl (inR (P.rs.length : Int) 1 8) ⟨408, p, -1⟩,
   rgnsF x p P,
   unl P.begB ⟨412, p, -1⟩,
   unl (decide ((P.ps.length : Int) ≤ 8)) ⟨413, p, -1⟩,
   prtsF x p P]

set_option maxHeartbeats 1000000 in
theorem parQs (x : Cfg) (N p : Nat) (P : Par) (B C I A : Nat) (hP : x.ps[p]? = some P) (hsz : P.name.size ≤ 9223372036854775807) (h1 : 1 ≤ x.frames) (h2 : x.frames ≤ 1024) (hpv : ∀ Q ∈ x.ps.take p, ∀ s ∈ Q.rs, s.okB x.frames = true) (L : List (Nat × List Value × TypeId)) (hL : L = [(A, [.int .i64 (p : Int), .int .i64 (-1)], 114), (B, [.string P.name, .int .i64 P.entry, .int .i64 P.action, .int .i64 P.restarts, .int .i64 P.inputs, .int .i64 P.outputs, .slice P.ra P.rs.length P.rc, .slice P.pa P.ps.length P.pc], 35), (I, [.int .i64 (p : Int)], 3), (C, [.int .i64 x.frames, .int .i64 x.major, .int .i64 x.kernel, .int .i64 x.room, .slice x.ca x.cs.length x.cc, .slice x.pa x.ps.length x.pc, .slice x.ha x.hs.length x.hc], 26)]) :
    Qs [(104, #[.pointer (some ⟨B, 0, none⟩), .pointer (some ⟨C, 0, none⟩), .pointer (some ⟨I, 0, none⟩), .pointer (some ⟨A, 0, none⟩)], unl (nameB P.name && !((x.ps.take p).any fun Q => Q.name.toList == P.name.toList)) ⟨405, p, -1⟩),
        (107, #[.pointer (some ⟨B, 0, none⟩), .pointer (some ⟨A, 0, none⟩)], unl (inR P.action 0 2 && inR P.restarts 0 15) ⟨406, p, -1⟩),
        (108, #[.pointer (some ⟨B, 0, none⟩), .pointer (some ⟨A, 0, none⟩)], unl (inR P.inputs 0 16 && inR P.outputs 0 16) ⟨407, p, -1⟩),
        (109, #[.pointer (some ⟨B, 0, none⟩), .pointer (some ⟨A, 0, none⟩)], unl (inR (P.rs.length : Int) 1 8) ⟨408, p, -1⟩),
        (110, #[.pointer (some ⟨B, 0, none⟩), .pointer (some ⟨C, 0, none⟩), .pointer (some ⟨I, 0, none⟩)], rgnsF x p P),
        (113, #[.pointer (some ⟨B, 0, none⟩), .pointer (some ⟨A, 0, none⟩)], unl P.begB ⟨412, p, -1⟩),
        (115, #[.pointer (some ⟨B, 0, none⟩), .pointer (some ⟨A, 0, none⟩)], unl (decide ((P.ps.length : Int) ≤ 8)) ⟨413, p, -1⟩),
        (116, #[.pointer (some ⟨B, 0, none⟩), .pointer (some ⟨C, 0, none⟩), .pointer (some ⟨I, 0, none⟩)], prtsF x p P)] (Env x N L) := by
  have hp := (List.getElem?_eq_some_iff.1 hP).1
  have hPm := List.mem_of_getElem? hP
  refine ⟨fun _ _ h k => h.kept k, fun q hq args w => ?_, fun j q hj hpr => ?_, by simp⟩
  · simp only [List.mem_cons, List.not_mem_nil, or_false] at hq
    rcases hq with rfl | rfl | rfl | rfl | rfl | rfl | rfl | rfl
    · exact enter_fn Tryz.func104 rfl rfl args w
    · exact enter_fn Tryz.func107 rfl rfl args w
    · exact enter_fn Tryz.func108 rfl rfl args w
    · exact enter_fn Tryz.func109 rfl rfl args w
    · exact enter_fn Tryz.func110 rfl rfl args w
    · exact enter_fn Tryz.func113 rfl rfl args w
    · exact enter_fn Tryz.func115 rfl rfl args w
    · exact enter_fn Tryz.func116 rfl rfl args w
  · have hok3 : 3 < j → inR (P.rs.length : Int) 1 8 = true := fun h => (unl_n (by simp)).1 (qs_prev hpr 3 h rfl)
    have hok4 : 4 < j → ∀ r ∈ P.rs, r.okB x.frames = true := fun h => rgnsF_ok (qs_prev hpr 4 h rfl)
    have hok6 : 6 < j → decide ((P.ps.length : Int) ≤ 8) = true := fun h => (unl_n (by simp)).1 (qs_prev hpr 6 h rfl)
    match j, hj with
    | 0, hj =>
      cases hj
      exact (q37 x N p P B C I A (Nat.le_of_lt hp) hsz).of fun w h => h.sub fun b hb => by rw [hL]; simp only [List.mem_cons, List.not_mem_nil, or_false] at hb ⊢; rcases hb with h | h | h | h <;> simp [h]
    | 1, hj =>
      cases hj
      exact (q40 x N p P B A).of fun w h => h.sub fun b hb => by rw [hL]; simp only [List.mem_cons, List.not_mem_nil, or_false] at hb ⊢; rcases hb with h | h <;> simp [h]
    | 2, hj =>
      cases hj
      exact (q41 x N p P B A).of fun w h => h.sub fun b hb => by rw [hL]; simp only [List.mem_cons, List.not_mem_nil, or_false] at hb ⊢; rcases hb with h | h <;> simp [h]
    | 3, hj =>
      cases hj
      exact (q42 x N p P B A).of fun w h => h.sub fun b hb => by rw [hL]; simp only [List.mem_cons, List.not_mem_nil, or_false] at hb ⊢; rcases hb with h | h <;> simp [h]
    | 4, hj =>
      cases hj
      exact (q43 x N p P B C I hP h1 h2 hpv (by have := inR_iff.1 (hok3 (by omega)); omega)).of fun w h => h.sub fun b hb => by rw [hL]; simp only [List.mem_cons, List.not_mem_nil, or_false] at hb ⊢; rcases hb with h | h | h <;> simp [h]
    | 5, hj =>
      cases hj
      exact (q46 x N p P B A hPm (fun r hr => ⟨(Rgn.okB_ok (hok4 (by omega) r hr) h2).2.2, (Rgn.okB_ok (hok4 (by omega) r hr) h2).1⟩)).of fun w h => h.sub fun b hb => by rw [hL]; simp only [List.mem_cons, List.not_mem_nil, or_false] at hb ⊢; rcases hb with h | h <;> simp [h]
    | 6, hj =>
      cases hj
      exact (q48 x N p P B A).of fun w h => h.sub fun b hb => by rw [hL]; simp only [List.mem_cons, List.not_mem_nil, or_false] at hb ⊢; rcases hb with h | h <;> simp [h]
    | 7, hj =>
      cases hj
      exact (q49 x N p P B C I hP (by have := hok6 (by omega); rw [decide_eq_true_eq] at this; omega)).of fun w h => h.sub fun b hb => by rw [hL]; simp only [List.mem_cons, List.not_mem_nil, or_false] at hb ⊢; rcases hb with h | h | h <;> simp [h]
    | j + 8, hj => simp at hj

set_option maxHeartbeats 8000000 in
theorem partitionQuestions_any (x : Cfg) (N p : Nat) (P : Par) (hP : x.ps[p]? = some P) (h1 : 1 ≤ x.frames) (h2 : x.frames ≤ 1024) (hpv : ∀ Q ∈ x.ps.take p, ∀ s ∈ Q.rs, s.okB x.frames = true) :
    Makes 74 #[x.v, .int .i64 (p : Int)] (Env x N []) (firstF (parF x p P)) := by
  intro w hE
  have hPi := hE.cin.pin P (List.mem_of_getElem? hP)
  have hPlt := (List.getElem?_eq_some_iff.1 hP).1
  obtain ⟨g0, o0, hpa, hc0⟩ := hE.cin.par hP
  obtain ⟨W, hW⟩ : ∃ W, W = (x.laid w).alloc (.cells #[.int .i64 (p : Int)] 3) := ⟨_, rfl⟩
  obtain ⟨C, hC⟩ : ∃ C, C = w.heap.size := ⟨_, rfl⟩
  obtain ⟨I, hI⟩ : ∃ I, I = w.heap.size + 1 := ⟨_, rfl⟩
  have hE1 : Env x N [(C, [.int .i64 x.frames, .int .i64 x.major, .int .i64 x.kernel, .int .i64 x.room, .slice x.ca x.cs.length x.cc, .slice x.pa x.ps.length x.pc, .slice x.ha x.hs.length x.hc], 26)] (x.laid w) := by rw [hC]; exact hE.box _ _
  have hE2 : Env x N [(I, [.int .i64 (p : Int)], 3), (C, [.int .i64 x.frames, .int .i64 x.major, .int .i64 x.kernel, .int .i64 x.room, .slice x.ca x.cs.length x.cc, .slice x.pa x.ps.length x.pc, .slice x.ha x.hs.length x.hc], 26)] W := by
    have := hE1.box [.int .i64 (p : Int)] 3
    rw [hW, hI]
    simpa [Cfg.laid] using this
  have HO : Hid (Env x N [(I, [.int .i64 (p : Int)], 3), (C, [.int .i64 x.frames, .int .i64 x.major, .int .i64 x.kernel, .int .i64 x.room, .slice x.ca x.cs.length x.cc, .slice x.pa x.ps.length x.pc, .slice x.ha x.hs.length x.hc], 26)] W ∧ Keeps (fun _ => False) w W) := ⟨hE2, by rw [hW]; exact ((Keeps.refl _ _).alloc _).alloc _⟩
  obtain ⟨PL, hPL⟩ : ∃ PL, x.ps.length = PL := ⟨_, rfl⟩
  obtain ⟨RL, hRL⟩ : ∃ RL, P.rs.length = RL := ⟨_, rfl⟩
  obtain ⟨QL, hQL⟩ : ∃ QL, P.ps.length = QL := ⟨_, rfl⟩
  obtain ⟨W1, hW1⟩ : ∃ W1, W1 = W.alloc (.cells #[.string P.name, .int .i64 P.entry, .int .i64 P.action, .int .i64 P.restarts, .int .i64 P.inputs, .int .i64 P.outputs, .slice P.ra RL P.rc, .slice P.pa QL P.pc] 35) := ⟨_, rfl⟩
  obtain ⟨B, hB⟩ : ∃ B, B = W.heap.size := ⟨_, rfl⟩
  have HO1 : Hid (Env x N ((B, [.string P.name, .int .i64 P.entry, .int .i64 P.action, .int .i64 P.restarts, .int .i64 P.inputs, .int .i64 P.outputs, .slice P.ra RL P.rc, .slice P.pa QL P.pc], 35) :: [(I, [.int .i64 (p : Int)], 3), (C, [.int .i64 x.frames, .int .i64 x.major, .int .i64 x.kernel, .int .i64 x.room, .slice x.ca x.cs.length x.cc, .slice x.pa x.ps.length x.pc, .slice x.ha x.hs.length x.hc], 26)]) W1 ∧ Keeps (fun _ => False) w W1) := by rw [hW1, hB]; exact ⟨HO.out.1.box _ _, HO.out.2.trans ((Keeps.refl (fun _ => False) _).alloc _) fun _ _ h => h⟩
  have j0 := (HO1.out.1.bl _ (.tail _ (.head _))).cell (i := 0) rfl
  obtain ⟨W2, hW2⟩ : ∃ W2, W2 = W1.alloc (.cells #[.int .i64 (p : Int), .int .i64 (-1)] 114) := ⟨_, rfl⟩
  obtain ⟨A, hA⟩ : ∃ A, A = W1.heap.size := ⟨_, rfl⟩
  have HO2 : Hid (Env x N ((A, [.int .i64 (p : Int), .int .i64 (-1)], 114) :: (B, [.string P.name, .int .i64 P.entry, .int .i64 P.action, .int .i64 P.restarts, .int .i64 P.inputs, .int .i64 P.outputs, .slice P.ra RL P.rc, .slice P.pa QL P.pc], 35) :: [(I, [.int .i64 (p : Int)], 3), (C, [.int .i64 x.frames, .int .i64 x.major, .int .i64 x.kernel, .int .i64 x.room, .slice x.ca x.cs.length x.cc, .slice x.pa x.ps.length x.pc, .slice x.ha x.hs.length x.hc], 26)]) W2 ∧ Keeps (fun _ => False) w W2) := by rw [hW2, hA]; exact ⟨HO1.out.1.box _ _, HO1.out.2.trans ((Keeps.refl (fun _ => False) _).alloc _) fun _ _ h => h⟩
  have HF : Hid (MkP (firstF (parF x p P)) w (.returned (.slice (some ⟨W2.heap.size, 0, none⟩) 8 8)) (W2.alloc (.cells #[.func (.func 104) #[] #[.pointer (some ⟨B, 0, none⟩), .pointer (some ⟨C, 0, none⟩), .pointer (some ⟨I, 0, none⟩), .pointer (some ⟨A, 0, none⟩)], .func (.func 107) #[] #[.pointer (some ⟨B, 0, none⟩), .pointer (some ⟨A, 0, none⟩)], .func (.func 108) #[] #[.pointer (some ⟨B, 0, none⟩), .pointer (some ⟨A, 0, none⟩)], .func (.func 109) #[] #[.pointer (some ⟨B, 0, none⟩), .pointer (some ⟨A, 0, none⟩)], .func (.func 110) #[] #[.pointer (some ⟨B, 0, none⟩), .pointer (some ⟨C, 0, none⟩), .pointer (some ⟨I, 0, none⟩)], .func (.func 113) #[] #[.pointer (some ⟨B, 0, none⟩), .pointer (some ⟨A, 0, none⟩)], .func (.func 115) #[] #[.pointer (some ⟨B, 0, none⟩), .pointer (some ⟨A, 0, none⟩)], .func (.func 116) #[] #[.pointer (some ⟨B, 0, none⟩), .pointer (some ⟨C, 0, none⟩), .pointer (some ⟨I, 0, none⟩)]] 158))) := by
    have hX := HO2.out.1
    rw [← hRL, ← hQL] at hX
    exact MkP.of (parQs x N p P B C I A hP hPi.name h1 h2 hpv _ rfl) (HO2.out.2.trans ((Keeps.refl (fun _ => False) _).alloc _) fun _ _ h => h) (Blk.new _ _ _) (hX.kept ((Keeps.refl _ _).alloc _)) rfl rfl
  have hb1 : (PL : Int) ≤ x.pc ∧ (x.pc : Int) ≤ 9223372036854775807 := by have := hE.cin.plen; unfold maxLen at this; omega
  rw [hPL] at hPlt
  have c5 : W.cell? ⟨C, 5, none⟩ = some (.slice (some ⟨g0, o0, none⟩) PL x.pc) := by have := (hE2.bl _ (.tail _ (.head _))).cell (i := 5) rfl; rw [hpa, hPL] at this; exact this
  have i0 := (hE2.bl _ (.head _)).cell (i := 0) rfl
  obtain ⟨g2, o2, e2, hc2⟩ := hE2.cin.par hP
  rw [hpa] at e2
  cases e2
  have p0 := hc2 0 _ rfl
  rw [Nat.add_zero] at p0
  have p1 := hc2 1 _ rfl
  have p2 := hc2 2 _ rfl
  have p3 := hc2 3 _ rfl
  have p4 := hc2 4 _ rfl
  have p5 := hc2 5 _ rfl
  have p6 := hc2 6 _ rfl
  have p7 := hc2 7 _ rfl
  rw [hRL] at p6
  rw [hQL] at p7
  dsimp only at i0
  clear hE hE1 hE2 hc0 hc2 hpa hPL hRL hQL hPi h1 h2 hpv hP
  unfold Cfg.laid at hW
  dsimp only at j0
  go_enter Tryz.func74, Tryz.ntmps74
  go_upto_region 1 with fail
  rw [← hW, ← hI, ← hC]
  clear hW hI hC
  go_upto_region 2 with fail
  rw [← hW1, ← hB]
  clear hW1 hB c5 i0 p0 p1 p2 p3 p4 p5 p6 p7
  go_upto_region 3 with fail
  rw [← hW2, ← hA]
  clear hW2 hA j0
  go_wp2
  go_ret
  exact HF.out
end Go.Proofs.YtofjbkoojimmhaaGreat
