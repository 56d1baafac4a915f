import Derived.Test.YtofjbkoojimmhaaGreatQn
namespace Go.Proofs.YtofjbkoojimmhaaGreat
open Go.RowKit
set_option linter.unusedVariables false
set_option linter.unusedSimpArgs false
set_option maxRecDepth 6000

theorem inR_iff {n a b : Int} : inR n a b = true ↔ a ≤ n ∧ n ≤ b := by unfold inR; simp
theorem Rgn.okB_iff {r : Rgn} {fr : Int} : r.okB fr = true ↔ (0 ≤ r.page ∧ r.page ≤ 255) ∧ (1 ≤ r.pages ∧ r.pages ≤ 256 - r.page) ∧ 0 ≤ r.frame ∧ r.pages ≤ fr - r.frame ∧ 1 ≤ r.rights ∧ r.rights ≤ 7 := by
  unfold Rgn.okB; simp [inR_iff]
theorem Rgn.okB_ok {r : Rgn} {fr : Int} (h : r.okB fr = true) (h2 : fr ≤ 1024) : r.pg.Ok ∧ r.fr.Ok ∧ 1 ≤ r.rights ∧ r.rights ≤ 7 := by
  have := Rgn.okB_iff.1 h
  unfold Rn.Ok I64 Rgn.pg Rgn.fr
  dsimp only
  omega
theorem unl_n {b : Bool} {f : Flt} (hf : f.n ≠ 0) : (unl b f).n = 0 ↔ b = true := by
  cases b
  · simp [unl, hf]
  · simp [unl, Flt.no]
theorem qs_prev {qs : List Qn} {j : Nat} (h : ∀ i, i < j → ∀ r : Qn, qs[i]? = some r → r.2.2.n = 0) (i : Nat) (hi : i < j) {q : Qn} (hq : qs[i]? = some q) : q.2.2.n = 0 := h i hi q hq

theorem Env.box {x : Cfg} {N : Nat} {L : List (Nat × List Value × TypeId)} {w : World} (h : Env x N L w) (cs : List Value) (t : TypeId) : Env x N ((w.heap.size, cs, t) :: L) (w.alloc (.cells cs.toArray t)) := by
  have h1 := h.kept ((Keeps.refl _ _).alloc (.cells cs.toArray t))
  refine ⟨h1.cin, h1.nn, fun b hb => ?_⟩
  rcases List.mem_cons.1 hb with rfl | hb
  · exact Blk.new _ _ _
  · exact h1.bl b hb
theorem Env.put {x : Cfg} {N g : Nat} {L : List (Nat × List Value × TypeId)} {cs ds : List Value} {t : TypeId} {w w' : World} (h : Env x N ((g, cs, t) :: L) w) (hK : Keeps (fun k => k = g) w w') (hB : Blk w' g ds t) (hN : N ≤ g) (hL : ∀ b ∈ L, b.1 ≠ g) : Env x N ((g, ds, t) :: L) w' := by
  refine ⟨h.cin.below (hK.below h.nn fun k e => by omega), Nat.le_trans h.nn hK.size, fun b hb => ?_⟩
  rcases List.mem_cons.1 hb with rfl | hb
  · exact hB
  · exact (h.bl b (List.mem_cons_of_mem _ hb)).kept hK (hL b hb)
theorem Tryz.size156 : (Tryz.prog.info? 156).map (·.size) = some 4 := by kernel_rfl
theorem all39 (n a b c : Int) : (#[Value.int .i64 n, .int .i64 a, .int .i64 b, .int .i64 c] : Array Value).all (fun v => v.oneCell') = true := by kernel_rfl

theorem MkP.of {qs : List Qn} {E : World → Prop} {v : Flt} {w w' : World} {g n : Nat} {t : TypeId} (hq : Qs qs E) (k : Keeps (fun _ => False) w w') (hB : Blk w' g (qs.map QV) t) (hE : E w') (hv : firstF (qs.map (·.2.2)) = v) (hn : n = qs.length) : MkP v w (.returned (.slice (some ⟨g, 0, none⟩) n n)) w' := by
  subst hn
  exact ⟨k, g, t, qs, E, rfl, hB, hE, hq, hv⟩

theorem rgnQs (x : Cfg) (N p i : Nat) (P : Par) (r : Rgn) (C I G H A : Nat) (hP : x.ps[p]? = some P) (hr : P.rs[i]? = some r) (hrf : r.Fine) (h1 : 1 ≤ x.frames) (h2 : x.frames ≤ 1024) (hah : ∀ s ∈ P.rs.take i, s.okB x.frames = true) (hpv : ∀ Q ∈ x.ps.take p, ∀ s ∈ Q.rs, s.okB x.frames = true) (L : List (Nat × List Value × TypeId))
    (hL : L = [(A, [.int .i64 (p : Int), .int .i64 (i : Int)], 114), (H, [.slice P.ra i P.rc], 32), (G, [.int .i64 r.page, .int .i64 r.pages, .int .i64 r.frame, .int .i64 r.rights], 156), (I, [.int .i64 (p : Int)], 3), (C, [.int .i64 x.frames, .int .i64 x.major, .int .i64 x.kernel, .int .i64 x.room, .slice x.ca x.cs.length x.cc, .slice x.pa x.ps.length x.pc, .slice x.ha x.hs.length x.hc], 26)]) :
    Qs [(146, #[.pointer (some ⟨G, 0, none⟩), .pointer (some ⟨C, 0, none⟩), .pointer (some ⟨A, 0, none⟩)], unl (r.okB x.frames) ⟨409, p, i⟩),
        (148, #[.pointer (some ⟨H, 0, none⟩), .pointer (some ⟨G, 0, none⟩), .pointer (some ⟨A, 0, none⟩)], unl (!((P.rs.take i).any fun s => s.pg.meets r.pg)) ⟨410, p, i⟩),
        (150, #[.pointer (some ⟨H, 0, none⟩), .pointer (some ⟨G, 0, none⟩), .pointer (some ⟨A, 0, none⟩)], unl (!((P.rs.take i).any fun s => s.fr.meets r.fr)) ⟨411, p, i⟩),
        (151, #[.pointer (some ⟨C, 0, none⟩), .pointer (some ⟨I, 0, none⟩), .pointer (some ⟨G, 0, none⟩), .pointer (some ⟨A, 0, none⟩)], unl (!((x.ps.take p).any fun Q => Q.rs.any fun s => s.fr.meets r.fr)) ⟨411, p, i⟩)] (Env x N L) := by
  have hi := (List.getElem?_eq_some_iff.1 hr).1
  have hp := (List.getElem?_eq_some_iff.1 hP).1
  have hPm := List.mem_of_getElem? hP
  refine ⟨fun _ _ h k => h.kept k, fun q hq args w => ?_, fun j q hj hpr => ?_, by simp⟩
  · simp only [List.mem_cons, List.not_mem_nil, or_false] at hq
    rcases hq with rfl | rfl | rfl | rfl
    · exact enter_fn Tryz.func146 rfl rfl args w
    · exact enter_fn Tryz.func148 rfl rfl args w
    · exact enter_fn Tryz.func150 rfl rfl args w
    · exact enter_fn Tryz.func151 rfl rfl args w
  · have hok : 0 < j → r.okB x.frames = true := fun h => (unl_n (by simp)).1 (qs_prev hpr 0 h rfl)
    match j, hj with
    | 0, hj =>
      cases hj
      exact (q78 x N p i P r G C A hrf h1 h2).of fun w h => h.sub fun b hb => by rw [hL]; simp only [List.mem_cons, List.not_mem_nil, or_false] at hb ⊢; rcases hb with h | h | h <;> simp [h]
    | 1, hj =>
      cases hj
      have ho := Rgn.okB_ok (hok (by omega)) h2
      exact (q80 x N p i P r H G A hPm (by omega) ho.1 fun s hs => (Rgn.okB_ok (hah s hs) h2).1).of fun w h => h.sub fun b hb => by rw [hL]; simp only [List.mem_cons, List.not_mem_nil, or_false] at hb ⊢; rcases hb with h | h | h <;> simp [h]
    | 2, hj =>
      cases hj
      have ho := Rgn.okB_ok (hok (by omega)) h2
      exact (q82 x N p i P r H G A hPm (by omega) ho.2.1 fun s hs => (Rgn.okB_ok (hah s hs) h2).2.1).of fun w h => h.sub fun b hb => by rw [hL]; simp only [List.mem_cons, List.not_mem_nil, or_false] at hb ⊢; rcases hb with h | h | h <;> simp [h]
    | 3, hj =>
      cases hj
      have ho := Rgn.okB_ok (hok (by omega)) h2
      exact (q83 x N p i r C I G A (by omega) ho.2.1 fun Q hQ s hs => (Rgn.okB_ok (hpv Q hQ s hs) h2).2.1).of fun w h => h.sub fun b hb => by rw [hL]; simp only [List.mem_cons, List.not_mem_nil, or_false] at hb ⊢; rcases hb with h | h | h | h <;> simp [h]
    | j + 4, hj => simp at hj
end Go.Proofs.YtofjbkoojimmhaaGreat
