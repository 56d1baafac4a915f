import Derived.Test.YthaoopaafdgioabOz
import Derived.Test.YthaoopaafdgioabSu
namespace Go.Proofs.Ythaoopaafdgioab
open Go.RowKit
set_option linter.unusedVariables false
set_option linter.unusedSimpArgs false
set_option maxRecDepth 6000

/-- What a piece may be. -/
def PcOk (L H : Nat) (o : Ow) : Prop := o.kind = 2 ∨ (∃ n : Nat, n < L ∧ o.idx = n ∧ (o.kind = 3 ∨ o.kind = 4 ∨ o.kind = 5 ∨ o.kind = 9)) ∨ (∃ n : Nat, n < H ∧ o.idx = n ∧ (o.kind = 6 ∨ o.kind = 7)) ∨ (o.kind = 8 ∧ 0 < H)
theorem ann_ow {l : List (Ow × Int)} {a : Int} {p : Pc} (h : p ∈ ann a l) : ∃ k, (p.ow, k) ∈ l := by
  induction l generalizing a with
  | nil => cases h
  | cons q t ih =>
    obtain ⟨o, k⟩ := q
    rcases List.mem_cons.1 h with e | e
    · subst e; exact ⟨k, List.mem_cons_self ..⟩
    · obtain ⟨k2, h2⟩ := ih e
      exact ⟨k2, List.mem_cons_of_mem _ h2⟩
theorem pcAll_ok (x : Cfg) (a : Int) : ∀ p ∈ pcAll x a, PcOk x.ps.length x.hs.length p.ow := by
  intro p hp
  unfold pcAll pcB pcA at hp
  rcases List.mem_append.1 hp with hp | hp
  · rcases List.mem_append.1 hp with hp | hp
    · rcases List.mem_cons.1 hp with e | hp
      · subst e; exact .inl rfl
      · obtain ⟨k, hk⟩ := ann_ow hp
        unfold partH at hk
        obtain ⟨n, hn, h2⟩ := List.mem_flatMap.1 hk
        have hn := List.mem_range.1 hn
        refine .inr (.inl ⟨n, hn, ?_⟩)
        simp only [List.mem_cons, List.not_mem_nil, or_false, Prod.mk.injEq] at h2
        rcases h2 with ⟨e, _⟩ | ⟨e, _⟩ | ⟨e, _⟩ <;> rw [e] <;> simp
    · obtain ⟨k, hk⟩ := ann_ow hp
      unfold chansH at hk
      obtain ⟨n, hn, h2⟩ := List.mem_flatMap.1 hk
      have hn := List.mem_range.1 hn
      cases hh : x.hs[n]? with
      | none => rw [hh] at h2; cases h2
      | some h =>
        rw [hh] at h2
        unfold chanH destH at h2
        rcases List.mem_append.1 h2 with h2 | h2
        · refine .inr (.inr (.inl ⟨n, hn, ?_⟩))
          simp only [List.mem_cons, List.not_mem_nil, or_false, Prod.mk.injEq] at h2
          rcases h2 with ⟨e, _⟩ | ⟨e, _⟩ <;> rw [e] <;> simp
        · obtain ⟨d, _, e⟩ := List.mem_map.1 h2
          refine .inr (.inr (.inr ⟨?_, by omega⟩))
          rw [← (Prod.mk.inj e).1]
  · obtain ⟨k, hk⟩ := ann_ow hp
    unfold tabsH at hk
    obtain ⟨n, hn, h2⟩ := List.mem_flatMap.1 hk
    have hn := List.mem_range.1 hn
    cases hh : x.ps[n]? with
    | none => rw [hh] at h2; cases h2
    | some h =>
      rw [hh] at h2
      have e := (List.mem_replicate.1 h2).2
      refine .inr (.inl ⟨n, hn, ?_⟩)
      rw [(Prod.mk.inj e).1]
      simp
theorem stp_len (s : Z9) (p : Pc) (i : Nat) : ((stp s p).D i).length ≤ (s.D i).length + 1 ∧ ((stp s p).T i).length ≤ (s.T i).length + 1 := by
  unfold stp
  repeat' split
  all_goals first
    | exact ⟨Nat.le_succ _, Nat.le_succ _⟩
    | (refine ⟨?_, Nat.le_succ _⟩
       show (upd s.D _ _ i).length ≤ _
       unfold upd
       split
       · next e => subst e; simp
       · exact Nat.le_succ _)
    | (refine ⟨Nat.le_succ _, ?_⟩
       show (upd s.T _ _ i).length ≤ _
       unfold upd
       split
       · next e => subst e; simp
       · exact Nat.le_succ _)
theorem fold_len (l : List Pc) (s : Z9) (i : Nat) : ((l.foldl stp s).D i).length ≤ (s.D i).length + l.length ∧ ((l.foldl stp s).T i).length ≤ (s.T i).length + l.length := by
  induction l generalizing s with
  | nil => exact ⟨Nat.le_refl _, Nat.le_refl _⟩
  | cons p t ih =>
    have h1 := ih (stp s p)
    have h2 := stp_len s p i
    rw [List.foldl_cons, List.length_cons]
    omega
theorem pcAll_len {x : Cfg} (hm : x.mayB = true) (a : Int) : (pcAll x a).length ≤ 1000 := by
  have h1 := pcB_len hm a x.hs.length (Nat.le_refl _)
  have h2 := tabsH_len x x.ps.length
  have h3 := (Cfg.mayB_iff.1 hm).2.2.1
  have h4 := (Cfg.mayB_iff.1 hm).2.2.2.1
  unfold pcAll
  rw [List.length_append, ann_length]
  omega

/-- The three that are made first. -/
structure MS (w : World) (x : Cfg) (C N : Nat) (d3 d7 d9 : Bool) (b1 b2 b5 : Nat) (w' : World) : Prop where
  one : One w x C N w'
  res : Blk w' (C + 1) [.int .i64 0, .slice none 0 0, .slice none 0 0, .int .i64 0] 31
  cw : C = w.heap.size
  sz : C + 2 ≤ w'.heap.size
  m1 : d3 = true → Blk w' b1 ((List.replicate x.ps.length z5).flatten) 70 ∧ C + 2 ≤ b1
  m2 : d7 = true → Blk w' b2 ((List.replicate x.hs.length z5).flatten) 63 ∧ C + 2 ≤ b2
  m5 : d9 = true → Blk w' b5 [.int .i64 0, .slice none 0 0, .slice none 0 0, .int .i64 0] 31 ∧ C + 2 ≤ b5
  n12 : d3 = true → d7 = true → b1 ≠ b2
  n15 : d3 = true → d9 = true → b5 ≠ b1
  n25 : d7 = true → d9 = true → b5 ≠ b2
section
variable {w w' w'' : World} {x : Cfg} {C N b1 b2 b5 : Nat} {d3 d7 d9 : Bool}
theorem MS.cells (h : MS w x C N d3 d7 d9 b1 b2 b5 w') : w'.cell? ⟨C, 5, none⟩ = some (.slice x.pa x.ps.length x.pc) ∧ w'.cell? ⟨C, 6, none⟩ = some (.slice x.ha x.hs.length x.hc) := ⟨h.one.cfg.cell rfl, h.one.cfg.cell rfl⟩
theorem MS.up (h : MS w x C N d3 d7 d9 b1 b2 b5 w') (hK : Keeps (fun _ => False) w' w'') : MS w x C N d3 d7 d9 b1 b2 b5 w'' :=
  ⟨h.one.kept hK, h.res.kept hK fun h => h, h.cw, Nat.le_trans h.sz hK.size, fun e => ⟨(h.m1 e).1.kept hK fun h => h, (h.m1 e).2⟩, fun e => ⟨(h.m2 e).1.kept hK fun h => h, (h.m2 e).2⟩, fun e => ⟨(h.m5 e).1.kept hK fun h => h, (h.m5 e).2⟩, h.n12, h.n15, h.n25⟩
theorem MS.make1 (h : MS w x C N false d7 d9 b1 b2 b5 w') : MS w x C N true d7 d9 w'.heap.size b2 b5 (w'.alloc (.cells ((List.replicate x.ps.length z5).flatten).toArray 70)) := by
  have hu := h.up (((Keeps.refl _ w').alloc (.cells ((List.replicate x.ps.length z5).flatten).toArray 70)))
  exact ⟨hu.one, hu.res, hu.cw, hu.sz, fun _ => ⟨Blk.new _ _ _, h.sz⟩, hu.m2, hu.m5, fun _ e he => by have := (h.m2 e).1.lt; omega, fun _ e he => by have := (h.m5 e).1.lt; omega, hu.n25⟩
theorem MS.make2 (h : MS w x C N d3 false d9 b1 b2 b5 w') : MS w x C N d3 true d9 b1 w'.heap.size b5 (w'.alloc (.cells ((List.replicate x.hs.length z5).flatten).toArray 63)) := by
  have hu := h.up (((Keeps.refl _ w').alloc (.cells ((List.replicate x.hs.length z5).flatten).toArray 63)))
  exact ⟨hu.one, hu.res, hu.cw, hu.sz, hu.m1, fun _ => ⟨Blk.new _ _ _, h.sz⟩, hu.m5, fun e _ he => by have := (h.m1 e).1.lt; omega, hu.n15, fun _ e he => by have := (h.m5 e).1.lt; omega⟩
theorem MS.alloc5 (h : MS w x C N d3 d7 false b1 b2 b5 w') : MS w x C N d3 d7 true b1 b2 w'.heap.size (w'.alloc (.cells #[.int .i64 0, .slice none 0 0, .slice none 0 0, .int .i64 0] 31)) := by
  have hu := h.up (((Keeps.refl _ w').alloc (.cells #[.int .i64 0, .slice none 0 0, .slice none 0 0, .int .i64 0] 31)))
  exact ⟨hu.one, hu.res, hu.cw, hu.sz, hu.m1, hu.m2, fun _ => ⟨Blk.new _ _ _, h.sz⟩, hu.n12, fun e _ he => by have := (h.m1 e).1.lt; omega, fun e _ he => by have := (h.m2 e).1.lt; omega⟩
theorem MS.stored (h : MS w x C N true true true b1 b2 b5 w') (a : Int) :
    LX w x C N b1 b2 b5 (fun _ => 0) (fun _ => 0) (z9 a) (fun _ => PP.z) (fun _ => CP.z) (w'.setRow b5 #[.int .i64 0, .slice (some ⟨b1, 0, none⟩) x.ps.length x.ps.length, .slice (some ⟨b2, 0, none⟩) x.hs.length x.hs.length, .int .i64 0]) := by
  have hK : Keeps (fun k => k = b5) w' (w'.setRow b5 #[.int .i64 0, .slice (some ⟨b1, 0, none⟩) x.ps.length x.ps.length, .slice (some ⟨b2, 0, none⟩) x.hs.length x.hs.length, .int .i64 0]) := (Keeps.refl _ _).setRow _ _ fun _ => rfl
  obtain ⟨p1, q1⟩ := h.m1 rfl
  obtain ⟨p2, q2⟩ := h.m2 rfl
  obtain ⟨p5, q5⟩ := h.m5 rfl
  have n15 := h.n15 rfl rfl
  have n25 := h.n25 rfl rfl
  have hcw := h.cw
  have hn := h.one.n
  have ho := h.one.kept' hK (by omega) (fun k e => by omega) (fun k e => by omega)
  refine ⟨⟨ho.cfg, h.res.kept hK (by omega), ho.keeps, ho.cin, h.cw, by omega, fun k e => e.elim, Nat.le_trans h.sz hK.size, p5.setRow _, ?_, ?_, ⟨q1, q2, q5⟩, ⟨h.n12 rfl rfl, n15, n25⟩, fun i _ => ⟨Row.nil _ _, (fun k e => by cases e)⟩, fun i _ => ⟨Row.nil _ _, (fun k e => by cases e)⟩⟩, fun _ => ⟨rfl, rfl, rfl, rfl⟩, fun _ => ⟨rfl, rfl⟩, fun _ => ⟨rfl, rfl⟩, (fun _ _ _ _ _ k e => by cases e), (fun _ _ _ _ _ k e => by cases e)⟩
  · have := p1.kept hK (fun e => n15 e.symm)
    rw [row5_zero] at this
    exact this
  · have := p2.kept hK (fun e => n25 e.symm)
    rw [row5_zero] at this
    exact this
end

end Go.Proofs.Ythaoopaafdgioab
