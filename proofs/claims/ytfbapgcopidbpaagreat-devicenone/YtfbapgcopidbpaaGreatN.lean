import Derived.Test.YtfbapgcopidbpaaGreatM
namespace Go.Proofs.YtfbapgcopidbpaaGreat
open Go.RowKit
set_option linter.unusedVariables false
set_option maxRecDepth 6000
variable {f : Nat} {bs : Array Value} {S : Nat → Prop} {J : World → Int → List (Ow × Int) → Prop}

/-- A partition's, a channel's place, as it lies in the memory. -/
structure PP where
  lock : Int
  save : Int
  state : Int
  root : Int
  tv : Value
structure CP where
  lock : Int
  stage : Int
  sp : Int
  sq : Int
  dv : Value
abbrev PP.vs (p : PP) : List Value := [.int .i64 p.lock, .int .i64 p.save, .int .i64 p.state, .int .i64 p.root, p.tv]
abbrev CP.vs (p : CP) : List Value := [.int .i64 p.lock, .int .i64 p.stage, .int .i64 p.sp, .int .i64 p.sq, p.dv]
def PP.z : PP := ⟨0, 0, 0, 0, .slice none 0 0⟩
def CP.z : CP := ⟨0, 0, 0, 0, .slice none 0 0⟩
def z5 : List Value := [.int .i64 0, .int .i64 0, .int .i64 0, .int .i64 0, .slice none 0 0]

theorem z5_get (n i : Nat) (hi : i < n * 5) : ((List.replicate n z5).flatten)[i]? = z5[i % 5]? := by
  induction n generalizing i with
  | zero => omega
  | succ n ih =>
    rw [List.replicate_succ, List.flatten_cons]
    by_cases h5 : i < 5
    · rw [List.getElem?_append_left (by simp [z5]; exact h5), Nat.mod_eq_of_lt h5]
    · rw [List.getElem?_append_right (by simp [z5]; omega)]
      have h6 : (i - z5.length) % 5 = i % 5 := by simp [z5]; omega
      rw [← h6]
      exact ih (i - z5.length) (by simp [z5]; omega)
theorem madeCells_z5 (n : Nat) : madeCells (Value.agg #[.int .i64 0, .int .i64 0, .int .i64 0, .int .i64 0, .slice none 0 0]).cells (n * 5) = ((List.replicate n z5).flatten).toArray := by
  apply Array.ext'
  apply List.ext_getElem?
  intro i
  have hl : ((List.replicate n z5).flatten).length = n * 5 := by simp [z5]
  by_cases hi : i < n * 5
  · show _ = ((List.replicate n z5).flatten)[i]?
    rw [z5_get n i hi]
    simp [madeCells, hi, Value.cells]
    have h3 : i % 5 = 0 ∨ i % 5 = 1 ∨ i % 5 = 2 ∨ i % 5 = 3 ∨ i % 5 = 4 := by omega
    rcases h3 with h3 | h3 | h3 | h3 | h3 <;> simp [h3, z5]
  · show _ = ((List.replicate n z5).flatten)[i]?
    rw [List.getElem?_eq_none (l := ((List.replicate n z5).flatten)) (by rw [hl]; omega)]
    simp [madeCells, hi]
theorem run_make55 (w : World) (n : Nat) (hn : n ≤ 1000) :
    (Instr.makeSlice 32 (.int .i64 n) (.int .i64 n)).run Tryz.prog w = .ok (.slice (some ⟨w.heap.size, 0, none⟩) n n) (w.alloc (.cells ((List.replicate n z5).flatten).toArray 90)) := by
  obtain ⟨i0, hi, hz0, hz1, hz2⟩ := info_parts Tryz.info90
  have h := run_make (P := Tryz.prog) w 32 90 i0 _ Tryz.underlying32 hi hz0 .i64 .i64 n n (by omega) (by omega) (by rw [hz2]; omega) (by omega)
  rw [Int.toNat_natCast, hz1, madeCells_z5] at h
  exact h
theorem run_make59 (w : World) (n : Nat) (hn : n ≤ 1000) :
    (Instr.makeSlice 33 (.int .i64 n) (.int .i64 n)).run Tryz.prog w = .ok (.slice (some ⟨w.heap.size, 0, none⟩) n n) (w.alloc (.cells ((List.replicate n z5).flatten).toArray 82)) := by
  obtain ⟨i0, hi, hz0, hz1, hz2⟩ := info_parts Tryz.info82
  have h := run_make (P := Tryz.prog) w 33 82 i0 _ Tryz.underlying33 hi hz0 .i64 .i64 n n (by omega) (by omega) (by rw [hz2]; omega) (by omega)
  rw [Int.toNat_natCast, hz1, madeCells_z5] at h
  exact h

/-- Where a layout begins: which of the four are made. -/
structure LS (w : World) (x : Cfg) (C N : Nat) (S : Nat → Prop) (J : World → Int → List (Ow × Int) → Prop) (a : Int) (hist : List (Ow × Int)) (d2 d6 d10 d12 : Bool) (b1 b2 b5 : Nat) (w' : World) : Prop where
  cfg : Blk w' C x.vs 42
  res : Blk w' (C + 1) [.int .i64 0, .slice none 0 0, .slice none 0 0, .int .i64 0] 35
  kp : Keeps S w w'
  cin : x.In w' N
  cw : C = w.heap.size
  n : N ≤ C
  low : ∀ k, S k → N ≤ k ∧ k < w.heap.size
  sz : C + 2 ≤ w'.heap.size
  jj : J w' (if d2 then a + 2 else a) (if d2 then hist ++ [(⟨2, 0, 0⟩, 2)] else hist)
  m1 : d6 = true → Blk w' b1 ((List.replicate x.ps.length z5).flatten) 90 ∧ C + 2 ≤ b1
  m2 : d10 = true → Blk w' b2 ((List.replicate x.hs.length z5).flatten) 82 ∧ C + 2 ≤ b2
  m5 : d12 = true → Blk w' b5 [.int .i64 0, .slice none 0 0, .slice none 0 0, .int .i64 0] 35 ∧ C + 2 ≤ b5
  n12 : d6 = true → d10 = true → b1 ≠ b2
  n15 : d6 = true → d12 = true → b1 ≠ b5
  n25 : d10 = true → d12 = true → b2 ≠ b5
section
variable {w w' w'' : World} {x : Cfg} {C N b1 b2 b5 : Nat} {a : Int} {hist : List (Ow × Int)} {d2 d6 d10 d12 : Bool}
theorem LS.cells (h : LS w x C N S J a hist d2 d6 d10 d12 b1 b2 b5 w') : w'.cell? ⟨C, 5, none⟩ = some (.slice x.pa x.ps.length x.pc) ∧ w'.cell? ⟨C, 6, none⟩ = some (.slice x.ha x.hs.length x.hc) := ⟨h.cfg.cell rfl, h.cfg.cell rfl⟩
theorem LS.j0 (h : LS w x C N S J a hist false d6 d10 d12 b1 b2 b5 w') : J w' a hist := by simpa using h.jj
theorem LS.j1 (h : LS w x C N S J a hist true d6 d10 d12 b1 b2 b5 w') : J w' (a + 2) (hist ++ [(⟨2, 0, 0⟩, 2)]) := by simpa using h.jj
theorem LS.up (hD : Dl f bs S J) (h : LS w x C N S J a hist d2 d6 d10 d12 b1 b2 b5 w') (hK : Keeps (fun _ => False) w' w'') : LS w x C N S J a hist d2 d6 d10 d12 b1 b2 b5 w'' :=
  ⟨h.cfg.kept hK fun h => h, h.res.kept hK fun h => h, h.kp.trans hK fun _ _ h => h.elim, h.cin.keeps (by have := h.n; have := h.sz; omega) hK, h.cw, h.n, h.low, Nat.le_trans h.sz hK.size, hD.kept h.jj hK fun _ _ h => h,
    fun e => ⟨(h.m1 e).1.kept hK fun h => h, (h.m1 e).2⟩, fun e => ⟨(h.m2 e).1.kept hK fun h => h, (h.m2 e).2⟩, fun e => ⟨(h.m5 e).1.kept hK fun h => h, (h.m5 e).2⟩, h.n12, h.n15, h.n25⟩
theorem LS.called (h : LS w x C N S J a hist false d6 d10 d12 b1 b2 b5 w') (hK : Keeps S w' w'') (hj : J w'' (a + 2) (hist ++ [(⟨2, 0, 0⟩, 2)])) : LS w x C N S J a hist true d6 d10 d12 b1 b2 b5 w'' := by
  have hcw := h.cw
  have no : ∀ k, C ≤ k → ¬ S k := fun k hk e => by have := (h.low k e).2; omega
  exact ⟨h.cfg.kept hK (no _ (by omega)), h.res.kept hK (no _ (by omega)), h.kp.trans hK fun _ _ h => h, h.cin.below (hK.below (by have := h.n; have := h.sz; omega) fun k e => (h.low k e).1), h.cw, h.n, h.low, Nat.le_trans h.sz hK.size, hj,
    fun e => ⟨(h.m1 e).1.kept hK (no _ (by have := (h.m1 e).2; omega)), (h.m1 e).2⟩, fun e => ⟨(h.m2 e).1.kept hK (no _ (by have := (h.m2 e).2; omega)), (h.m2 e).2⟩, fun e => ⟨(h.m5 e).1.kept hK (no _ (by have := (h.m5 e).2; omega)), (h.m5 e).2⟩, h.n12, h.n15, h.n25⟩
theorem LS.make1 (hD : Dl f bs S J) (h : LS w x C N S J a hist d2 false d10 d12 b1 b2 b5 w') : LS w x C N S J a hist d2 true d10 d12 w'.heap.size b2 b5 (w'.alloc (.cells ((List.replicate x.ps.length z5).flatten).toArray 90)) := by
  have hu := h.up hD (((Keeps.refl _ w').alloc (.cells ((List.replicate x.ps.length z5).flatten).toArray 90)))
  exact ⟨hu.cfg, hu.res, hu.kp, hu.cin, hu.cw, hu.n, hu.low, hu.sz, hu.jj, fun _ => ⟨Blk.new _ _ _, h.sz⟩, hu.m2, hu.m5, fun _ e he => by have := (h.m2 e).1.lt; omega, fun _ e he => by have := (h.m5 e).1.lt; omega, hu.n25⟩
theorem LS.make2 (hD : Dl f bs S J) (h : LS w x C N S J a hist d2 d6 false d12 b1 b2 b5 w') : LS w x C N S J a hist d2 d6 true d12 b1 w'.heap.size b5 (w'.alloc (.cells ((List.replicate x.hs.length z5).flatten).toArray 82)) := by
  have hu := h.up hD (((Keeps.refl _ w').alloc (.cells ((List.replicate x.hs.length z5).flatten).toArray 82)))
  exact ⟨hu.cfg, hu.res, hu.kp, hu.cin, hu.cw, hu.n, hu.low, hu.sz, hu.jj, hu.m1, fun _ => ⟨Blk.new _ _ _, h.sz⟩, hu.m5, fun e _ he => by have := (h.m1 e).1.lt; omega, hu.n15, fun _ e he => by have := (h.m5 e).1.lt; omega⟩
theorem LS.alloc5 (hD : Dl f bs S J) (h : LS w x C N S J a hist d2 d6 d10 false b1 b2 b5 w') : LS w x C N S J a hist d2 d6 d10 true b1 b2 w'.heap.size (w'.alloc (.cells #[.int .i64 0, .slice none 0 0, .slice none 0 0, .int .i64 0] 35)) := by
  have hu := h.up hD (((Keeps.refl _ w').alloc (.cells #[.int .i64 0, .slice none 0 0, .slice none 0 0, .int .i64 0] 35)))
  exact ⟨hu.cfg, hu.res, hu.kp, hu.cin, hu.cw, hu.n, hu.low, hu.sz, hu.jj, hu.m1, hu.m2, fun _ => ⟨Blk.new _ _ _, h.sz⟩, hu.n12, fun e _ he => by have := (h.m1 e).1.lt; omega, fun e _ he => by have := (h.m2 e).1.lt; omega⟩
end
end Go.Proofs.YtfbapgcopidbpaaGreat
