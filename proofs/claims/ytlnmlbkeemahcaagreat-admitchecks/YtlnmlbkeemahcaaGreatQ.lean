import Derived.Test.YtlnmlbkeemahcaaGreatM
namespace Go.Proofs.YtlnmlbkeemahcaaGreat
open Go.RowKit
set_option linter.unusedVariables false
set_option maxRecDepth 6000
variable {f : Nat} {bs : Array Value} {S : Nat → Prop} {J : World → Int → List (Ow × Int) → Prop}
structure PP where
 lock : Int
 save : Int
 state : Int
 root : Int
 tv : Value
structure CP where
 lock : Int
 stage : Int
 sp : Int
 sq : Int
 dv : Value
abbrev PP.vs (p : PP) : List Value := [.int .i64 p.lock, .int .i64 p.save, .int .i64 p.state, .int .i64 p.root, p.tv]
abbrev CP.vs (p : CP) : List Value := [.int .i64 p.lock, .int .i64 p.stage, .int .i64 p.sp, .int .i64 p.sq, p.dv]
def PP.z : PP := ⟨0, 0, 0, 0, .slice none 0 0⟩
def CP.z : CP := ⟨0, 0, 0, 0, .slice none 0 0⟩
def z5 : List Value := [.int .i64 0, .int .i64 0, .int .i64 0, .int .i64 0, .slice none 0 0]
theorem z5_get (n i : Nat) (hi : i < n * 5) : ((List.replicate n z5).flatten)[i]? = z5[i % 5]? := by
 induction n generalizing i with
 | zero => omega
 | succ n ih =>
  rw [List.replicate_succ, List.flatten_cons]
  by_cases h5 : i < 5
  ·
   rw [List.getElem?_append_left (by simp [z5]; exact h5), Nat.mod_eq_of_lt h5]
  ·
   rw [List.getElem?_append_right (by simp [z5]; omega)]
   have h6 : (i - z5.length) % 5 = i % 5 := by simp [z5]; omega
   rw [← h6]
   exact ih (i - z5.length) (by simp [z5]; omega)
theorem madeCells_z5 (n : Nat) : madeCells (Value.agg #[.int .i64 0, .int .i64 0, .int .i64 0, .int .i64 0, .slice none 0 0]).cells (n * 5) = ((List.replicate n z5).flatten).toArray := by
 apply Array.ext'
 apply List.ext_getElem?
 intro i
 have hl : ((List.replicate n z5).flatten).length = n * 5 := by simp [z5]
 by_cases hi : i < n * 5
 ·
  show _ = ((List.replicate n z5).flatten)[i]?
  rw [z5_get n i hi]
  simp [madeCells, hi, Value.cells]
  have h3 : i % 5 = 0 ∨ i % 5 = 1 ∨ i % 5 = 2 ∨ i % 5 = 3 ∨ i % 5 = 4 := by omega
  rcases h3 with h3 | h3 | h3 | h3 | h3 <;> simp [h3, z5]
 ·
  show _ = ((List.replicate n z5).flatten)[i]?
  rw [List.getElem?_eq_none (l := ((List.replicate n z5).flatten)) (by rw [hl]; omega)]
  simp [madeCells, hi]
theorem run_make55 (w : World) (n : Nat) (hn : n ≤ 1000) :
  (Instr.makeSlice 89 (.int .i64 n) (.int .i64 n)).run Tryz.prog w = .ok (.slice (some ⟨w.heap.size, 0, none⟩) n n) (w.alloc (.cells ((List.replicate n z5).flatten).toArray 116)) := by
 obtain ⟨i0, hi, hz0, hz1, hz2⟩ := info_parts Tryz.info116
 have h := run_make (P := Tryz.prog) w 89 116 i0 _ Tryz.underlying89 hi hz0 .i64 .i64 n n (by omega) (by omega) (by rw [hz2]; omega) (by omega)
 rw [Int.toNat_natCast, hz1, madeCells_z5] at h
 exact h
theorem run_make59 (w : World) (n : Nat) (hn : n ≤ 1000) :
  (Instr.makeSlice 90 (.int .i64 n) (.int .i64 n)).run Tryz.prog w = .ok (.slice (some ⟨w.heap.size, 0, none⟩) n n) (w.alloc (.cells ((List.replicate n z5).flatten).toArray 107)) := by
 obtain ⟨i0, hi, hz0, hz1, hz2⟩ := info_parts Tryz.info107
 have h := run_make (P := Tryz.prog) w 90 107 i0 _ Tryz.underlying90 hi hz0 .i64 .i64 n n (by omega) (by omega) (by rw [hz2]; omega) (by omega)
 rw [Int.toNat_natCast, hz1, madeCells_z5] at h
 exact h
structure LS (w : World) (x : Cfg) (C N : Nat) (S : Nat → Prop) (J : World → Int → List (Ow × Int) → Prop) (a : Int) (hist : List (Ow × Int)) (d2 d6 d10 d12 : Bool) (b1 b2 b5 : Nat) (w' : World) : Prop where
 cfg : Blk w' C x.vs 26
 res : Blk w' (C + 1) [.int .i64 0, .slice none 0 0, .slice none 0 0, .int .i64 0] 92
 kp : Keeps S w w'
 cin : x.In w' N
 cw : C = w.heap.size
 n : N ≤ C
 low : ∀ k, S k → N ≤ k ∧ k < w.heap.size
 sz : C + 2 ≤ w'.heap.size
 jj : J w' (if d2 then a + 2 else a) (if d2 then hist ++ [(⟨2, 0, 0⟩, 2)] else hist)
 m1 : d6 = true → Blk w' b1 ((List.replicate x.ps.length z5).flatten) 116 ∧ C + 2 ≤ b1
 m2 : d10 = true → Blk w' b2 ((List.replicate x.hs.length z5).flatten) 107 ∧ C + 2 ≤ b2
 m5 : d12 = true → Blk w' b5 [.int .i64 0, .slice none 0 0, .slice none 0 0, .int .i64 0] 92 ∧ C + 2 ≤ b5
 n12 : d6 = true → d10 = true → b1 ≠ b2
 n15 : d6 = true → d12 = true → b1 ≠ b5
 n25 : d10 = true → d12 = true → b2 ≠ b5
section
variable {w w' w'' : World} {x : Cfg} {C N b1 b2 b5 : Nat} {a : Int} {hist : List (Ow × Int)} {d2 d6 d10 d12 : Bool}
theorem LS.cells (h : LS w x C N S J a hist d2 d6 d10 d12 b1 b2 b5 w') : w'.cell? ⟨C, 5, none⟩ = some (.slice x.pa x.ps.length x.pc) ∧ w'.cell? ⟨C, 6, none⟩ = some (.slice x.ha x.hs.length x.hc) := ⟨h.cfg.cell rfl, h.cfg.cell rfl⟩
theorem LS.j0 (h : LS w x C N S J a hist false d6 d10 d12 b1 b2 b5 w') : J w' a hist := by simpa using h.jj
theorem LS.j1 (h : LS w x C N S J a hist true d6 d10 d12 b1 b2 b5 w') : J w' (a + 2) (hist ++ [(⟨2, 0, 0⟩, 2)]) := by simpa using h.jj
theorem LS.up (hD : Dl f bs S J) (h : LS w x C N S J a hist d2 d6 d10 d12 b1 b2 b5 w') (hK : KF w' w'') : LS w x C N S J a hist d2 d6 d10 d12 b1 b2 b5 w'' :=
 ⟨h.cfg.kept hK fun h => h, h.res.kept hK fun h => h, h.kp.trans hK fun _ _ h => h.elim, h.cin.keeps (by have := h.n; have := h.sz; omega) hK, h.cw, h.n, h.low, Nat.le_trans h.sz hK.size, hD.kept h.jj hK fun _ _ h => h,
  fun e => ⟨(h.m1 e).1.kept hK fun h => h, (h.m1 e).2⟩, fun e => ⟨(h.m2 e).1.kept hK fun h => h, (h.m2 e).2⟩, fun e => ⟨(h.m5 e).1.kept hK fun h => h, (h.m5 e).2⟩, h.n12, h.n15, h.n25⟩
theorem LS.called (h : LS w x C N S J a hist false d6 d10 d12 b1 b2 b5 w') (hK : Keeps S w' w'') (hj : J w'' (a + 2) (hist ++ [(⟨2, 0, 0⟩, 2)])) : LS w x C N S J a hist true d6 d10 d12 b1 b2 b5 w'' := by
 have hcw := h.cw
 have no : ∀ k, C ≤ k → ¬ S k := fun k hk e => by have := (h.low k e).2; omega
 exact ⟨h.cfg.kept hK (no _ (by omega)), h.res.kept hK (no _ (by omega)), h.kp.trans hK fun _ _ h => h, h.cin.below (hK.below (by have := h.n; have := h.sz; omega) fun k e => (h.low k e).1), h.cw, h.n, h.low, Nat.le_trans h.sz hK.size, hj,
  fun e => ⟨(h.m1 e).1.kept hK (no _ (by have := (h.m1 e).2; omega)), (h.m1 e).2⟩, fun e => ⟨(h.m2 e).1.kept hK (no _ (by have := (h.m2 e).2; omega)), (h.m2 e).2⟩, fun e => ⟨(h.m5 e).1.kept hK (no _ (by have := (h.m5 e).2; omega)), (h.m5 e).2⟩, h.n12, h.n15, h.n25⟩
theorem LS.make1 (hD : Dl f bs S J) (h : LS w x C N S J a hist d2 false d10 d12 b1 b2 b5 w') : LS w x C N S J a hist d2 true d10 d12 w'.heap.size b2 b5 (w'.alloc (.cells ((List.replicate x.ps.length z5).flatten).toArray 116)) := by
 have hu := h.up hD (((Keeps.refl _ w').alloc (.cells ((List.replicate x.ps.length z5).flatten).toArray 116)))
 exact ⟨hu.cfg, hu.res, hu.kp, hu.cin, hu.cw, hu.n, hu.low, hu.sz, hu.jj, fun _ => ⟨Blk.new _ _ _, h.sz⟩, hu.m2, hu.m5, fun _ e he => by have := (h.m2 e).1.lt; omega, fun _ e he => by have := (h.m5 e).1.lt; omega, hu.n25⟩
theorem LS.make2 (hD : Dl f bs S J) (h : LS w x C N S J a hist d2 d6 false d12 b1 b2 b5 w') : LS w x C N S J a hist d2 d6 true d12 b1 w'.heap.size b5 (w'.alloc (.cells ((List.replicate x.hs.length z5).flatten).toArray 107)) := by
 have hu := h.up hD (((Keeps.refl _ w').alloc (.cells ((List.replicate x.hs.length z5).flatten).toArray 107)))
 exact ⟨hu.cfg, hu.res, hu.kp, hu.cin, hu.cw, hu.n, hu.low, hu.sz, hu.jj, hu.m1, fun _ => ⟨Blk.new _ _ _, h.sz⟩, hu.m5, fun e _ he => by have := (h.m1 e).1.lt; omega, hu.n15, fun _ e he => by have := (h.m5 e).1.lt; omega⟩
theorem LS.alloc5 (hD : Dl f bs S J) (h : LS w x C N S J a hist d2 d6 d10 false b1 b2 b5 w') : LS w x C N S J a hist d2 d6 d10 true b1 b2 w'.heap.size (w'.alloc (.cells #[.int .i64 0, .slice none 0 0, .slice none 0 0, .int .i64 0] 92)) := by
 have hu := h.up hD (((Keeps.refl _ w').alloc (.cells #[.int .i64 0, .slice none 0 0, .slice none 0 0, .int .i64 0] 92)))
 exact ⟨hu.cfg, hu.res, hu.kp, hu.cin, hu.cw, hu.n, hu.low, hu.sz, hu.jj, hu.m1, hu.m2, fun _ => ⟨Blk.new _ _ _, h.sz⟩, hu.n12, fun e _ he => by have := (h.m1 e).1.lt; omega, fun e _ he => by have := (h.m2 e).1.lt; omega⟩
end
end Go.Proofs.YtlnmlbkeemahcaaGreat
namespace Go.Proofs.YtlnmlbkeemahcaaGreat
open Go.RowKit
set_option linter.unusedVariables false
set_option maxRecDepth 6000
theorem run_storeVar_mid {P : Program} (w : World) (g off : Nat) (t ty : TypeId) (old : List Value) (cells : List Value) (hg : Blk w g old t) (hi : (P.info? ty).map (·.size) = some cells.length)
  (ho : off + cells.length ≤ old.length) (h1 : ∀ v ∈ cells, v.oneCell' = true) :
  (storeVar ty ⟨g, off, none⟩ (.agg cells.toArray)).run P w = .ok () (w.setRow g (old.take off ++ cells ++ old.drop (off + cells.length)).toArray) := by
 have hst := run_storeCells_at P g off t cells 0 old.toArray w hg (by simpa using ho) h1
 simp only [Nat.add_zero] at hst
 cases hq : P.info? ty with
 | none => simp [hq] at hi
 | some i =>
  have hs : cells.length = i.size := by simp [hq] at hi; omega
  simp [storeVar, sizeOf, typeInfo, hq, Value.cells, hs, hst]
theorem wp_store_mid {P : Program} {o : Oper} {a : Act} {w : World} {K : Act → World → Prop} {Q : Exit → Act → World → Prop} (ty : TypeId) (x y : Operand) (ho : o.op = .store ty x y)
  (g off : Nat) (cells : List Value) (hx : a.eval x = .pointer (some ⟨g, off, none⟩)) (hy : a.eval y = .agg cells.toArray)
  (t : TypeId) (old : List Value) (hg : Blk w g old t) (hi : (P.info? ty).map (·.size) = some cells.length) (hold : off + cells.length ≤ old.length) (h1 : ∀ v ∈ cells, v.oneCell' = true)
  (h : K (a.put o.dst undef) (w.setRow g (old.take off ++ cells ++ old.drop (off + cells.length)).toArray)) : o.wp P a w K Q := by
 unfold Oper.wp execOp
 simp only [ho, hx, hy, Instr.storeAt, Instr.sureAddr, Sem.run_bind, Sem.run_pure, Result.andThen_ok, run_storeVar_mid w g off t ty old cells hg hi hold h1]
 exact h
def upd {α : Type} (F : Nat → α) (j : Nat) (v : α) : Nat → α := fun i => if i = j then v else F i
theorem upd_same {α : Type} (F : Nat → α) (j : Nat) (v : α) : upd F j v j = v := by simp [upd]
theorem upd_ne {α : Type} (F : Nat → α) {j i : Nat} (v : α) (h : i ≠ j) : upd F j v i = F i := by simp [upd, h]
def row5 (F : Nat → List Value) (L : Nat) : List Value := (List.range L).flatMap F
theorem row5_len {F : Nat → List Value} (hF : ∀ i, (F i).length = 5) (L : Nat) : (row5 F L).length = L * 5 := by
 unfold row5
 induction L with
 | zero => simp
 | succ L ih => rw [List.range_succ, List.flatMap_append, List.length_append, ih]; simp [hF]; omega
theorem row5_get {F : Nat → List Value} (hF : ∀ i, (F i).length = 5) {L j k : Nat} (hj : j < L) (hk : k < 5) : (row5 F L)[j * 5 + k]? = (F j)[k]? := by
 induction L with
 | zero => omega
 | succ L ih =>
  have hs : row5 F (L + 1) = row5 F L ++ F L := by unfold row5; rw [List.range_succ, List.flatMap_append]; simp
  rw [hs]
  have hl := row5_len hF L
  by_cases e : j < L
  ·
   rw [List.getElem?_append_left (by omega)]; exact ih e
  ·
   obtain rfl : j = L := by omega
   rw [List.getElem?_append_right (by omega), hl]
   congr 1
   omega
theorem row5_ext {F G : Nat → List Value} (hF : ∀ i, (F i).length = 5) (hG : ∀ i, (G i).length = 5) {L : Nat} {l : List Value} (hl : l.length = L * 5) (h : ∀ j k, j < L → k < 5 → l[j * 5 + k]? = (G j)[k]?) : l = row5 G L := by
 apply List.ext_getElem?
 intro m
 by_cases hm : m < L * 5
 ·
  have h1 := h (m / 5) (m % 5) (by omega) (by omega)
  have e : m / 5 * 5 + m % 5 = m := by omega
  rw [e] at h1
  rw [h1, ← row5_get hG (L := L) (j := m / 5) (k := m % 5) (by omega) (by omega), e]
 ·
  rw [List.getElem?_eq_none (by omega), List.getElem?_eq_none (by rw [row5_len hG]; omega)]
theorem row5_put {F : Nat → List Value} (hF : ∀ i, (F i).length = 5) {L j : Nat} (hj : j < L) (v : List Value) (hv : v.length = 5) :
  (row5 F L).take (j * 5) ++ v ++ (row5 F L).drop (j * 5 + 5) = row5 (upd F j v) L := by
 have hl := row5_len hF L
 refine row5_ext hF (fun i => by by_cases e : i = j <;> simp [upd, e, hv, hF]) (by simp [hl, hv]; omega) fun i k hi hk => ?_
 by_cases e : i = j
 ·
  subst e
  rw [upd_same, List.append_assoc, List.getElem?_append_right (by simp [hl]; omega), List.getElem?_append_left (by simp [hl, hv]; omega)]
  congr 1
  simp [hl]
  omega
 ·
  rw [upd_ne F v e, ← row5_get hF hi hk]
  by_cases lt : i < j
  ·
   rw [List.append_assoc, List.getElem?_append_left (by simp [hl]; omega), List.getElem?_take, if_pos (by omega)]
  ·
   rw [List.getElem?_append_right (by simp [hl, hv]; omega), List.getElem?_drop]
   congr 1
   simp [hl, hv]
   omega
theorem row5_set {F : Nat → List Value} (hF : ∀ i, (F i).length = 5) {L j k : Nat} (hj : j < L) (hk : k < 5) (v : Value) : (row5 F L).set (j * 5 + k) v = row5 (upd F j ((F j).set k v)) L := by
 have hl := row5_len hF L
 refine row5_ext hF (fun i => by by_cases e : i = j <;> simp [upd, e, hF]) (by simp [hl]) fun i m hi hm => ?_
 rw [List.getElem?_set]
 by_cases e : i = j
 ·
  subst e
  rw [upd_same, List.getElem?_set]
  by_cases e2 : k = m
  ·
   subst e2
   have h9 : i * 5 + k < L * 5 := by omega
   simp [hl, hF, hk, h9]
  ·
   rw [if_neg (by omega), if_neg e2, row5_get hF hi hm]
 ·
  rw [upd_ne F _ e, if_neg (by omega), row5_get hF hi hm]
theorem row5_zero (L : Nat) : (List.replicate L z5).flatten = row5 (fun _ => z5) L := by
 refine row5_ext (F := fun _ => z5) (fun _ => rfl) (fun _ => rfl) (by simp [z5]) fun j k hj hk => ?_
 rw [z5_get L _ (by omega)]
 congr 1
 omega
variable {f : Nat} {bs : Array Value} {S : Nat → Prop} {J : World → Int → List (Ow × Int) → Prop}
structure LI (w : World) (x : Cfg) (C N : Nat) (S : Nat → Prop) (a : Int) (b1 b2 b5 : Nat) (F : Nat → PP) (G : Nat → CP) (T : Nat → List Int) (D : Nat → List Dst) (w' : World) : Prop where
 cfg : Blk w' C x.vs 26
 res : Blk w' (C + 1) [.int .i64 0, .slice none 0 0, .slice none 0 0, .int .i64 0] 92
 kp : Keeps S w w'
 cin : x.In w' N
 cw : C = w.heap.size
 n : N ≤ C
 low : ∀ k, S k → N ≤ k ∧ k < w.heap.size
 sz : C + 2 ≤ w'.heap.size
 l : Blk w' b5 [.int .i64 a, .slice (some ⟨b1, 0, none⟩) x.ps.length x.ps.length, .slice (some ⟨b2, 0, none⟩) x.hs.length x.hs.length, .int .i64 0] 92
 p : Blk w' b1 (row5 (fun i => (F i).vs) x.ps.length) 116
 c : Blk w' b2 (row5 (fun i => (G i).vs) x.hs.length) 107
 lo : C + 2 ≤ b1 ∧ C + 2 ≤ b2 ∧ C + 2 ≤ b5
 ne : b1 ≠ b2 ∧ b5 ≠ b1 ∧ b5 ≠ b2
 tr : ∀ i, i < x.ps.length → Row eInt w' (C + 2) (F i).tv (T i) ∧ ∀ k, (F i).tv.ownBlock = some k → k ≠ b1 ∧ k ≠ b2 ∧ k ≠ b5
 dr : ∀ i, i < x.hs.length → Row eDst w' (C + 2) (G i).dv (D i) ∧ ∀ k, (G i).dv.ownBlock = some k → k ≠ b1 ∧ k ≠ b2 ∧ k ≠ b5
section
variable {w w' w'' : World} {x : Cfg} {C N b1 b2 b5 : Nat} {a : Int} {F : Nat → PP} {G : Nat → CP} {T : Nat → List Int} {D : Nat → List Dst}
theorem LI.call (h : LI w x C N S a b1 b2 b5 F G T D w') (hK : Keeps S w' w'') : LI w x C N S a b1 b2 b5 F G T D w'' := by
 have hcw := h.cw
 have no : ∀ k, C ≤ k → ¬ S k := fun k hk e => by have := (h.low k e).2; omega
 have hl := h.lo
 exact ⟨h.cfg.kept hK (no _ (by omega)), h.res.kept hK (no _ (by omega)), h.kp.trans hK fun _ _ h => h, h.cin.below (hK.below (by have := h.n; have := h.sz; omega) fun k e => (h.low k e).1), h.cw, h.n, h.low, Nat.le_trans h.sz hK.size,
  h.l.kept hK (no _ (by omega)), h.p.kept hK (no _ (by omega)), h.c.kept hK (no _ (by omega)), h.lo, h.ne,
  fun i hi => ⟨(h.tr i hi).1.kept hK fun k hk => by have := (h.low k hk).2; omega, (h.tr i hi).2⟩, fun i hi => ⟨(h.dr i hi).1.kept hK fun k hk => by have := (h.low k hk).2; omega, (h.dr i hi).2⟩⟩
theorem LI.grow (h : LI w x C N S a b1 b2 b5 F G T D w') (hK : KF w' w'') : LI w x C N S a b1 b2 b5 F G T D w'' := h.call (hK.mono fun _ _ h => h.elim)
theorem LI.wr (h : LI w x C N S a b1 b2 b5 F G T D w') {b : Nat} (hb : b = b1 ∨ b = b2 ∨ b = b5) (hK : Keeps (fun k => k = b) w' w'') :
  Blk w'' C x.vs 26 ∧ Blk w'' (C + 1) [.int .i64 0, .slice none 0 0, .slice none 0 0, .int .i64 0] 92 ∧ Keeps S w w'' ∧ x.In w'' N ∧ C + 2 ≤ w''.heap.size ∧
  (∀ i, i < x.ps.length → Row eInt w'' (C + 2) (F i).tv (T i)) ∧ (∀ i, i < x.hs.length → Row eDst w'' (C + 2) (G i).dv (D i)) := by
 have hcw := h.cw
 have hl := h.lo
 have hn := h.n
 have hsz := h.sz
 refine ⟨h.cfg.kept hK (by omega), h.res.kept hK (by omega), h.kp.trans hK fun k hk e => absurd hk (by omega), h.cin.below (hK.below (by omega) fun k e => by omega), Nat.le_trans hsz hK.size, fun i hi => ?_, fun i hi => ?_⟩
 ·
  refine (h.tr i hi).1.own_kept eInt_bl hK fun k hk e => ?_
  have := (h.tr i hi).2 k hk
  omega
 ·
  refine (h.dr i hi).1.own_kept eDst_bl hK fun k hk e => ?_
  have := (h.dr i hi).2 k hk
  omega
theorem PP.vs5 (p : PP) : p.vs.length = 5 := rfl
theorem CP.vs5 (p : CP) : p.vs.length = 5 := rfl
theorem upd_vs (F : Nat → PP) (j : Nat) (v : PP) : (fun i => (upd F j v i).vs) = upd (fun i => (F i).vs) j v.vs := by
 funext i; unfold upd; split <;> rfl
theorem upd_vsC (F : Nat → CP) (j : Nat) (v : CP) : (fun i => (upd F j v i).vs) = upd (fun i => (F i).vs) j v.vs := by
 funext i; unfold upd; split <;> rfl
theorem LI.putP (h : LI w x C N S a b1 b2 b5 F G T D w') {j : Nat} (hj : j < x.ps.length) (v : PP) (t : List Int) (hK : Keeps (fun k => k = b1) w' w'') (hB : Blk w'' b1 (row5 (upd (fun i => (F i).vs) j v.vs) x.ps.length) 116)
  (hr : Row eInt w'' (C + 2) v.tv t) (hn : ∀ k, v.tv.ownBlock = some k → k ≠ b1 ∧ k ≠ b2 ∧ k ≠ b5) : LI w x C N S a b1 b2 b5 (upd F j v) G (upd T j t) D w'' := by
 obtain ⟨h1, h2, h3, h4, h5, h6, h7⟩ := h.wr (.inl rfl) hK
 have hne := h.ne
 refine ⟨h1, h2, h3, h4, h.cw, h.n, h.low, h5, h.l.kept hK hne.2.1, by rw [upd_vs]; exact hB, h.c.kept hK (fun e => hne.1 e.symm), h.lo, h.ne, fun i hi => ?_, fun i hi => ⟨h7 i hi, (h.dr i hi).2⟩⟩
 by_cases e : i = j
 ·
  subst e; rw [upd_same, upd_same]; exact ⟨hr, hn⟩
 ·
  rw [upd_ne _ _ e, upd_ne _ _ e]; exact ⟨h6 i hi, (h.tr i hi).2⟩
theorem LI.putC (h : LI w x C N S a b1 b2 b5 F G T D w') {j : Nat} (hj : j < x.hs.length) (v : CP) (t : List Dst) (hK : Keeps (fun k => k = b2) w' w'') (hB : Blk w'' b2 (row5 (upd (fun i => (G i).vs) j v.vs) x.hs.length) 107)
  (hr : Row eDst w'' (C + 2) v.dv t) (hn : ∀ k, v.dv.ownBlock = some k → k ≠ b1 ∧ k ≠ b2 ∧ k ≠ b5) : LI w x C N S a b1 b2 b5 F (upd G j v) T (upd D j t) w'' := by
 obtain ⟨h1, h2, h3, h4, h5, h6, h7⟩ := h.wr (.inr (.inl rfl)) hK
 have hne := h.ne
 refine ⟨h1, h2, h3, h4, h.cw, h.n, h.low, h5, h.l.kept hK hne.2.2, h.p.kept hK hne.1, by rw [upd_vsC]; exact hB, h.lo, h.ne, fun i hi => ⟨h6 i hi, (h.tr i hi).2⟩, fun i hi => ?_⟩
 by_cases e : i = j
 ·
  subst e; rw [upd_same, upd_same]; exact ⟨hr, hn⟩
 ·
  rw [upd_ne _ _ e, upd_ne _ _ e]; exact ⟨h7 i hi, (h.dr i hi).2⟩
theorem LI.storeP (h : LI w x C N S a b1 b2 b5 F G T D w') {j : Nat} (hj : j < x.ps.length) (v : PP) (hv : v.tv = .slice none 0 0) :
  LI w x C N S a b1 b2 b5 (upd F j v) G (upd T j []) D (w'.setRow b1 ((row5 (fun i => (F i).vs) x.ps.length).take (j * 5) ++ v.vs ++ (row5 (fun i => (F i).vs) x.ps.length).drop (j * 5 + v.vs.length)).toArray) := by
 have hK : Keeps (fun k => k = b1) w' (w'.setRow b1 ((row5 (fun i => (F i).vs) x.ps.length).take (j * 5) ++ v.vs ++ (row5 (fun i => (F i).vs) x.ps.length).drop (j * 5 + v.vs.length)).toArray) := (Keeps.refl _ _).setRow _ _ fun _ => rfl
 refine h.putP hj v [] hK ?_ (by rw [hv]; exact Row.nil _ _) (fun k e => by rw [hv] at e; cases e)
 have := h.p.setRow ((row5 (fun i => (F i).vs) x.ps.length).take (j * 5) ++ v.vs ++ (row5 (fun i => (F i).vs) x.ps.length).drop (j * 5 + v.vs.length))
 have e := row5_put (F := fun i => (F i).vs) (fun i => PP.vs5 _) hj v.vs rfl
 rw [show v.vs.length = 5 from rfl] at this ⊢
 rw [e] at this ⊢
 exact this
theorem LI.storeC (h : LI w x C N S a b1 b2 b5 F G T D w') {j : Nat} (hj : j < x.hs.length) (v : CP) (t : List Dst) (hr : Row eDst w' (C + 2) v.dv t) (hn : ∀ k, v.dv.ownBlock = some k → k ≠ b1 ∧ k ≠ b2 ∧ k ≠ b5) :
  LI w x C N S a b1 b2 b5 F (upd G j v) T (upd D j t) (w'.setRow b2 ((row5 (fun i => (G i).vs) x.hs.length).take (j * 5) ++ v.vs ++ (row5 (fun i => (G i).vs) x.hs.length).drop (j * 5 + v.vs.length)).toArray) := by
 have hK : Keeps (fun k => k = b2) w' (w'.setRow b2 ((row5 (fun i => (G i).vs) x.hs.length).take (j * 5) ++ v.vs ++ (row5 (fun i => (G i).vs) x.hs.length).drop (j * 5 + v.vs.length)).toArray) := (Keeps.refl _ _).setRow _ _ fun _ => rfl
 refine h.putC hj v t hK ?_ (hr.own_kept eDst_bl hK fun k hk e => (hn k hk).2.1 e) hn
 have := h.c.setRow ((row5 (fun i => (G i).vs) x.hs.length).take (j * 5) ++ v.vs ++ (row5 (fun i => (G i).vs) x.hs.length).drop (j * 5 + v.vs.length))
 have e := row5_put (F := fun i => (G i).vs) (fun i => CP.vs5 _) hj v.vs rfl
 rw [show v.vs.length = 5 from rfl] at this ⊢
 rw [e] at this ⊢
 exact this
theorem LI.root (h : LI w x C N S a b1 b2 b5 F G T D w') {j : Nat} (hj : j < x.ps.length) (r : Int) :
  LI w x C N S a b1 b2 b5 (upd F j { F j with root := r }) G T D (w'.setCell ⟨b1, j * 5 + 3, none⟩ (.int .i64 r)) := by
 have hK : Keeps (fun k => k = b1) w' (w'.setCell ⟨b1, j * 5 + 3, none⟩ (.int .i64 r)) := (Keeps.refl _ _).setCell _ _ fun _ => rfl
 have hB := h.p.setCell (j * 5 + 3) (.int .i64 r)
 rw [row5_set (F := fun i => (F i).vs) (fun i => PP.vs5 _) hj (by omega)] at hB
 have := h.putP hj { F j with root := r } (T j) hK hB ((h.tr j hj).1.own_kept eInt_bl hK fun k hk e => ((h.tr j hj).2 k hk).1 e) (h.tr j hj).2
 rwa [show upd T j (T j) = T from by funext i; unfold upd; split <;> simp_all] at this
theorem LI.tabs (h : LI w x C N S a b1 b2 b5 F G T D w') {j : Nat} (hj : j < x.ps.length) (v : Value) (t : List Int) (hr : Row eInt w' (C + 2) v t) (hn : ∀ k, v.ownBlock = some k → k ≠ b1 ∧ k ≠ b2 ∧ k ≠ b5) :
  LI w x C N S a b1 b2 b5 (upd F j { F j with tv := v }) G (upd T j t) D (w'.setCell ⟨b1, j * 5 + 4, none⟩ v) := by
 have hK : Keeps (fun k => k = b1) w' (w'.setCell ⟨b1, j * 5 + 4, none⟩ v) := (Keeps.refl _ _).setCell _ _ fun _ => rfl
 have hB := h.p.setCell (j * 5 + 4) v
 rw [row5_set (F := fun i => (F i).vs) (fun i => PP.vs5 _) hj (by omega)] at hB
 exact h.putP hj { F j with tv := v } t hK hB (hr.own_kept eInt_bl hK fun k hk e => (hn k hk).1 e) hn
end
def dstsOf (x : Cfg) (n : Nat) : List Dst := endsL false n x.ps x.ps.length
def chSz (x : Cfg) (n : Nat) : Int := match x.hs[n]? with | some h => 2 + h.stg + (dstsOf x n).length * h.prt | none => 0
def chAt (x : Cfg) (b : Int) : Nat → Int | 0 => b | n + 1 => chAt x b n + chSz x n
def rtSz (x : Cfg) (i : Nat) : Int := match x.ps[i]? with | some P => 16 + 16 * (cntT P.rs 16 : Int) | none => 0
def rtAt (x : Cfg) (b : Int) : Nat → Int | 0 => b | i + 1 => rtAt x b i + rtSz x i
def partH (j : Nat) : List (Ow × Int) := (List.range j).flatMap fun (p : Nat) => [((⟨3, (p : Int), 0⟩ : Ow), (2 : Int)), (⟨4, p, 0⟩, 17), (⟨5, p, 0⟩, 5)]
def chansH (x : Cfg) (j : Nat) : List (Ow × Int) := (List.range j).flatMap fun (n : Nat) => match x.hs[n]? with | some h => chanH n h (dstsOf x n) | none => []
def tabsH (x : Cfg) (j : Nat) : List (Ow × Int) := (List.range j).flatMap fun (p : Nat) => match x.ps[p]? with | some P => List.replicate (1 + cntT P.rs 16) ((⟨9, (p : Int), 0⟩ : Ow), (16 : Int)) | none => []
theorem partH_succ (j : Nat) : partH (j + 1) = partH j ++ [(⟨3, j, 0⟩, 2), (⟨4, j, 0⟩, 17), (⟨5, j, 0⟩, 5)] := by unfold partH; rw [List.range_succ, List.flatMap_append]; simp
theorem chansH_succ {x : Cfg} {j : Nat} {h : Chn} (hh : x.hs[j]? = some h) : chansH x (j + 1) = chansH x j ++ chanH j h (dstsOf x j) := by unfold chansH; rw [List.range_succ, List.flatMap_append]; simp [hh]
theorem tabsH_succ {x : Cfg} {j : Nat} {P : Par} (hh : x.ps[j]? = some P) : tabsH x (j + 1) = tabsH x j ++ List.replicate (1 + cntT P.rs 16) ((⟨9, (j : Int), 0⟩ : Ow), (16 : Int)) := by unfold tabsH; rw [List.range_succ, List.flatMap_append]; simp [hh]
theorem chAt_succ {x : Cfg} {b : Int} {n : Nat} {h : Chn} (hh : x.hs[n]? = some h) : chAt x b (n + 1) = chAt x b n + 2 + h.stg + (dstsOf x n).length * h.prt := by
 show chAt x b n + chSz x n = _; unfold chSz; rw [hh]; dsimp only; omega
theorem rtAt_succ {x : Cfg} {b : Int} {n : Nat} {P : Par} (hh : x.ps[n]? = some P) : rtAt x b (n + 1) = rtAt x b n + 16 + 16 * (cntT P.rs 16 : Int) := by
 show rtAt x b n + rtSz x n = _; unfold rtSz; rw [hh]; dsimp only; omega
theorem chSz_bd {x : Cfg} (hm : x.mayB = true) (n : Nat) : 0 ≤ chSz x n ∧ chSz x n ≤ 1000 := by
 unfold chSz
 cases hh : x.hs[n]? with
 | none => simp
 | some h =>
  obtain ⟨hs, _, h1, h4⟩ := Cfg.mayB_chn hm hh
  have hb := Chn.plc_bd hs
  have h2 : 3 ≤ h.stg ∧ h.stg ≤ 137 := by unfold Chn.stg; omega
  have h3 : 4 ≤ h.prt ∧ h.prt ≤ 139 := by unfold Chn.prt; split <;> omega
  obtain ⟨d, hd⟩ : ∃ d, (dstsOf x n).length = d := ⟨_, rfl⟩
  have hd2 : 1 ≤ d ∧ d ≤ 4 := by rw [← hd]; exact ⟨h1, h4⟩
  dsimp only
  rw [hd]
  have h5 : d = 1 ∨ d = 2 ∨ d = 3 ∨ d = 4 := by omega
  rcases h5 with h5 | h5 | h5 | h5 <;> subst h5 <;> omega
theorem chAt_bd {x : Cfg} (hm : x.mayB = true) (b : Int) (n : Nat) : b ≤ chAt x b n ∧ chAt x b n ≤ b + 1000 * n := by
 induction n with
 | zero => simp [chAt]
 | succ n ih => have := chSz_bd hm n; show b ≤ chAt x b n + chSz x n ∧ chAt x b n + chSz x n ≤ _; omega
theorem rtSz_bd (x : Cfg) (n : Nat) : 0 ≤ rtSz x n ∧ rtSz x n ≤ 272 ∧ rtSz x n % 16 = 0 := by
 unfold rtSz
 cases x.ps[n]? with
 | none => simp
 | some P => have := cntT_le P.rs 16; dsimp only; omega
theorem rtAt_bd (x : Cfg) (b : Int) (n : Nat) : b ≤ rtAt x b n ∧ rtAt x b n ≤ b + 272 * n ∧ (b % 16 = 0 → rtAt x b n % 16 = 0) := by
 induction n with
 | zero => simp [rtAt]
 | succ n ih =>
  have := rtSz_bd x n
  show b ≤ rtAt x b n + rtSz x n ∧ rtAt x b n + rtSz x n ≤ _ ∧ (_ → (rtAt x b n + rtSz x n) % 16 = 0)
  refine ⟨by omega, by omega, fun h => ?_⟩
  have := ih.2.2 h
  omega
end Go.Proofs.YtlnmlbkeemahcaaGreat
