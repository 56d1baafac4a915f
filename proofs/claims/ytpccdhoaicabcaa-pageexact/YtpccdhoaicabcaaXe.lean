import Derived.Test.YtpccdhoaicabcaaXb
import Derived.Test.YtpccdhoaicabcaaXd
import Derived.Test.YtpccdhoaicabcaaSt
import Derived.Deep.CutBlock
import Derived.Deep.CutRange
import Derived.Deep.RegionHeld3
namespace Go.Proofs.Ytpccdhoaicabcaa
open Go.RowKit Go.Shelf
set_option linter.unusedVariables false
set_option linter.unusedSimpArgs false

theorem wp_quiet {P : Program} {c : Code} {K : Act → World → Prop} {Q : Exit → Act → World → Prop} {a : Act} {w : World} (h : Code.wp P c (Exit.then K (fun _ _ _ => False)) a w) : Code.wp P c (Exit.then K Q) a w :=
  Code.wp_mono (fun e a w h => by cases e <;> first | exact h | exact h.elim) h

/-- Where the leaves that were told stand. -/
structure Wnt (w W : World) (B : Nat) (t : TypeId) (v : Value) : Prop where
  b : Blk W B [v] t
  n : w.heap.size ≤ B
  k : Keeps (fun _ => False) w W

theorem wpListIn_append_run {F : Fence} {n : Nat} {P : Program} {w : World} {ops : Array Oper} {rest : List Oper} {o : Oper} {a : Act} {Q : Exit → Act → World → Prop} (hgd : o.guard = none) (s x : Operand) (t k : TypeId)
    (ho : o.op = .call { callee := .builtin .append, args := #[s, x], argTypes := #[t, k] }) (vs vx v' : Value) (w' : World) (hs : a.eval s = vs) (hx : a.eval x = vx)
    (hr : ∀ ty, (Builtin.append_ #[t, k] ty #[vs, vx]).run P w = .ok v' w') (h : wpListIn F n P ops Q rest (a.put o.dst v') w') : wpListIn F n P ops Q (o :: rest) a w := by
  refine wpListIn_plain hgd fun K hK => ?_
  unfold Oper.wpIn
  refine ⟨?_, ?_⟩
  · simp [Oper.about, ho, resolve, Target.leads, Sem.run_pure]
  · rw [Oper.semAt_plain F _ _ (by rw [ho]; intro c hc'; cases hc')]
    simp [execOp, ho, resolve, invoke, builtin, hs, hx, hr, Result.andThen]
    exact hK _ _ h

/-- A list of leaves under way, in the block B. -/
structure Lv1 (W0 : World) (B N : Nat) (S : Nat → Prop) (ls : List Lf) (W : World) : Prop where
  k : Keeps S W0 W
  a : ∃ av ac, Blk W B [.slice av ls.length ac] 105 ∧ W.ownsRow 0 51 3 (.slice av ls.length ac) ls.length (lvs ls) ∧ ∀ k, (Value.slice av ls.length ac).ownBlock = some k → N ≤ k

theorem Lv1.kept {W0 W W' : World} {B N : Nat} {S T : Nat → Prop} {ls : List Lf} (h : Lv1 W0 B N S ls W) (hK : Keeps T W W') (hS : ∀ k, k < W0.heap.size → T k → S k) (hB : ¬ T B) (hN : ∀ k, N ≤ k → ¬ T k) : Lv1 W0 B N S ls W' := by
  obtain ⟨av, ac, h1, h2, h3⟩ := h.a
  exact ⟨h.k.trans hK hS, av, ac, h1.kept hK hB, owns_kept h2 hK (fun k hk => hN k (h3 k hk)), h3⟩

/-- One leaf more. -/
theorem Lv1.more {W0 W : World} {B N : Nat} {S : Nat → Prop} {ls : List Lf} (h : Lv1 W0 B N S ls W) (hl : ls.length ≤ 4294967296) (x : Lf) (hSB : S B) (hBN : B < N) (hBW : N ≤ W.heap.size) (hW0 : W0.heap.size ≤ N) :
    ∃ (av : Option Addr) (ac : Nat) (av' : Option Addr) (ac' : Nat) (W2 : World), W.cell? ⟨B, 0, none⟩ = some (.slice av ls.length ac) ∧ (∀ ty, (Builtin.append_ #[105, 105] ty #[.slice av ls.length ac, .slice (some ⟨W.heap.size, 0, none⟩) 1 1]).run Try.prog (W.alloc (.cells #[.int .i64 x.page, .int .i64 x.frame, .int .i64 x.rights] 51)) = .ok (.slice av' (ls.length + 1) ac') W2) ∧
      W2.cell? ⟨B, 0, none⟩ = some (.slice av ls.length ac) ∧ W2.frozen? ⟨B, 0, none⟩ = false ∧ Lv1 W0 B N S (ls ++ [x]) (W2.setCell ⟨B, 0, none⟩ (.slice av' (ls.length + 1) ac')) ∧ (W2.setCell ⟨B, 0, none⟩ (.slice av' (ls.length + 1) ac')).cell? ⟨B, 0, none⟩ = some (.slice av' (ls.length + 1) ac') ∧
      Keeps (fun k => k = B ∨ N ≤ k) W (W2.setCell ⟨B, 0, none⟩ (.slice av' (ls.length + 1) ac')) ∧ (∀ k v, k ≠ B → k < N → W.cell? ⟨k, 0, none⟩ = some v → (W2.setCell ⟨B, 0, none⟩ (.slice av' (ls.length + 1) ac')).cell? ⟨k, 0, none⟩ = some v) := by
  obtain ⟨av, ac, h1, h2, h3⟩ := h.a
  obtain ⟨v', W2, hr, hown, hG⟩ := append_leaf x _ _ _ h2 hl
  have hf : ∃ av' ac', v' = .slice av' (ls.length + 1) ac' := by
    rcases hown.2 with ⟨rfl, h0⟩ | ⟨g, cap, cur, rfl, _⟩
    · simp at h0
    · exact ⟨_, _, rfl⟩
  obtain ⟨av', ac', rfl⟩ := hf
  have hK3 : Keeps (fun k => N ≤ k) W W2 := hG.keeps.mono fun k _ e => h3 k e.symm
  have hKs : Keeps (· = B) W2 (W2.setCell ⟨B, 0, none⟩ (.slice av' (ls.length + 1) ac')) := (Keeps.refl _ W2).setCell _ _ fun _ => rfl
  have hK4 : Keeps (fun k => k = B ∨ N ≤ k) W (W2.setCell ⟨B, 0, none⟩ (.slice av' (ls.length + 1) ac')) := (hK3.mono fun _ _ e => .inr e).trans hKs fun _ _ e => .inl e
  have hn : ∀ k, (Value.slice av' (ls.length + 1) ac').ownBlock = some k → N ≤ k := fun k hk => by
    rcases hG.fresh with e | ⟨q, e, hq⟩
    · exact h3 k (by rw [← e]; exact hk)
    · rw [e] at hk; cases hk; omega
  have hb2 := h1.kept hK3 (by omega)
  refine ⟨av, ac, av', ac', W2, h1.cell rfl, hr, hb2.cell rfl, hb2.frozen 0, ⟨h.k.trans hK4 fun k hk e => ?_, av', ac', ?_, ?_, ?_⟩, (hb2.setCell 0 _).cell rfl, hK4, fun k v hkB hkN hc => ?_⟩
  · rcases e with rfl | e
    · exact hSB
    · omega
  · rw [List.length_append]; exact hb2.setCell 0 _
  · rw [List.length_append, lvs_append]
    refine owns_kept ?_ hKs (fun k hk e => by have := hn k (by simpa using hk); omega)
    simpa [lvs] using hown
  · intro k hk
    exact hn k (by simpa using hk)
  · exact cellK hc hK4 (by omega)

theorem results_cell_val {P : Program} {fn : Func} {p : Tmp} {ty : TypeId} (h : fn.results = #[.cell p ty]) (tmps : Array Value) (w : World) (g : Nat) (v : Value)
    (hp : tmps.getD p undef = .pointer (some ⟨g, 0, none⟩)) (hl : (loadVar ty ⟨g, 0, none⟩).run P w = .ok v w) : (results fn tmps).run P w = .ok v w := by
  have hp' : tmps[p]?.getD undef = .pointer (some ⟨g, 0, none⟩) := by simpa using hp
  simp [results, h, hp', asAddr, hl]
theorem objK {S : Nat → Prop} {w w' : World} {k : Nat} {o : Obj} (h : w.heap[k]? = some o) (hK : Keeps S w w') (hn : ¬ S k) : w'.heap[k]? = some o := (hK.block k (Array.getElem?_eq_some_iff.1 h).1 hn).trans h
theorem owns_segL {w : World} {a : Option Addr} {n c : Nat} {ls : List Lf} (h : w.ownsRow 0 51 3 (.slice a n c) n (lvs ls)) (hn : n = ls.length) : SegL w a ls := by
  have hcl := fun g hg => h.cells (g := g) hg
  rcases h.2 with ⟨h0, h1⟩ | ⟨g, cap, cur, h0, _⟩
  · exact .inl (List.eq_nil_of_length_eq_zero (hn ▸ h1))
  · cases h0
    refine .inr ⟨g, rfl, fun j l hj => ?_⟩
    obtain ⟨v0, v1, v2⟩ := lvs_get ls j l hj
    have k0 := hcl g rfl _ _ v0
    have k1 := hcl g rfl _ _ v1
    have k2 := hcl g rfl _ _ v2
    rw [addr_add] at k0 k1 k2
    rw [Nat.zero_add] at k0 k1 k2
    exact ⟨k0, k1, k2⟩
/-- What is counted within: three times at most. -/
def c3v (m d : Nat) : Value := .int .i64 ((min 3 m * d : Nat) : Int)
theorem lvL_add (n : Nat) (xs : List UInt32) (root : Int) (s d : Nat) : ∃ r, lvL n xs root (s + d) = lvL n xs root s ++ r := by
  induction d with
  | zero => exact ⟨[], by simp⟩
  | succ d ih =>
    obtain ⟨r, hr⟩ := ih
    by_cases h : walkE n xs root ((s + d : Nat) : Int) = 0
    · exact ⟨r ++ [walkL n xs root ((s + d : Nat) : Int)], by rw [← Nat.add_assoc, lvL_yes h, hr, List.append_assoc]⟩
    · exact ⟨r, by rw [← Nat.add_assoc, lvL_no h, hr]⟩
theorem lvL_take {n : Nat} {xs : List UInt32} {root : Int} {s m : Nat} (h : s ≤ m) : (lvL n xs root m).take (lvL n xs root s).length = lvL n xs root s := by
  obtain ⟨r, hr⟩ := lvL_add n xs root s (m - s)
  rw [show s + (m - s) = m by omega] at hr
  rw [hr]; simp
theorem lvL_le {n : Nat} {xs : List UInt32} {root : Int} {s m : Nat} (h : s ≤ m) : (lvL n xs root s).length ≤ (lvL n xs root m).length := by
  obtain ⟨r, hr⟩ := lvL_add n xs root s (m - s)
  rw [show s + (m - s) = m by omega] at hr
  rw [hr]; simp

/-- Where everything stands ahead of the ranges. -/
structure Bas (w W0 : World) (O WB SB B1 B2 Z most : Nat) (wa : Option Addr) (nD wk : Nat) (D : List Lf) (b : Nat) (A : Int) : Prop where
  k : Keeps (fun _ => False) w W0
  rb : Blk W0 (O + 1) [.bool false] 4
  wb : Blk W0 WB [.slice wa nD wk] 105
  wbz : WB < Z
  wo : W0.ownsRow 0 51 3 (.slice wa nD wk) nD (lvs D)
  woz : ∀ k, (Value.slice wa nD wk).ownBlock = some k → k < Z
  sb : Blk W0 SB [.func (.func 38) #[] #[.pointer (some ⟨B1, 0, none⟩), .pointer (some ⟨B2, 0, none⟩)]] 48
  sbz : SB < Z
  q1 : Blk W0 B1 [.pointer (some ⟨b, 0, none⟩)] 34
  q2 : Blk W0 B2 [.int .i64 A] 3
  q1z : B1 < Z
  q2z : B2 < Z
  mb : Blk W0 Z [.int .i64 (most : Int)] 3
  ab : Blk W0 (Z + 1) [.slice none 0 0] 105
  bb : Blk W0 (Z + 1 + 1) [.slice none 0 0] 105
  zz : W0.heap.size = Z + 3
  oz : O + 1 < Z
  pz : w.heap.size ≤ Z
  nd : nD = D.length

theorem func_nilL (w : World) (x y : Value) : (binOp .eql 48 (.func (.func 38) #[] #[x, y]) .nilFunc).run Try.prog w = .ok (.bool false) w := by kernel_rfl
attribute [local go_sem] Oper.semAt_some func_nilL

set_option maxRecDepth 100000 in
set_option maxHeartbeats 8000000 in
theorem leaves_any28 (A B C : Int) (W : Nat) (v5 v6 : Value) (w : World) (P b g rb rg n : Nat) (xs : List UInt32) (h : Pr w P b g rb rg n xs) (hA : I64 A) (hC : I64 C) :
    Calls Try.prog 28 #[.pointer (some ⟨P, 0, none⟩), .agg #[.int .i64 7, .int .i64 A, .int .i64 B, .int .i64 C, .int .u32 W, v5, v6]] w fun e w' => e = .returned (.bool true) ∧ Keeps (fun _ => False) w w' := by
  have HM : Hid (∀ w', Keeps (fun _ => False) w w' → Pr w' P b g rb rg n xs) := fun w' hK => h.grown hK
  obtain ⟨O, hO⟩ : ∃ O, O = w.heap.size := ⟨_, rfl⟩
  obtain ⟨w1, hw1⟩ : ∃ w1, w1 = (w.alloc (.cells #[.int .i64 7, .int .i64 A, .int .i64 B, .int .i64 C, .int .u32 W, v5, v6] 31)).alloc (.cells #[.bool false] 4) := ⟨_, rfl⟩
  have k1 : Keeps (fun _ => False) w w1 := by rw [hw1]; exact ((Keeps.refl _ w).alloc _).alloc _
  have o1 : Blk w1 O [.int .i64 7, .int .i64 A, .int .i64 B, .int .i64 C, .int .u32 W, v5, v6] 31 := by rw [hw1, hO]; exact (Blk.new w _ 31).alloc _
  have r1 : Blk w1 (O + 1) [.bool false] 4 := by
    have e := Blk.new (w.alloc (.cells #[.int .i64 7, .int .i64 A, .int .i64 B, .int .i64 C, .int .u32 W, v5, v6] 31)) #[.bool false] 4
    rw [World.size_alloc] at e
    rw [hw1, hO]; exact e
  have z1 : w1.heap.size = O + 2 := by rw [hw1, World.size_alloc, World.size_alloc, hO]
  obtain ⟨D, hD⟩ : ∃ D, D = lvL n xs A 256 := ⟨_, rfl⟩
  have hD256 : D.length ≤ 256 := by rw [hD]; exact lvL_len n xs A 256
  have HC1 : Hid (∀ w', Keeps (fun _ => False) w w' → Calls Try.prog 52 #[.pointer (some ⟨rb, 0, none⟩), .int .i64 A] w' fun e w2 => ∃ a c, e = .returned (.slice a D.length c) ∧ OwnL w' w2 (.slice a D.length c) D) := fun w' hK => by
    rw [hD]; exact rleaves_any rb rg n xs A w' (h.grown hK).r hA.1 hA.2
  have HC2 : Hid (∀ w', Calls Try.prog 14 #[.pointer (some ⟨b, 0, none⟩), .int .i64 A] w' fun e w2 => e = .returned (.func (.func 38) #[] #[.pointer (some ⟨w'.heap.size, 0, none⟩), .pointer (some ⟨w'.heap.size + 1, 0, none⟩)]) ∧
      Blk w2 w'.heap.size [.pointer (some ⟨b, 0, none⟩)] 34 ∧ Blk w2 (w'.heap.size + 1) [.int .i64 A] 3 ∧ Keeps (fun _ => False) w' w2) := fun w' => leaves_any (some ⟨b, 0, none⟩) A w'
  have HC3 : Hid (∀ w', Calls Try.prog 8 #[.int .i64 C, .int .i64 20] w' fun e w2 => e = .returned (.int .i64 (pk C 20 : Nat)) ∧ w2 = w') := fun w' => pick_any C 20 w' (by omega) (by omega) hC.1 hC.2
  have hpl := h.p.lt
  have HS : Hid (∀ w', Keeps (fun _ => False) w1 w' → w'.cell? ⟨P, 0, none⟩ = some (.pointer (some ⟨b, 0, none⟩)) ∧ w'.cell? ⟨P, 1, none⟩ = some (.pointer (some ⟨rb, 0, none⟩)) ∧ w'.cell? ⟨O, 1, none⟩ = some (.int .i64 A)) := fun w' hK => by
    have p1 := (h.grown (k1.trans hK fun _ _ e => e)).p
    exact ⟨p1.cell rfl, p1.cell rfl, (o1.kept hK (fun e => e)).cell rfl⟩
  have H1 : Hid (Keeps (fun _ => False) w w1 ∧ Blk w1 O [.int .i64 7, .int .i64 A, .int .i64 B, .int .i64 C, .int .u32 W, v5, v6] 31 ∧ Blk w1 (O + 1) [.bool false] 4 ∧ w1.heap.size = O + 2 ∧ O = w.heap.size ∧ P < w.heap.size ∧ D = lvL n xs A 256 ∧ D.length ≤ 256) := ⟨k1, o1, r1, z1, hO, hpl, hD, hD256⟩
  have HW1 : Hid (_ = _) := hw1
  have HO : Hid (O = w.heap.size) := hO
  clear h hw1 k1 o1 r1 z1 hpl hD hD256 hO hC hA
  refine (callsIn_wide (n := 8)).1 ?_
  refine callsIn_of_wp_marks Try.func28 rfl trivial ?_ rfl
  refine wpIn_wide.2 ?_
  simp only [Try.ntmps28, List.size_toArray, List.length_cons, List.length_nil, Nat.reduceAdd, Nat.reduceSub, Array.replicate_succ, Array.replicate_zero, List.push_toArray, List.append_toArray, List.nil_append, List.cons_append]
  go_wp2_with fail
  rw [← HW1.out, ← HO.out]
  go_cut [5] from 14 to 20 (fun t wx => ∃ WB wa wc, t = .pointer (some ⟨WB, 0, none⟩) ∧ Wnt w1 wx WB 105 (.slice wa D.length wc) ∧ OwnL w1 wx (.slice wa D.length wc) D ∧ WB < wx.heap.size)
  case first =>
    refine wp_quiet ?_
    refine wp_region_held_drew (S := fun w' => w'.cell? ⟨P, 0, none⟩ = some (.pointer (some ⟨b, 0, none⟩)) ∧ w'.cell? ⟨P, 1, none⟩ = some (.pointer (some ⟨rb, 0, none⟩)) ∧ w'.cell? ⟨O, 1, none⟩ = some (.int .i64 A)) Try.mixed (HS.out _ (Keeps.refl _ w1).drew) (fun hHeld => ?_)
    simp only [List.size_toArray, List.length_cons, List.length_nil, Nat.reduceAdd, Array.replicate_succ, Array.replicate_zero, List.push_toArray, List.append_toArray, List.nil_append, List.cons_append]
    refine wpAnyH_take (i := 0) (v := .pointer (some ⟨P, 0, none⟩)) rfl (by kernel_rfl) (by kernel_rfl) (by kernel_rfl) (fun _ _ _ h => h) (Or.inl ⟨by kernel_rfl, by (intro w hSw; (try dsimp only at hSw); go_simp)⟩) hHeld ?_
    simp only [Act.put, List.setIfInBounds_toArray, List.set_cons_zero, List.set_cons_succ]
    refine wpAnyH_take (i := 1) (v := .pointer (some ⟨P, 0, none⟩)) rfl (by kernel_rfl) (by kernel_rfl) (by kernel_rfl) (fun _ _ _ h => h) (Or.inl ⟨by kernel_rfl, by (intro w hSw; (try dsimp only at hSw); go_simp)⟩) hHeld ?_
    simp only [Act.put, List.setIfInBounds_toArray, List.set_cons_zero, List.set_cons_succ]
    refine wpAnyH_take (i := 2) (v := .pointer (some ⟨P, 1, none⟩)) rfl (by kernel_rfl) (by kernel_rfl) (by kernel_rfl) (fun _ _ _ h => h) (Or.inl ⟨by kernel_rfl, by (intro w hSw; (try dsimp only at hSw); go_simp)⟩) hHeld ?_
    simp only [Act.put, List.setIfInBounds_toArray, List.set_cons_zero, List.set_cons_succ]
    refine wpAnyH_take (i := 3) (v := .pointer (some ⟨rb, 0, none⟩)) rfl (by kernel_rfl) (by kernel_rfl) (by kernel_rfl) (fun _ _ _ h => h) (Or.inl ⟨by kernel_rfl, by (intro w hSw; (try dsimp only at hSw); go_simp)⟩) hHeld ?_
    simp only [Act.put, List.setIfInBounds_toArray, List.set_cons_zero, List.set_cons_succ]
    refine wpAnyH_take (i := 4) (v := .pointer (some ⟨O, 1, none⟩)) rfl (by kernel_rfl) (by kernel_rfl) (by kernel_rfl) (fun _ _ _ h => h) (Or.inl ⟨by kernel_rfl, by (intro w hSw; (try dsimp only at hSw); go_simp)⟩) hHeld ?_
    simp only [Act.put, List.setIfInBounds_toArray, List.set_cons_zero, List.set_cons_succ]
    refine wpAnyH_take (i := 5) (v := .int .i64 A) rfl (by kernel_rfl) (by kernel_rfl) (by kernel_rfl) (fun _ _ _ h => h) (Or.inl ⟨by kernel_rfl, by (intro w hSw; (try dsimp only at hSw); go_simp)⟩) hHeld ?_
    simp only [Act.put, List.setIfInBounds_toArray, List.set_cons_zero, List.set_cons_succ]
    refine wpAnyH_ready (rs := [6, 7]) (by kernel_rfl) (by simp) ?_
    refine AllReadyH.cons rfl (fun Kq hK => ?_) (AllReadyH.cons rfl (fun Kq hK => ?_) AllReadyH.nil)
    · go_simp
      refine (HC1.out _ (H1.out.1.trans ((Keeps.refl _ w1).drew) fun _ _ e => e)).mono ?_
      rintro e w2 ⟨wa, wc, rfl, hO2⟩
      have kA : Keeps (fun _ => False) w1 w2 := ((Keeps.refl _ w1).drew).trans hO2.k fun _ _ e => e
      refine hK.out _ _ (HS.out _ kA) (fun hHeld => ?_)
      simp only [Act.put, List.setIfInBounds_toArray, List.set_cons_zero, List.set_cons_succ]
      refine wpAnyH_ready (rs := [7]) (by kernel_rfl) (by simp) ?_
      refine AllReadyH.cons rfl (fun Kq hK => ?_) AllReadyH.nil
      go_simp
      refine hK.out _ _ (HS.out _ (kA.alloc _)) (fun hHeld => ?_)
      simp only [Act.put, List.setIfInBounds_toArray, List.set_cons_zero, List.set_cons_succ]
      refine wpAnyH_ready (rs := [8]) (by kernel_rfl) (by simp) ?_
      refine AllReadyH.cons rfl (fun Kq hK => ?_) AllReadyH.nil
      go_simp
      refine hK.out _ _ (HS.out _ (kA.alloc _)) (fun hHeld => ?_)
      simp only [Act.put, List.setIfInBounds_toArray, List.set_cons_zero, List.set_cons_succ]
      refine wpAnyH_done (by kernel_rfl) ?_ _
      clear hHeld hK
      have kB : Keeps (fun _ => False) w1 (w2.alloc (.cells #[.slice wa D.length wc] 105)) := kA.alloc _
      have f1 : Wnt w1 (w2.alloc (.cells #[.slice wa D.length wc] 105)) w2.heap.size 105 (.slice wa D.length wc) := ⟨Blk.new w2 _ 105, kA.size, kB⟩
      have f2 : OwnL w1 (w2.alloc (.cells #[.slice wa D.length wc] 105)) (.slice wa D.length wc) D := ⟨owns_kept hO2.own ((Keeps.refl _ w2).alloc _) (fun _ _ e => e), hO2.new, kB⟩
      have HF : Hid (∃ WB wa' wc', Value.pointer (some ⟨w2.heap.size, 0, none⟩) = .pointer (some ⟨WB, 0, none⟩) ∧ Wnt w1 (w2.alloc (.cells #[.slice wa D.length wc] 105)) WB 105 (.slice wa' D.length wc') ∧ OwnL w1 (w2.alloc (.cells #[.slice wa D.length wc] 105)) (.slice wa' D.length wc') D ∧ WB < (w2.alloc (.cells #[.slice wa D.length wc] 105)).heap.size) :=
        ⟨w2.heap.size, wa, wc, rfl, f1, f2, by rw [World.size_alloc]; omega⟩
      clear f1 f2 kA kB hO2
      go_wp2_with fail
      go_meet
      exact HF.out
    · go_simp
      have kA : Keeps (fun _ => False) w1 (w1.alloc (.cells #[.slice none 0 0] 105)).drew := ((Keeps.refl _ w1).alloc _).drew
      refine hK.out _ _ (HS.out _ kA) (fun hHeld => ?_)
      simp only [Act.put, List.setIfInBounds_toArray, List.set_cons_zero, List.set_cons_succ]
      refine wpAnyH_ready (rs := [6]) (by kernel_rfl) (by simp) ?_
      refine AllReadyH.cons rfl (fun Kq hK => ?_) AllReadyH.nil
      go_simp
      refine (HC1.out _ (H1.out.1.trans kA fun _ _ e => e)).mono ?_
      rintro e w3 ⟨wa, wc, rfl, hO3⟩
      have kC : Keeps (fun _ => False) w1 w3 := kA.trans hO3.k fun _ _ e => e
      have bC : Blk w3 w1.heap.size [.slice none 0 0] 105 := ((Blk.new w1 _ 105).drew).kept hO3.k fun e => e
      have kD : Keeps (fun _ => False) w1 (w3.setCell ⟨w1.heap.size, 0, none⟩ (.slice wa D.length wc)) := kC.setCell _ _ fun h => by simp at h
      refine hK.out _ _ (HS.out _ kC) (fun hHeld => ?_)
      simp only [Act.put, List.setIfInBounds_toArray, List.set_cons_zero, List.set_cons_succ]
      have m0 := bC.cell (i := 0) rfl
      have f0 := bC.frozen 0
      refine wpAnyH_ready (rs := [8]) (by kernel_rfl) (by simp) ?_
      refine AllReadyH.cons rfl (fun Kq hK => ?_) AllReadyH.nil
      go_simp
      refine hK.out _ _ (HS.out _ kD) (fun hHeld => ?_)
      simp only [Act.put, List.setIfInBounds_toArray, List.set_cons_zero, List.set_cons_succ]
      refine wpAnyH_done (by kernel_rfl) ?_ _
      clear hHeld hK m0 f0
      have bD := bC.setCell 0 (.slice wa D.length wc)
      have f2 : OwnL w1 (w3.setCell ⟨w1.heap.size, 0, none⟩ (.slice wa D.length wc)) (.slice wa D.length wc) D := by
        have hn : ∀ k, (Value.slice wa D.length wc).ownBlock = some k → w1.heap.size + 1 ≤ k := fun k hk => by have := hO3.new k hk; rw [show (w1.alloc (.cells #[.slice none 0 0] 105)).drew.heap.size = w1.heap.size + 1 from World.size_alloc _ _] at this; exact this
        exact ⟨owns_kept hO3.own ((Keeps.refl (· = w1.heap.size) w3).setCell _ _ fun _ => rfl) (fun k hk e => by have := hn k hk; omega), fun k hk => by have := hn k hk; omega, kD⟩
      have HF : Hid (∃ WB wa' wc', Value.pointer (some ⟨w1.heap.size, 0, none⟩) = .pointer (some ⟨WB, 0, none⟩) ∧ Wnt w1 (w3.setCell ⟨w1.heap.size, 0, none⟩ (.slice wa D.length wc)) WB 105 (.slice wa' D.length wc') ∧ OwnL w1 (w3.setCell ⟨w1.heap.size, 0, none⟩ (.slice wa D.length wc)) (.slice wa' D.length wc') D ∧ WB < (w3.setCell ⟨w1.heap.size, 0, none⟩ (.slice wa D.length wc)).heap.size) :=
        ⟨w1.heap.size, wa, wc, rfl, ⟨bD, Nat.le_refl _, kD⟩, f2, bD.lt⟩
      clear f2 kA kC kD bC bD hO3
      go_wp2_with fail
      go_meet
      exact HF.out
  obtain ⟨WB, wa, wk, rfl, f1, f2, f3⟩ := hcut
  obtain ⟨wd, hwd⟩ : ∃ wd, wd = wc := ⟨_, rfl⟩
  subst hwd
  have HD1 : Hid (Wnt w1 wd WB 105 (.slice wa D.length wk) ∧ OwnL w1 wd (.slice wa D.length wk) D ∧ WB < wd.heap.size) := ⟨f1, f2, f3⟩
  clear f1 f2 f3
  go_wp2_with fail
  go_cut [6] from 21 to 27 (fun t wx => ∃ SB B1 B2, t = .pointer (some ⟨SB, 0, none⟩) ∧ Wnt wd wx SB 48 (.func (.func 38) #[] #[.pointer (some ⟨B1, 0, none⟩), .pointer (some ⟨B2, 0, none⟩)]) ∧ (Blk wx B1 [.pointer (some ⟨b, 0, none⟩)] 34 ∧ Blk wx B2 [.int .i64 A] 3 ∧ wd.heap.size ≤ B1 ∧ wd.heap.size ≤ B2) ∧ SB < wx.heap.size)
  case first =>
    refine wp_quiet ?_
    have kD1 : Keeps (fun _ => False) w1 wd := HD1.out.1.k
    refine wp_region_held_drew (S := fun w' => w'.cell? ⟨P, 0, none⟩ = some (.pointer (some ⟨b, 0, none⟩)) ∧ w'.cell? ⟨P, 1, none⟩ = some (.pointer (some ⟨rb, 0, none⟩)) ∧ w'.cell? ⟨O, 1, none⟩ = some (.int .i64 A)) Try.mixed (HS.out _ kD1.drew) (fun hHeld => ?_)
    simp only [List.size_toArray, List.length_cons, List.length_nil, Nat.reduceAdd, Array.replicate_succ, Array.replicate_zero, List.push_toArray, List.append_toArray, List.nil_append, List.cons_append]
    refine wpAnyH_take (i := 0) (v := .pointer (some ⟨P, 0, none⟩)) rfl (by kernel_rfl) (by kernel_rfl) (by kernel_rfl) (fun _ _ _ h => h) (Or.inl ⟨by kernel_rfl, by (intro w hSw; (try dsimp only at hSw); go_simp)⟩) hHeld ?_
    simp only [Act.put, List.setIfInBounds_toArray, List.set_cons_zero, List.set_cons_succ]
    refine wpAnyH_take (i := 1) (v := .pointer (some ⟨P, 0, none⟩)) rfl (by kernel_rfl) (by kernel_rfl) (by kernel_rfl) (fun _ _ _ h => h) (Or.inl ⟨by kernel_rfl, by (intro w hSw; (try dsimp only at hSw); go_simp)⟩) hHeld ?_
    simp only [Act.put, List.setIfInBounds_toArray, List.set_cons_zero, List.set_cons_succ]
    refine wpAnyH_take (i := 2) (v := .pointer (some ⟨P, 0, none⟩)) rfl (by kernel_rfl) (by kernel_rfl) (by kernel_rfl) (fun _ _ _ h => h) (Or.inl ⟨by kernel_rfl, by (intro w hSw; (try dsimp only at hSw); go_simp)⟩) hHeld ?_
    simp only [Act.put, List.setIfInBounds_toArray, List.set_cons_zero, List.set_cons_succ]
    refine wpAnyH_take (i := 3) (v := .pointer (some ⟨b, 0, none⟩)) rfl (by kernel_rfl) (by kernel_rfl) (by kernel_rfl) (fun _ _ _ h => h) (Or.inl ⟨by kernel_rfl, by (intro w hSw; (try dsimp only at hSw); go_simp)⟩) hHeld ?_
    simp only [Act.put, List.setIfInBounds_toArray, List.set_cons_zero, List.set_cons_succ]
    refine wpAnyH_take (i := 4) (v := .pointer (some ⟨O, 1, none⟩)) rfl (by kernel_rfl) (by kernel_rfl) (by kernel_rfl) (fun _ _ _ h => h) (Or.inl ⟨by kernel_rfl, by (intro w hSw; (try dsimp only at hSw); go_simp)⟩) hHeld ?_
    simp only [Act.put, List.setIfInBounds_toArray, List.set_cons_zero, List.set_cons_succ]
    refine wpAnyH_take (i := 5) (v := .int .i64 A) rfl (by kernel_rfl) (by kernel_rfl) (by kernel_rfl) (fun _ _ _ h => h) (Or.inl ⟨by kernel_rfl, by (intro w hSw; (try dsimp only at hSw); go_simp)⟩) hHeld ?_
    simp only [Act.put, List.setIfInBounds_toArray, List.set_cons_zero, List.set_cons_succ]
    refine wpAnyH_ready (rs := [6, 7]) (by kernel_rfl) (by simp) ?_
    refine AllReadyH.cons rfl (fun Kq hK => ?_) (AllReadyH.cons rfl (fun Kq hK => ?_) AllReadyH.nil)
    · go_simp
      refine (HC2.out _).mono ?_
      rintro e w2 ⟨rfl, b1, b2, hk2⟩
      have zz : wd.drew.heap.size = wd.heap.size := rfl
      rw [zz] at b1 b2
      obtain ⟨B1, hB1⟩ : ∃ B1, B1 = wd.heap.size := ⟨_, rfl⟩
      have kA : Keeps (fun _ => False) wd w2 := ((Keeps.refl _ wd).drew).trans hk2 fun _ _ e => e
      refine hK.out _ _ (HS.out _ (kD1.trans kA fun _ _ e => e)) (fun hHeld => ?_)
      simp only [Act.put, List.setIfInBounds_toArray, List.set_cons_zero, List.set_cons_succ]
      refine wpAnyH_ready (rs := [7]) (by kernel_rfl) (by simp) ?_
      refine AllReadyH.cons rfl (fun Kq hK => ?_) AllReadyH.nil
      go_simp
      refine hK.out _ _ (HS.out _ ((kD1.trans kA fun _ _ e => e).alloc _)) (fun hHeld => ?_)
      simp only [Act.put, List.setIfInBounds_toArray, List.set_cons_zero, List.set_cons_succ]
      rw [← hB1] at b1 b2
      have HX : Hid (Blk w2 B1 [.pointer (some ⟨b, 0, none⟩)] 34 ∧ Blk w2 (B1 + 1) [.int .i64 A] 3 ∧ Keeps (fun _ => False) wd w2 ∧ B1 = wd.heap.size) := ⟨b1, b2, kA, hB1⟩
      clear b1 b2 hk2 kA zz
      refine wpAnyH_ready (rs := [8]) (by kernel_rfl) (by simp) ?_
      refine AllReadyH.cons rfl (fun Kq hK => ?_) AllReadyH.nil
      rw [if_pos (by rfl)]
      simp only [List.getElem_toArray, List.getElem_cons_succ, List.getElem_cons_zero]
      have hz2 := HX.out.2.1.lt
      have bS : Blk (w2.alloc (.cells #[.nilFunc] 48)) w2.heap.size [.nilFunc] 48 := Blk.new w2 _ 48
      have kF : Keeps (fun _ => False) wd (w2.alloc (.cells #[.func (.func 38) #[] #[.pointer (some ⟨wd.heap.size, 0, none⟩), .pointer (some ⟨wd.heap.size + 1, 0, none⟩)]] 48)) := HX.out.2.2.1.alloc _
      have HF : Hid (∃ SB B1 B2, Value.pointer (some ⟨w2.heap.size, 0, none⟩) = .pointer (some ⟨SB, 0, none⟩) ∧ Wnt wd (w2.alloc (.cells #[.func (.func 38) #[] #[.pointer (some ⟨wd.heap.size, 0, none⟩), .pointer (some ⟨wd.heap.size + 1, 0, none⟩)]] 48)) SB 48 (.func (.func 38) #[] #[.pointer (some ⟨B1, 0, none⟩), .pointer (some ⟨B2, 0, none⟩)]) ∧ (Blk (w2.alloc (.cells #[.func (.func 38) #[] #[.pointer (some ⟨wd.heap.size, 0, none⟩), .pointer (some ⟨wd.heap.size + 1, 0, none⟩)]] 48)) B1 [.pointer (some ⟨b, 0, none⟩)] 34 ∧ Blk (w2.alloc (.cells #[.func (.func 38) #[] #[.pointer (some ⟨wd.heap.size, 0, none⟩), .pointer (some ⟨wd.heap.size + 1, 0, none⟩)]] 48)) B2 [.int .i64 A] 3 ∧ wd.heap.size ≤ B1 ∧ wd.heap.size ≤ B2) ∧ SB < (w2.alloc (.cells #[.func (.func 38) #[] #[.pointer (some ⟨wd.heap.size, 0, none⟩), .pointer (some ⟨wd.heap.size + 1, 0, none⟩)]] 48)).heap.size) := by
        have h4 := HX.out.2.2.2
        rw [← h4] at kF ⊢
        exact ⟨_, B1, B1 + 1, rfl, ⟨Blk.new w2 _ 48, HX.out.2.2.1.size, kF⟩, ⟨HX.out.1.alloc _, HX.out.2.1.alloc _, by omega, by omega⟩, by simp⟩
      have kS3 : Keeps (fun _ => False) wd (w2.alloc (.cells #[.nilFunc] 48)) := HX.out.2.2.1.alloc _
      have bS' : Blk (w2.alloc (.cells #[.nilFunc] 48)) (w2.heap.size) [.nilFunc] 48 := bS
      have m0 := bS.cell (i := 0) rfl
      have f0 := bS.frozen 0
      go_simp
      rw [run_store Try.prog _ _ _ _ rfl]
      simp only [m0, f0]
      go_simp
      refine hK.out _ _ (HS.out _ (kD1.trans (kF) fun _ _ e => e)) (fun hHeld => ?_)
      simp only [Act.put, List.setIfInBounds_toArray, List.set_cons_zero, List.set_cons_succ]
      refine wpAnyH_done (by kernel_rfl) ?_ _
      clear hHeld hK m0 f0 bS bS'
      go_wp2_with fail
      go_meet
      exact HF.out
    · go_simp
      have kA : Keeps (fun _ => False) wd (wd.alloc (.cells #[.nilFunc] 48)).drew := ((Keeps.refl _ wd).alloc _).drew
      have bN : Blk (wd.alloc (.cells #[.nilFunc] 48)).drew wd.heap.size [.nilFunc] 48 := (Blk.new wd _ 48).drew
      refine hK.out _ _ (HS.out _ (kD1.trans kA fun _ _ e => e)) (fun hHeld => ?_)
      simp only [Act.put, List.setIfInBounds_toArray, List.set_cons_zero, List.set_cons_succ]
      have zwe : (wd.alloc (.cells #[.nilFunc] 48)).drew.heap.size = wd.heap.size + 1 := World.size_alloc _ _
      refine wpAnyH_ready (rs := [6]) (by kernel_rfl) (by simp) ?_
      refine AllReadyH.cons rfl (fun Kq hK => ?_) AllReadyH.nil
      go_simp
      refine (HC2.out _).mono ?_
      rintro e w3 ⟨rfl, b1, b2, hk3⟩
      rw [zwe] at b1 b2
      simp only [zwe]
      have kC : Keeps (fun _ => False) wd w3 := kA.trans hk3 fun _ _ e => e
      have bS : Blk w3 wd.heap.size [.nilFunc] 48 := bN.kept hk3 fun e => e
      refine hK.out _ _ (HS.out _ (kD1.trans kC fun _ _ e => e)) (fun hHeld => ?_)
      simp only [Act.put, List.setIfInBounds_toArray, List.set_cons_zero, List.set_cons_succ]
      have kF : Keeps (fun _ => False) wd (w3.setCell ⟨wd.heap.size, 0, none⟩ (.func (.func 38) #[] #[.pointer (some ⟨wd.heap.size + 1, 0, none⟩), .pointer (some ⟨wd.heap.size + 1 + 1, 0, none⟩)])) := kC.setCell _ _ fun h => by simp at h
      have HF : Hid (∃ SB B1 B2, Value.pointer (some ⟨wd.heap.size, 0, none⟩) = .pointer (some ⟨SB, 0, none⟩) ∧ Wnt wd (w3.setCell ⟨wd.heap.size, 0, none⟩ (.func (.func 38) #[] #[.pointer (some ⟨wd.heap.size + 1, 0, none⟩), .pointer (some ⟨wd.heap.size + 1 + 1, 0, none⟩)])) SB 48 (.func (.func 38) #[] #[.pointer (some ⟨B1, 0, none⟩), .pointer (some ⟨B2, 0, none⟩)]) ∧ (Blk (w3.setCell ⟨wd.heap.size, 0, none⟩ (.func (.func 38) #[] #[.pointer (some ⟨wd.heap.size + 1, 0, none⟩), .pointer (some ⟨wd.heap.size + 1 + 1, 0, none⟩)])) B1 [.pointer (some ⟨b, 0, none⟩)] 34 ∧ Blk (w3.setCell ⟨wd.heap.size, 0, none⟩ (.func (.func 38) #[] #[.pointer (some ⟨wd.heap.size + 1, 0, none⟩), .pointer (some ⟨wd.heap.size + 1 + 1, 0, none⟩)])) B2 [.int .i64 A] 3 ∧ wd.heap.size ≤ B1 ∧ wd.heap.size ≤ B2) ∧ SB < (w3.setCell ⟨wd.heap.size, 0, none⟩ (.func (.func 38) #[] #[.pointer (some ⟨wd.heap.size + 1, 0, none⟩), .pointer (some ⟨wd.heap.size + 1 + 1, 0, none⟩)])).heap.size) := by
        have kS : Keeps (· = wd.heap.size) w3 (w3.setCell ⟨wd.heap.size, 0, none⟩ (.func (.func 38) #[] #[.pointer (some ⟨wd.heap.size + 1, 0, none⟩), .pointer (some ⟨wd.heap.size + 1 + 1, 0, none⟩)])) := (Keeps.refl _ w3).setCell _ _ fun _ => rfl
        exact ⟨_, wd.heap.size + 1, wd.heap.size + 1 + 1, rfl, ⟨bS.setCell 0 _, Nat.le_refl _, kF⟩, ⟨b1.kept kS (by omega), b2.kept kS (by omega), by omega, by omega⟩, by have := bS.lt; simp; omega⟩
      clear b1 b2 hk3 bN kA zwe
      refine wpAnyH_ready (rs := [8]) (by kernel_rfl) (by simp) ?_
      refine AllReadyH.cons rfl (fun Kq hK => ?_) AllReadyH.nil
      rw [if_pos (by rfl)]
      simp only [List.getElem_toArray, List.getElem_cons_succ, List.getElem_cons_zero]
      have bS' : Blk (w3) (wd.heap.size) [.nilFunc] 48 := bS
      have m0 := bS.cell (i := 0) rfl
      have f0 := bS.frozen 0
      go_simp
      rw [run_store Try.prog _ _ _ _ rfl]
      simp only [m0, f0]
      go_simp
      refine hK.out _ _ (HS.out _ (kD1.trans (kF) fun _ _ e => e)) (fun hHeld => ?_)
      simp only [Act.put, List.setIfInBounds_toArray, List.set_cons_zero, List.set_cons_succ]
      refine wpAnyH_done (by kernel_rfl) ?_ _
      clear hHeld hK m0 f0 bS bS'
      go_wp2_with fail
      go_meet
      exact HF.out
  obtain ⟨SB, B1, B2, rfl, g1, g2, g3⟩ := hcut
  obtain ⟨we, hwe⟩ : ∃ we, we = wc := ⟨_, rfl⟩
  subst hwe
  obtain ⟨most, hmost⟩ : ∃ m, m = pk C 20 := ⟨_, rfl⟩
  have hm20 : most < 20 := by rw [hmost]; exact pk_lt C 20 (by omega)
  rw [← hmost] at HC3
  obtain ⟨Z, hZ⟩ : ∃ Z, Z = we.heap.size := ⟨_, rfl⟩
  obtain ⟨W0, hW0⟩ : ∃ W0, W0 = ((we.alloc (.cells #[.int .i64 (most : Int)] 3)).alloc (.cells #[.slice none 0 0] 105)).alloc (.cells #[.slice none 0 0] 105) := ⟨_, rfl⟩
  obtain ⟨nD, hnD⟩ : ∃ n, n = D.length := ⟨_, rfl⟩
  have HB : Hid (Bas w W0 O WB SB B1 B2 Z most wa nD wk D b A) := by
    have hd := HD1.out
    have k1e : Keeps (fun _ => False) w1 we := hd.1.k.trans g1.k fun _ _ e => e
    have kwe : Keeps (fun _ => False) w we := H1.out.1.trans k1e fun _ _ e => e
    have ke0 : Keeps (fun _ => False) we W0 := by rw [hW0]; exact (((Keeps.refl _ we).alloc _).alloc _).alloc _
    have kd0 : Keeps (fun _ => False) wd W0 := g1.k.trans ke0 fun _ _ e => e
    have e1 := ((Blk.new we #[.int .i64 (most : Int)] 3).alloc (.cells #[.slice none 0 0] 105)).alloc (.cells #[.slice none 0 0] 105)
    have e2 := (Blk.new (we.alloc (.cells #[.int .i64 (most : Int)] 3)) #[.slice none 0 0] 105).alloc (.cells #[.slice none 0 0] 105)
    have e3 := Blk.new ((we.alloc (.cells #[.int .i64 (most : Int)] 3)).alloc (.cells #[.slice none 0 0] 105)) #[.slice none 0 0] 105
    simp only [World.size_alloc, ← hZ] at e1 e2 e3
    rw [← hW0] at e1 e2 e3
    have s1 := g1.k.size
    have s0 := hd.1.k.size
    have sz := H1.out.2.2.2.1
    have hl1 : wd.ownsRow 0 51 3 (.slice wa nD wk) nD (lvs D) := by rw [hnD]; exact hd.2.1.own
    have hd1 := hd.1.b
    rw [← hnD] at hd1
    have z9 : wd.heap.size ≤ Z := by omega
    have oz9 : O + 1 < Z := by have := H1.out.2.2.2.1; have := hd.1.k.size; omega
    have pz9 : w.heap.size ≤ Z := by have := H1.out.2.2.2.2.1; omega
    have hlt : ∀ k, (Value.slice wa nD wk).ownBlock = some k → k < Z := fun k hk => by
      rcases hl1.2 with ⟨h0, -⟩ | ⟨q, cap, cur, h0, hb, hg, -⟩
      · rw [h0] at hk; cases hk
      · rw [h0] at hk; cases hk
        have hq : q < wd.heap.size := (Array.getElem?_eq_some_iff.1 hg).1
        exact Nat.lt_of_lt_of_le hq z9
    exact ⟨kwe.trans ke0 (fun _ _ e => e), (H1.out.2.2.1.kept k1e fun e => e).kept ke0 (fun e => e), hd1.kept kd0 (fun e => e), by have := hd.2.2; omega, owns_kept hl1 kd0 (fun _ _ e => e), hlt, g1.b.kept ke0 (fun e => e), by omega,
      g2.1.kept ke0 (fun e => e), g2.2.1.kept ke0 (fun e => e), by have := g2.1.lt; omega, by have := g2.2.1.lt; omega, e1, e2, e3, by rw [hW0]; simp [hZ], oz9, pz9, by rw [hnD]⟩
  have cS := g1.b.cell (i := 0) rfl
  have HZ : Hid (Z = we.heap.size) := hZ
  have cS0 : (((we.alloc (.cells #[.int .i64 (most : Int)] 3)).alloc (.cells #[.slice none 0 0] 105)).alloc (.cells #[.slice none 0 0] 105)).cell? ⟨SB, 0, none⟩ = some (.func (.func 38) #[] #[.pointer (some ⟨B1, 0, none⟩), .pointer (some ⟨B2, 0, none⟩)]) := by rw [← hW0]; exact HB.out.sb.cell rfl
  have HW0 : Hid (_ = _) := hW0
  have hmI : (most : Int) < 20 := by omega
  have cO := (((H1.out.2.1.kept HD1.out.1.k fun e => e).kept g1.k fun e => e)).cell (i := 3) rfl
  clear g1 g2 g3 hmost hW0 hZ
  go_wp2_with fail
  refine (HC3.out _).mono ?_
  rintro e wx ⟨rfl, hwx⟩
  obtain rfl := hwx.symm
  clear hwx
  by_cases hm0 : 0 < most
  · have hm0' : (0 : Int) < (most : Int) := by omega
    have hm1 : ¬ (most : Int) ≤ 0 := by omega
    go_wp2_with fail
    rw [← HW0.out]
    simp only [← HZ.out]
    have kW : ∀ W (T : Nat → Prop), (∀ k, T k → Z ≤ k) → Keeps T W0 W → Keeps (fun _ => False) w W := fun W T hT hk => HB.out.k.trans hk fun b hb e => by have := hT b e; have := HB.out.pz; omega
    have HG : Hid (∀ W (T : Nat → Prop), (∀ k, T k → Z ≤ k) → Keeps T W0 W → OnL B1 B2 b g n A W) := fun W T hT hk =>
      ⟨(HB.out.q1.kept hk fun e => by have := hT _ e; have := HB.out.q1z; omega).cell rfl, (HB.out.q2.kept hk fun e => by have := hT _ e; have := HB.out.q2z; omega).cell rfl, xs, (HM.out W (kW W T hT hk)).m⟩
    have HT : Hid (∀ W W' (T T' : Nat → Prop) (s : Nat) (x : Lf), (∀ k, T k → Z ≤ k) → (∀ k, T' k → Z ≤ k) → Keeps T W0 W → Keeps T' W0 W' → TellL b g n A s x W → TellL b g n A s x W') := fun W W' T T' s x hT hT' hk hk' ht =>
      ⟨ht.1, ht.2.1, fun us hu => by rw [← (HM.out W' (kW W' T' hT' hk')).m.inj hu]; exact ht.2.2 xs (HM.out W (kW W T hT hk)).m⟩
    have HKW : Hid (∀ W (T : Nat → Prop), (∀ k, T k → Z ≤ k) → Keeps T W0 W → Keeps (fun _ => False) w W) := kW
    have zz := HB.out.zz
    clear kW
    have i0 : Lv1 W0 (Z + 1) (Z + 5) (fun k => k = Z + 1) (lvL n xs A 0) W0 := ⟨Keeps.refl _ _, none, 0, HB.out.ab, World.ownsRow_nil _ _ _ _, fun k hk => by cases hk⟩
    refine (wpIn_wide (n := 8)).1 ?_
    refine range_live6 (σ := Nat) (α := Lf) rfl (by omega) (gf := 38) (lb := #[.pointer (some ⟨B1, 0, none⟩), .pointer (some ⟨B2, 0, none⟩)]) rfl trivial (enters_of Try.func38 (by kernel_rfl) rfl)
      (leaves_tells 7 B1 B2 b g n A) (fun _ => rfl) (fun s W => Lv1 W0 (Z + 1) (Z + 5) (fun k => k = Z + 1) (lvL n xs A s) W ∧ (lvL n xs A s).length < most)
      (fun c W => c = .exit 0 ∧ ∃ s, s ≤ 256 ∧ (lvL n xs A s).length = most ∧ Lv1 W0 (Z + 1) (Z + 5) (fun k => k = Z + 1) (lvL n xs A s) W)
      (fun s W W' hK h => ⟨h.1.kept hK (fun k hk e => by omega) (by omega) (fun k hk e => by omega), h.2⟩)
      (fun s x W W' hK hi ht => HT.out W W' _ _ s x (fun k e => by omega) (fun k e => by omega) hi.1.k (hi.1.kept hK (fun k hk e => by omega) (by omega) (fun k hk e => by omega)).k ht)
      (fun c W W' hK h => by obtain ⟨e, s, h1, h2, h3⟩ := h; exact ⟨e, s, h1, h2, h3.kept hK (fun k hk e => by omega) (by omega) (fun k hk e => by omega)⟩)
      (fun s W hz hi => HG.out W _ (fun k e => by omega) hi.1.k)
      (fun s s' W hi hs => by
        obtain ⟨rfl, hlt, hn⟩ := hs
        rw [lvL_no (hn xs (HM.out W (HKW.out W _ (fun k e => by omega) hi.1.k)).m)]
        exact hi)
      ⟨i0, by rw [lvL_zero]; exact hm0⟩ ?body ?done ?stop
    case stop =>
      rintro cc W ⟨rfl, s, hs, hl, hL⟩ hDf
      have hLt : D.take most = lvL n xs A s := by rw [H1.out.2.2.2.2.2.2.1, ← hl]; exact lvL_take hs
      have HA : Hid (Lv1 W0 (Z + 1) (Z + 5) (fun k => k = Z + 1) (D.take most) W) := by rw [hLt]; exact hL
      have HDf : Hid (W.heap[W0.heap.size]? = some (.deferred (some []))) := hDf
      clear hs hl hL hDf hLt i0
      have cS := (HB.out.sb.kept HA.out.k fun e => by have := HB.out.sbz; omega).cell (i := 0) rfl
      obtain ⟨X0, hX0⟩ : ∃ X0, X0 = W.alloc (.cells #[.int .i64 0] 3) := ⟨_, rfl⟩
      obtain ⟨Cb, hCb⟩ : ∃ Cb, Cb = W.heap.size := ⟨_, rfl⟩
      have cS2 : (W.alloc (.cells #[.int .i64 0] 3)).cell? ⟨SB, 0, none⟩ = some (.func (.func 38) #[] #[.pointer (some ⟨B1, 0, none⟩), .pointer (some ⟨B2, 0, none⟩)]) := cellK cS ((Keeps.refl (fun _ => False) W).alloc _) fun e => e
      have HX0 : Hid (X0 = W.alloc (.cells #[.int .i64 0] 3) ∧ Cb = W.heap.size ∧ Z + 3 ≤ Cb) := ⟨hX0, hCb, by have := HA.out.k.size; omega⟩
      clear hX0 hCb
      gi_wp2
      go_wp2_with fail
      try clear hnD
      rw [← HX0.out.1, ← HX0.out.2.1]
      have hkx : Keeps (fun k => k = Z + 1) W0 X0 := by rw [HX0.out.1]; exact HA.out.k.alloc _
      have zx : X0.heap.size = Cb + 1 := by rw [HX0.out.1, HX0.out.2.1]; simp
      have zc : Z + 3 ≤ Cb := HX0.out.2.2
      have kXY : ∀ Y (S : Nat → Prop), (∀ k, S k → Z ≤ k) → Keeps S X0 Y → Keeps (fun k => Z ≤ k) W0 Y := fun Y S hS hk => (hkx.mono fun k e => by omega).trans hk fun b hb e => hS b e
      have bb0 : Blk X0 (Z + 1 + 1) [.slice none 0 0] 105 := HB.out.bb.kept hkx (by omega)
      have cb0 : Blk X0 Cb [.int .i64 0] 3 := by rw [HX0.out.1, HX0.out.2.1]; exact Blk.new _ _ 3
      have HKX : Hid (Keeps (fun k => k = Z + 1) W0 X0 ∧ X0.heap.size = Cb + 1 ∧ Z + 3 ≤ Cb ∧ ∀ Y (S : Nat → Prop), (∀ k, S k → Z ≤ k) → Keeps S X0 Y → Keeps (fun k => Z ≤ k) W0 Y) := ⟨hkx, zx, zc, kXY⟩
      have j0 : Lv1 X0 (Z + 1 + 1) (Cb + 3) (fun k => k = Z + 1 + 1 ∨ k = Cb) (lvL n xs A 0) X0 := ⟨Keeps.refl _ _, none, 0, bb0, World.ownsRow_nil _ _ _ _, fun k hk => by cases hk⟩
      clear hkx kXY bb0
      refine (wpIn_wide (n := 8)).1 ?_
      refine range_live6 (σ := Nat) (α := Lf) rfl (by omega) (gf := 38) (lb := #[.pointer (some ⟨B1, 0, none⟩), .pointer (some ⟨B2, 0, none⟩)]) rfl trivial (enters_of Try.func38 (by kernel_rfl) rfl)
        (leaves_tells 7 B1 B2 b g n A) (fun _ => rfl) (fun s Y => Lv1 X0 (Z + 1 + 1) (Cb + 3) (fun k => k = Z + 1 + 1 ∨ k = Cb) (lvL n xs A s) Y ∧ Blk Y Cb [c3v (lvL n xs A s).length nD] 3) (fun _ _ => False)
        (fun s W W' hK h => ⟨h.1.kept hK (fun k hk e => by omega) (by omega) (fun k hk e => by omega), h.2.kept hK (by omega)⟩)
        (fun s x W W' hK hi ht => HT.out W W' _ _ s x (fun k e => e) (fun k e => e) (HKX.out.2.2.2 W _ (fun k e => by omega) hi.1.k) (HKX.out.2.2.2 W' _ (fun k e => by omega) (hi.1.kept hK (fun k hk e => by omega) (by omega) (fun k hk e => by omega)).k) ht)
        (fun _ _ _ _ h => h)
        (fun s W hz hi => HG.out W _ (fun k e => e) (HKX.out.2.2.2 W _ (fun k e => by omega) hi.1.k))
        (fun s s' W hi hs => by
          obtain ⟨rfl, hlt, hn⟩ := hs
          rw [lvL_no (hn xs (HM.out W (HKW.out W _ (fun k e => e) (HKX.out.2.2.2 W _ (fun k e => by omega) hi.1.k))).m)]
          exact hi)
        ⟨j0, by rw [lvL_zero]; unfold c3v; simpa using cb0⟩ ?body2 ?done2 ?stop2
      case stop2 =>
        rintro c W h _
        exact h.elim
      case done2 =>
        rintro s Y hf ⟨hL, hcnt⟩ hDf2
        subst hf
        have hnd := HB.out.nd
        have hkx := HKX.out.1
        have zx := HKX.out.2.1
        have kY := HKX.out.2.2.2 Y _ (fun k e => by omega) hL.k
        obtain ⟨av, ac, ha1, ha2, ha3⟩ := HA.out.a
        obtain ⟨bv, bc, hb1, hb2, hb3⟩ := hL.a
        have hkWX : Keeps (fun _ => False) W X0 := by rw [HX0.out.1]; exact (Keeps.refl _ _).alloc _
        have hown : ∀ k, (Value.slice av (D.take most).length ac).ownBlock = some k → k < Cb := fun k hk => by
          rw [HX0.out.2.1]
          rcases ha2.2 with ⟨h0, -⟩ | ⟨q, cap, cur, h0, hb, hg, -⟩
          · rw [h0] at hk; cases hk
          · rw [h0] at hk; cases hk
            exact (Array.getElem?_eq_some_iff.1 hg).1
        have a1 := (ha1.kept hkWX fun e => e).kept hL.k (by omega)
        have a2 := owns_kept (owns_kept ha2 hkWX fun _ _ e => e) hL.k (fun k hk e => by have := ha3 k hk; have := hown k hk; omega)
        have w1' := HB.out.wb.kept kY (by have := HB.out.wbz; omega)
        have w2' := owns_kept HB.out.wo kY (fun k hk e => by have := HB.out.woz k hk; omega)
        have m1 := HB.out.mb.kept hkx (by omega)
        have m2 := m1.kept hL.k (by omega)
        have r1' := HB.out.rb.kept kY (by have := HB.out.oz; omega)
        rw [← H1.out.2.2.2.2.2.2.1, ← hnd] at hb1 hb2
        rw [← H1.out.2.2.2.2.2.2.1, ← hnd] at hcnt
        obtain ⟨nA, hnA⟩ : ∃ m, m = (D.take most).length := ⟨_, rfl⟩
        rw [← hnA] at a1 a2
        have sA : SegL Y av (D.take most) := owns_segL a2 hnA
        have sB : SegL Y bv D := owns_segL hb2 hnd
        have sW : SegL Y wa D := owns_segL w2' hnd
        have hD256 : nD ≤ 256 := by rw [hnd]; exact H1.out.2.2.2.2.2.2.2
        have HS1 : Hid (∀ (c d : Nat) Y', Keeps (fun _ => False) Y Y' → Calls Try.prog 53 #[.slice av nA c, .slice wa nA d] Y' fun e w' => e = .returned (.bool true) ∧ Keeps (fun _ => False) Y' w') := fun c d Y' hK => sameL_any av wa (D.take most) nA c d Y' (sA.quiet hK) ((sW.quiet hK).take most) hnA (by rw [hnA, List.length_take]; omega)
        have HS2 : Hid (∀ (c d : Nat) Y', Keeps (fun _ => False) Y Y' → Calls Try.prog 53 #[.slice bv nD c, .slice wa nD d] Y' fun e w' => e = .returned (.bool true) ∧ Keeps (fun _ => False) Y' w') := fun c d Y' hK => sameL_any bv wa D nD c d Y' (sB.quiet hK) (sW.quiet hK) hnd (by omega)
        have HFin : Hid (Keeps (fun k => Z ≤ k) W0 Y ∧ Blk Y (O + 1) [.bool false] 4 ∧ Y.heap[X0.heap.size]? = some (.deferred (some [])) ∧ (nA = if most < nD then most else nD)) := ⟨kY, r1', hDf2, by rw [hnA, List.length_take, ← hnd]; split <;> omega⟩
        have HXY : Hid (Keeps (fun k => k = Z + 1 + 1 ∨ k = Cb) X0 Y) := hL.k
        have HCells : Hid (∀ Y', Keeps (fun _ => False) Y Y' → Y'.cell? ⟨Z + 1, 0, none⟩ = some (.slice av nA ac) ∧ Y'.cell? ⟨Z + 1 + 1, 0, none⟩ = some (.slice bv nD bc) ∧ Y'.cell? ⟨WB, 0, none⟩ = some (.slice wa nD wk) ∧ Y'.cell? ⟨Z, 0, none⟩ = some (.int .i64 (most : Int)) ∧ Y'.cell? ⟨Cb, 0, none⟩ = some (.int .i64 ((min 3 nD * nD : Nat) : Int))) := fun Y' hK =>
          ⟨(a1.kept hK fun e => e).cell rfl, (hb1.kept hK fun e => e).cell rfl, (w1'.kept hK fun e => e).cell rfl, (m2.kept hK fun e => e).cell rfl, (hcnt.kept hK fun e => e).cell rfl⟩
        obtain ⟨u1, u2, u3, u4, u5⟩ := HCells.out Y (Keeps.refl _ _)
        have hnDI : (nD : Int) ≤ 256 := by omega
        have hA9 := HFin.out.2.2.2
        have hwkI : (nD : Int) ≤ (wk : Int) ∧ (wk : Int) ≤ 9223372036854775807 := by
          rcases w2'.2 with ⟨h0, h1⟩ | ⟨q, cap, cur, h0, hb, hg, h7, h8, -⟩
          · have e1 := Value.slice.inj h0
            obtain ⟨-, e2, e3⟩ := e1
            omega
          · cases h0; unfold maxLen at h8; omega
        clear hnd hkx zx kY ha1 ha2 ha3 hb1 hb2 hb3 hkWX hown a1 a2 w1' w2' m1 m2 r1' hcnt hnA sA sB sW hD256 hL hDf2 j0 cb0
        by_cases hmD : most < nD
        · have hmDI : (most : Int) < nD := by omega
          rw [if_pos hmD] at hA9
          subst hA9
          gi_wp2
          go_wp2_with fail
          clear u1 u2 u3 u4 u5
          refine (HS1.out _ _ Y (Keeps.refl _ _)).mono ?_
          rintro e Y1 ⟨rfl, hk1⟩
          have HK1 : Hid (Keeps (fun _ => False) Y Y1) := hk1
          obtain ⟨u1, u2, u3, u4, u5⟩ := HCells.out Y1 hk1
          clear hk1
          go_wp2_with fail
          refine (HS2.out _ _ Y1 HK1.out).mono ?_
          rintro e Y2 ⟨rfl, hk2⟩
          have HK2 : Hid (Keeps (fun _ => False) Y Y2) := HK1.out.trans hk2 fun _ _ e => e
          clear u1 u2 u3 u4 u5 hk2
          obtain ⟨u1, u2, u3, u4, u5⟩ := HCells.out Y2 HK2.out
          have rb2 := HFin.out.2.1.kept HK2.out fun e => e
          have rc := rb2.cell (i := 0) rfl
          have rf := rb2.frozen 0
          have HR2 : Hid (Blk Y2 (O + 1) [.bool false] 4) := rb2
          clear rb2
          by_cases h3 : 3 ≤ nD
          · have e3 : ((min 3 nD * nD : Nat) : Int) = 3 * (nD : Int) := by rw [Nat.min_eq_left h3]; omega
            rw [e3] at u5
            have h3' : ¬ (nD : Int) < 3 := by omega
            have h3'' : (3 : Int) ≤ nD := by omega
            go_wp2
            have zx := HKX.out.2.1
            have zz9 := HB.out.zz
            have oz9 := HB.out.oz
            have zc9 := HKX.out.2.2.1
            have pz9 := HB.out.pz
            have o9 := H1.out.2.2.2.2.1
            have kw9 := HKW.out Y _ (fun k e => e) HFin.out.1
            have q2 := objK (objK HFin.out.2.2.1 HK2.out fun e => e) ((Keeps.refl (fun k => k = O + 1) Y2).setCell ⟨O + 1, 0, none⟩ (.bool true) fun _ => rfl) (by omega)
            rw [zx] at q2
            have ks9 : Keeps (fun k => k = O + 1) Y2 (Y2.setCell ⟨O + 1, 0, none⟩ (.bool true)) := (Keeps.refl _ Y2).setCell _ _ fun _ => rfl
            have hr9 := HR2.out.setCell 0 (.bool true)
            have hdw := HDf.out
            rw [zz9] at hdw
            have hltw := (Array.getElem?_eq_some_iff.1 hdw).1
            have hcw := HX0.out.2.1
            have kwx : Keeps (fun _ => False) W X0 := by rw [HX0.out.1]; exact (Keeps.refl _ _).alloc _
            have kxy : Keeps (fun k => k = Z + 1 + 1 ∨ k = Cb) X0 Y := HXY.out
            have q1 := objK (objK (objK (objK hdw kwx fun e => e) kxy (by omega)) HK2.out fun e => e) ks9 (by omega)
            revert q2 ks9 hr9 q1
            generalize Y2.setCell ⟨O + 1, 0, none⟩ (.bool true) = WF
            intro q2 ks9 hr9 q1
            have hKf : Keeps (fun k => k = Cb + 1) WF (WF.putObj (Cb + 1) (.deferred none)) := ⟨rfl, rfl, rfl, by simp, fun k _ hn => World.putObj_heap_other hn⟩
            have q1' := objK q1 hKf (by omega)
            have hKg : Keeps (fun k => k = Z + 3) (WF.putObj (Cb + 1) (.deferred none)) ((WF.putObj (Cb + 1) (.deferred none)).putObj (Z + 3) (.deferred none)) := ⟨rfl, rfl, rfl, by simp, fun k _ hn => World.putObj_heap_other hn⟩
            have hrf := ((hr9.kept hKf (by omega)).kept hKg (by omega)).cell (i := 0) rfl
            refine ⟨by simp, .inl ⟨_, _, rfl, run_takeDeferred q2, ⟨by simp, .inl ⟨_, _, rfl, run_takeDeferred q1', ?_⟩⟩⟩⟩
            refine ⟨.bool true, results_cell_val rfl _ _ (O + 1) (.bool true) rfl (by simp [go_sem, hrf]), rfl, ?_⟩
            exact (((kw9.trans HK2.out fun _ _ e => e).trans ks9 fun k hk e => by omega).trans hKf fun k hk e => by omega).trans hKg fun k hk e => by omega
          · rcases (show nD = 0 ∨ nD = 1 ∨ nD = 2 by omega) with rfl | rfl | rfl
            all_goals first | (exfalso; omega; done) | skip
            all_goals
              go_wp2
              have zx := HKX.out.2.1
              have zz9 := HB.out.zz
              have oz9 := HB.out.oz
              have zc9 := HKX.out.2.2.1
              have pz9 := HB.out.pz
              have o9 := H1.out.2.2.2.2.1
              have kw9 := HKW.out Y _ (fun k e => e) HFin.out.1
              have q2 := objK (objK HFin.out.2.2.1 HK2.out fun e => e) ((Keeps.refl (fun k => k = O + 1) Y2).setCell ⟨O + 1, 0, none⟩ (.bool true) fun _ => rfl) (by omega)
              rw [zx] at q2
              have ks9 : Keeps (fun k => k = O + 1) Y2 (Y2.setCell ⟨O + 1, 0, none⟩ (.bool true)) := (Keeps.refl _ Y2).setCell _ _ fun _ => rfl
              have hr9 := HR2.out.setCell 0 (.bool true)
              have hdw := HDf.out
              rw [zz9] at hdw
              have hltw := (Array.getElem?_eq_some_iff.1 hdw).1
              have hcw := HX0.out.2.1
              have kwx : Keeps (fun _ => False) W X0 := by rw [HX0.out.1]; exact (Keeps.refl _ _).alloc _
              have kxy : Keeps (fun k => k = Z + 1 + 1 ∨ k = Cb) X0 Y := HXY.out
              have q1 := objK (objK (objK (objK hdw kwx fun e => e) kxy (by omega)) HK2.out fun e => e) ks9 (by omega)
              revert q2 ks9 hr9 q1
              generalize Y2.setCell ⟨O + 1, 0, none⟩ (.bool true) = WF
              intro q2 ks9 hr9 q1
              have hKf : Keeps (fun k => k = Cb + 1) WF (WF.putObj (Cb + 1) (.deferred none)) := ⟨rfl, rfl, rfl, by simp, fun k _ hn => World.putObj_heap_other hn⟩
              have q1' := objK q1 hKf (by omega)
              have hKg : Keeps (fun k => k = Z + 3) (WF.putObj (Cb + 1) (.deferred none)) ((WF.putObj (Cb + 1) (.deferred none)).putObj (Z + 3) (.deferred none)) := ⟨rfl, rfl, rfl, by simp, fun k _ hn => World.putObj_heap_other hn⟩
              have hrf := ((hr9.kept hKf (by omega)).kept hKg (by omega)).cell (i := 0) rfl
              refine ⟨by simp, .inl ⟨_, _, rfl, run_takeDeferred q2, ⟨by simp, .inl ⟨_, _, rfl, run_takeDeferred q1', ?_⟩⟩⟩⟩
              refine ⟨.bool true, results_cell_val rfl _ _ (O + 1) (.bool true) rfl (by simp [go_sem, hrf]), rfl, ?_⟩
              exact (((kw9.trans HK2.out fun _ _ e => e).trans ks9 fun k hk e => by omega).trans hKf fun k hk e => by omega).trans hKg fun k hk e => by omega
        · have hmDI : ¬ (most : Int) < nD := by omega
          rw [if_neg hmD] at hA9
          have hA9' := hA9.symm
          clear hA9
          subst hA9'
          gi_wp2
          go_wp2_with fail
          clear u1 u2 u3 u4 u5
          refine (HS1.out _ _ Y (Keeps.refl _ _)).mono ?_
          rintro e Y1 ⟨rfl, hk1⟩
          have HK1 : Hid (Keeps (fun _ => False) Y Y1) := hk1
          obtain ⟨u1, u2, u3, u4, u5⟩ := HCells.out Y1 hk1
          clear hk1
          go_wp2_with fail
          refine (HS2.out _ _ Y1 HK1.out).mono ?_
          rintro e Y2 ⟨rfl, hk2⟩
          have HK2 : Hid (Keeps (fun _ => False) Y Y2) := HK1.out.trans hk2 fun _ _ e => e
          clear u1 u2 u3 u4 u5 hk2
          obtain ⟨u1, u2, u3, u4, u5⟩ := HCells.out Y2 HK2.out
          have rb2 := HFin.out.2.1.kept HK2.out fun e => e
          have rc := rb2.cell (i := 0) rfl
          have rf := rb2.frozen 0
          have HR2 : Hid (Blk Y2 (O + 1) [.bool false] 4) := rb2
          clear rb2
          by_cases h3 : 3 ≤ nD
          · have e3 : ((min 3 nD * nD : Nat) : Int) = 3 * (nD : Int) := by rw [Nat.min_eq_left h3]; omega
            rw [e3] at u5
            have h3' : ¬ (nD : Int) < 3 := by omega
            have h3'' : (3 : Int) ≤ nD := by omega
            go_wp2
            have zx := HKX.out.2.1
            have zz9 := HB.out.zz
            have oz9 := HB.out.oz
            have zc9 := HKX.out.2.2.1
            have pz9 := HB.out.pz
            have o9 := H1.out.2.2.2.2.1
            have kw9 := HKW.out Y _ (fun k e => e) HFin.out.1
            have q2 := objK (objK HFin.out.2.2.1 HK2.out fun e => e) ((Keeps.refl (fun k => k = O + 1) Y2).setCell ⟨O + 1, 0, none⟩ (.bool true) fun _ => rfl) (by omega)
            rw [zx] at q2
            have ks9 : Keeps (fun k => k = O + 1) Y2 (Y2.setCell ⟨O + 1, 0, none⟩ (.bool true)) := (Keeps.refl _ Y2).setCell _ _ fun _ => rfl
            have hr9 := HR2.out.setCell 0 (.bool true)
            have hdw := HDf.out
            rw [zz9] at hdw
            have hltw := (Array.getElem?_eq_some_iff.1 hdw).1
            have hcw := HX0.out.2.1
            have kwx : Keeps (fun _ => False) W X0 := by rw [HX0.out.1]; exact (Keeps.refl _ _).alloc _
            have kxy : Keeps (fun k => k = Z + 1 + 1 ∨ k = Cb) X0 Y := HXY.out
            have q1 := objK (objK (objK (objK hdw kwx fun e => e) kxy (by omega)) HK2.out fun e => e) ks9 (by omega)
            revert q2 ks9 hr9 q1
            generalize Y2.setCell ⟨O + 1, 0, none⟩ (.bool true) = WF
            intro q2 ks9 hr9 q1
            have hKf : Keeps (fun k => k = Cb + 1) WF (WF.putObj (Cb + 1) (.deferred none)) := ⟨rfl, rfl, rfl, by simp, fun k _ hn => World.putObj_heap_other hn⟩
            have q1' := objK q1 hKf (by omega)
            have hKg : Keeps (fun k => k = Z + 3) (WF.putObj (Cb + 1) (.deferred none)) ((WF.putObj (Cb + 1) (.deferred none)).putObj (Z + 3) (.deferred none)) := ⟨rfl, rfl, rfl, by simp, fun k _ hn => World.putObj_heap_other hn⟩
            have hrf := ((hr9.kept hKf (by omega)).kept hKg (by omega)).cell (i := 0) rfl
            refine ⟨by simp, .inl ⟨_, _, rfl, run_takeDeferred q2, ⟨by simp, .inl ⟨_, _, rfl, run_takeDeferred q1', ?_⟩⟩⟩⟩
            refine ⟨.bool true, results_cell_val rfl _ _ (O + 1) (.bool true) rfl (by simp [go_sem, hrf]), rfl, ?_⟩
            exact (((kw9.trans HK2.out fun _ _ e => e).trans ks9 fun k hk e => by omega).trans hKf fun k hk e => by omega).trans hKg fun k hk e => by omega
          · rcases (show nD = 0 ∨ nD = 1 ∨ nD = 2 by omega) with rfl | rfl | rfl
            all_goals first | (exfalso; omega; done) | skip
            all_goals
              go_wp2
              have zx := HKX.out.2.1
              have zz9 := HB.out.zz
              have oz9 := HB.out.oz
              have zc9 := HKX.out.2.2.1
              have pz9 := HB.out.pz
              have o9 := H1.out.2.2.2.2.1
              have kw9 := HKW.out Y _ (fun k e => e) HFin.out.1
              have q2 := objK (objK HFin.out.2.2.1 HK2.out fun e => e) ((Keeps.refl (fun k => k = O + 1) Y2).setCell ⟨O + 1, 0, none⟩ (.bool true) fun _ => rfl) (by omega)
              rw [zx] at q2
              have ks9 : Keeps (fun k => k = O + 1) Y2 (Y2.setCell ⟨O + 1, 0, none⟩ (.bool true)) := (Keeps.refl _ Y2).setCell _ _ fun _ => rfl
              have hr9 := HR2.out.setCell 0 (.bool true)
              have hdw := HDf.out
              rw [zz9] at hdw
              have hltw := (Array.getElem?_eq_some_iff.1 hdw).1
              have hcw := HX0.out.2.1
              have kwx : Keeps (fun _ => False) W X0 := by rw [HX0.out.1]; exact (Keeps.refl _ _).alloc _
              have kxy : Keeps (fun k => k = Z + 1 + 1 ∨ k = Cb) X0 Y := HXY.out
              have q1 := objK (objK (objK (objK hdw kwx fun e => e) kxy (by omega)) HK2.out fun e => e) ks9 (by omega)
              revert q2 ks9 hr9 q1
              generalize Y2.setCell ⟨O + 1, 0, none⟩ (.bool true) = WF
              intro q2 ks9 hr9 q1
              have hKf : Keeps (fun k => k = Cb + 1) WF (WF.putObj (Cb + 1) (.deferred none)) := ⟨rfl, rfl, rfl, by simp, fun k _ hn => World.putObj_heap_other hn⟩
              have q1' := objK q1 hKf (by omega)
              have hKg : Keeps (fun k => k = Z + 3) (WF.putObj (Cb + 1) (.deferred none)) ((WF.putObj (Cb + 1) (.deferred none)).putObj (Z + 3) (.deferred none)) := ⟨rfl, rfl, rfl, by simp, fun k _ hn => World.putObj_heap_other hn⟩
              have hrf := ((hr9.kept hKf (by omega)).kept hKg (by omega)).cell (i := 0) rfl
              refine ⟨by simp, .inl ⟨_, _, rfl, run_takeDeferred q2, ⟨by simp, .inl ⟨_, _, rfl, run_takeDeferred q1', ?_⟩⟩⟩⟩
              refine ⟨.bool true, results_cell_val rfl _ _ (O + 1) (.bool true) rfl (by simp [go_sem, hrf]), rfl, ?_⟩
              exact (((kw9.trans HK2.out fun _ _ e => e).trans ks9 fun k hk e => by omega).trans hKf fun k hk e => by omega).trans hKg fun k hk e => by omega
      case body2 =>
        intro l s x W1 hz1 hW1 _ hl
        unfold encL
        gi_wp2
        refine ⟨(Keeps.refl _ W1).alloc _, ?_⟩
        intro V hkA hlt hi ht hrec
        obtain ⟨t1, t2, t30⟩ := ht
        have kV := HKX.out.2.2.2 V _ (fun k e => by omega) hi.1.k
        obtain ⟨t3, t4⟩ := t30 xs (HM.out V (HKW.out V _ (fun k e => e) kV)).m
        obtain ⟨Lb, hLb⟩ : ∃ Lb, Lb = W1.heap.size := ⟨_, rfl⟩
        have hBl : Blk V Lb [.int .i64 x.page, .int .i64 x.frame, .int .i64 x.rights] 51 := by rw [hLb]; exact (Blk.new W1 _ 51).kept hkA (by omega)
        rw [← hLb]
        have l0 := hBl.cell (i := 0) rfl
        have l1 := hBl.cell (i := 1) rfl
        have l2 := hBl.cell (i := 2) rfl
        have hlen := lvL_len n xs A s
        have hLbN : Cb + 3 ≤ Lb := by omega
        obtain ⟨av, ac, av', ac', W2, c0, hr, c1, f1, hL, c2, hk4, hold⟩ := hi.1.more (by omega) x (.inl rfl) (by omega) (by omega) (by omega)
        have hyes := lvL_yes (n := n) (xs := xs) (root := A) (s := s) t3
        rw [← t4] at hyes
        rw [← hyes] at hL
        have hl1 : (lvL n xs A (s + 1)).length = (lvL n xs A s).length + 1 := by rw [hyes]; simp
        have hle : (lvL n xs A s).length + 1 ≤ nD := by rw [← hl1, HB.out.nd, H1.out.2.2.2.2.2.2.1]; exact lvL_le (by omega)
        have wWB : V.cell? ⟨WB, 0, none⟩ = some (.slice wa nD wk) := (HB.out.wb.kept kV fun e => by have := HB.out.wbz; omega).cell rfl
        have wSB : V.cell? ⟨SB, 0, none⟩ = some (.func (.func 38) #[] #[.pointer (some ⟨B1, 0, none⟩), .pointer (some ⟨B2, 0, none⟩)]) := (HB.out.sb.kept kV fun e => by have := HB.out.sbz; omega).cell rfl
        have cWB := hold WB _ (by have := HB.out.wbz; omega) (by have := HB.out.wbz; omega) wWB
        have cSB := hold SB _ (by have := HB.out.sbz; omega) (by have := HB.out.sbz; omega) wSB
        obtain ⟨Y1, hY1⟩ : ∃ Y1, Y1 = W2.setCell ⟨Z + 1 + 1, 0, none⟩ (.slice av' ((lvL n xs A s).length + 1) ac') := ⟨_, rfl⟩
        have hCY : Blk Y1 Cb [c3v (lvL n xs A s).length nD] 3 := by rw [hY1]; exact hi.2.kept hk4 (by omega)
        have hD256 : nD ≤ 256 := by rw [HB.out.nd]; exact H1.out.2.2.2.2.2.2.2
        have HY : Hid (Y1 = W2.setCell ⟨Z + 1 + 1, 0, none⟩ (.slice av' ((lvL n xs A s).length + 1) ac') ∧ Keeps (fun k => k = Z + 1 + 1 ∨ Cb + 3 ≤ k) V Y1 ∧ Lv1 X0 (Z + 1 + 1) (Cb + 3) (fun k => k = Z + 1 + 1 ∨ k = Cb) (lvL n xs A (s + 1)) Y1 ∧ Blk Y1 Cb [c3v (lvL n xs A s).length nD] 3 ∧ X0.heap.size + 1 < V.heap.size ∧ (lvL n xs A (s + 1)).length = (lvL n xs A s).length + 1) :=
          ⟨hY1, by rw [hY1]; exact hk4, by rw [hY1]; exact hL, hCY, hlt, hl1⟩
        have hrec' : ∃ r, Y1.heap[X0.heap.size + 1]? = some (.loop r) := by
          obtain ⟨r, hr⟩ := hrec
          exact ⟨r, (HY.out.2.1.block _ hlt (by omega)).trans hr⟩
        obtain ⟨nv, hnv⟩ : ∃ m, m = (lvL n xs A s).length := ⟨_, rfl⟩
        rw [← hnv] at hr c0 c1 c2 hle cWB cSB HY
        have HR : Hid (∀ ty, _) := hr
        have hgt : ¬ ((nD : Int) < (nv : Int) + 1) := by omega
        have hnv2 : (nv : Int) ≤ 255 := by omega
        have HN : Hid (nv + 1 ≤ nD ∧ nD ≤ 256) := ⟨hle, hD256⟩
        clear hW1 hkA hlt hi t1 t2 t30 t3 t4 hLb hBl hlen hr hL hk4 hold hyes hl1 hz1 kV wWB wSB hCY j0 cb0 zx hle hD256 hrec hnv hLbN
        by_cases h4 : nv + 1 < 4
        · have h4' : (nv : Int) + 1 < 4 := by omega
          obtain ⟨r, hrec⟩ := hrec'
          subst hl
          gi_wp2_with (gi_at_builtin; refine wpListIn_append_run rfl (.tmp 47) (.tmp 49) 105 105 rfl (.slice av nv ac) (.slice (some ⟨V.heap.size, 0, none⟩) 1 1) (.slice av' (nv + 1) ac') W2 rfl rfl HR.out ?_)
          rw [← HY.out.1]
          obtain ⟨c0, hc0⟩ : ∃ c, c = nv * nD := ⟨_, rfl⟩
          have hc3 : c3v nv nD = .int .i64 ((c0 : Nat) : Int) := by unfold c3v; rw [show min 3 nv = nv by omega, hc0]
          have hc4 : c3v (nv + 1) nD = .int .i64 ((c0 + nD : Nat) : Int) := by unfold c3v; rw [show min 3 (nv + 1) = nv + 1 by omega, hc0, Nat.add_mul, Nat.one_mul]
          have hc02 : c0 ≤ 2 * 256 := by rw [hc0]; exact Nat.mul_le_mul (by omega) HN.out.2
          have HC0 : Hid (c3v nv nD = .int .i64 ((c0 : Nat) : Int) ∧ c3v (nv + 1) nD = .int .i64 ((c0 + nD : Nat) : Int) ∧ c0 ≤ 512) := ⟨hc3, hc4, hc02⟩
          have kZ : ∀ Y, Keeps (fun k => k = Cb) Y1 Y → Keeps (fun k => Z ≤ k) W0 Y := fun Y hk => HKX.out.2.2.2 Y (fun k => k = Z + 1 + 1 ∨ k = Cb) (fun k e => by have := HKX.out.2.2.1; omega) (HY.out.2.2.1.k.trans hk fun b hb e => .inr e)
          have b0 : Blk Y1 Cb [.int .i64 ((c0 + (lvL n xs A 0).length : Nat) : Int)] 3 := by have := HY.out.2.2.2.1; rw [hc3] at this; rw [lvL_zero]; exact this
          have hcb : Cb < Y1.heap.size := b0.lt
          have hHN := HN.out
          clear hc0 hc3 hc4 hc02 hY1 c2 f1 cWB l0 l1 l2
          refine range_live_in (σ := Nat) (α := Lf) (F := Fence.wide.inRound (X0.heap.size + 1)) (n := 6) rfl hrec (by omega) (gf := 38) (lb := #[.pointer (some ⟨B1, 0, none⟩), .pointer (some ⟨B2, 0, none⟩)]) rfl trivial (enters_of Try.func38 (by kernel_rfl) rfl)
            (Tells.inRound _ (leaves_tells 5 B1 B2 b g n A)) (fun _ => rfl) (fun u Y => Keeps (fun k => k = Cb) Y1 Y ∧ Blk Y Cb [.int .i64 ((c0 + (lvL n xs A u).length : Nat) : Int)] 3)
            (fun u Y Y' hK h => ⟨h.1.trans hK fun b hb e => by omega, h.2.kept hK (by omega)⟩)
            (fun u x2 Y Y' hK h ht => HT.out Y Y' _ _ u x2 (fun k e => e) (fun k e => e) (kZ Y h.1) (kZ Y' (h.1.trans hK fun b hb e => by omega)) ht)
            (fun u Y h => HG.out Y _ (fun k e => e) (kZ Y h.1))
            (fun u u' Y h hs => by
              obtain ⟨rfl, hlt, hn⟩ := hs
              rw [lvL_no (hn xs (HM.out Y (HKW.out Y _ (fun k e => e) (kZ Y h.1))).m)]
              exact h)
            ⟨Keeps.refl _ _, b0⟩ ?bin ?din
          case bin =>
            rintro l2 u x2 Y hC0 _
            unfold encL
            gi_wp2
            refine ⟨trivial, ?_⟩
            rintro Y2 hlt2 hC ⟨h21, h22, h23⟩
            have h3 := (h23 xs (HM.out Y2 (HKW.out Y2 _ (fun k e => e) (kZ Y2 hC.1))).m).1
            have he1 : (lvL n xs A (u + 1)).length = (lvL n xs A u).length + 1 := by rw [lvL_yes h3]; simp
            have hle2 := lvL_len n xs A u
            have cq := hC.2.cell (i := 0) rfl
            have fq := hC.2.frozen 0
            obtain ⟨e, he⟩ : ∃ e, e = c0 + (lvL n xs A u).length := ⟨_, rfl⟩
            rw [← he] at cq
            have hKs : Keeps (fun k => k = Cb) Y2 (Y2.setCell ⟨Cb, 0, none⟩ (.int .i64 ((e : Int) + 1))) := (Keeps.refl _ Y2).setCell _ _ fun _ => rfl
            have HFi : Hid ((Y2.setCell ⟨Cb, 0, none⟩ (.int .i64 ((e : Int) + 1))).heap[Y1.heap.size]? = Y2.heap[Y1.heap.size]? ∧ Keeps (fun k => k = Cb) Y1 (Y2.setCell ⟨Cb, 0, none⟩ (.int .i64 ((e : Int) + 1))) ∧ Blk (Y2.setCell ⟨Cb, 0, none⟩ (.int .i64 ((e : Int) + 1))) Cb [.int .i64 ((c0 + (lvL n xs A (u + 1)).length : Nat) : Int)] 3) := by
              refine ⟨hKs.block _ hlt2 (by omega), hC.1.trans hKs fun _ _ e => e, ?_⟩
              rw [he1, show ((c0 + ((lvL n xs A u).length + 1) : Nat) : Int) = (e : Int) + 1 by omega]
              exact hC.2.setCell 0 _
            have he16 : (e : Int) ≤ 16384 := by have := HC0.out.2.2; omega
            clear hC0 hC h21 h22 h23 h3 he1 hle2 he hKs hlt2 kZ b0
            gi_wp2
            exact HFi.out
          case din =>
            rintro u Y hf hC
            subst hf
            have HF : Hid (LivePost X0.heap.size V (fun Y => Lv1 X0 (Z + 1 + 1) (Cb + 3) (fun k => k = Z + 1 + 1 ∨ k = Cb) (lvL n xs A (s + 1)) Y ∧ Blk Y Cb [c3v (lvL n xs A (s + 1)).length nD] 3) (fun _ _ => False) .normal ⟨#[], []⟩ Y) := by
              have hk : Keeps (fun k => k = Z + 1 + 1 ∨ Cb + 3 ≤ k ∨ k = Cb) V Y := (HY.out.2.1.mono fun k e => by omega).trans hC.1 fun b hb e => .inr (.inr e)
              have z5 := HKX.out.2.1
              have z6 := HKX.out.2.2.1
              have z7 := HY.out.2.2.2.2.1
              refine ⟨⟨hk.block _ (by omega) (by omega), hk.block _ (by omega) (by omega)⟩, HY.out.2.2.1.kept hC.1 (fun k hk e => .inr e) (by omega) (fun k hk e => by omega), ?_⟩
              have h := hC.2
              rw [← H1.out.2.2.2.2.2.2.1, ← HB.out.nd, ← HC0.out.2.1] at h
              rw [HY.out.2.2.2.2.2]; exact h
            clear hC kZ b0
            gi_wp2
            exact HF.out
        · have h4' : ¬ (nv : Int) + 1 < 4 := by omega
          have HF : Hid (LivePost X0.heap.size V (fun Y => Lv1 X0 (Z + 1 + 1) (Cb + 3) (fun k => k = Z + 1 + 1 ∨ k = Cb) (lvL n xs A (s + 1)) Y ∧ Blk Y Cb [c3v (lvL n xs A (s + 1)).length nD] 3) (fun _ _ => False) .normal ⟨#[], []⟩ (W2.setCell ⟨Z + 1 + 1, 0, none⟩ (.slice av' (nv + 1) ac'))) := by
            rw [← HY.out.1]
            refine ⟨⟨HY.out.2.1.block _ (by have := HY.out.2.2.2.2.1; omega) (by have := HKX.out; omega), HY.out.2.1.block _ (by have := HY.out.2.2.2.2.1; omega) (by have := HKX.out; omega)⟩, HY.out.2.2.1, ?_⟩
            have h := HY.out.2.2.2.1
            have e1 : c3v (lvL n xs A (s + 1)).length nD = c3v nv nD := by unfold c3v; rw [HY.out.2.2.2.2.2, show min 3 (nv + 1) = min 3 nv by omega]
            rw [e1]; exact h
          clear hrec' hY1
          gi_wp2_with (gi_at_builtin; refine wpListIn_append_run rfl (.tmp 47) (.tmp 49) 105 105 rfl (.slice av nv ac) (.slice (some ⟨V.heap.size, 0, none⟩) 1 1) (.slice av' (nv + 1) ac') W2 rfl rfl HR.out ?_)
          exact HF.out
    case done =>
      rintro s W hf ⟨hL, hl⟩ hDf
      subst hf
      have hLt : D.take most = lvL n xs A 256 := by rw [H1.out.2.2.2.2.2.2.1]; exact List.take_of_length_le (by omega)
      have HA : Hid (Lv1 W0 (Z + 1) (Z + 5) (fun k => k = Z + 1) (D.take most) W) := by rw [hLt]; exact hL
      have HDf : Hid (W.heap[W0.heap.size]? = some (.deferred (some []))) := hDf
      clear hl hL hDf hLt i0
      have cS := (HB.out.sb.kept HA.out.k fun e => by have := HB.out.sbz; omega).cell (i := 0) rfl
      obtain ⟨X0, hX0⟩ : ∃ X0, X0 = W.alloc (.cells #[.int .i64 0] 3) := ⟨_, rfl⟩
      obtain ⟨Cb, hCb⟩ : ∃ Cb, Cb = W.heap.size := ⟨_, rfl⟩
      have cS2 : (W.alloc (.cells #[.int .i64 0] 3)).cell? ⟨SB, 0, none⟩ = some (.func (.func 38) #[] #[.pointer (some ⟨B1, 0, none⟩), .pointer (some ⟨B2, 0, none⟩)]) := cellK cS ((Keeps.refl (fun _ => False) W).alloc _) fun e => e
      have HX0 : Hid (X0 = W.alloc (.cells #[.int .i64 0] 3) ∧ Cb = W.heap.size ∧ Z + 3 ≤ Cb) := ⟨hX0, hCb, by have := HA.out.k.size; omega⟩
      clear hX0 hCb
      gi_wp2
      go_wp2_with fail
      try clear hnD
      rw [← HX0.out.1, ← HX0.out.2.1]
      have hkx : Keeps (fun k => k = Z + 1) W0 X0 := by rw [HX0.out.1]; exact HA.out.k.alloc _
      have zx : X0.heap.size = Cb + 1 := by rw [HX0.out.1, HX0.out.2.1]; simp
      have zc : Z + 3 ≤ Cb := HX0.out.2.2
      have kXY : ∀ Y (S : Nat → Prop), (∀ k, S k → Z ≤ k) → Keeps S X0 Y → Keeps (fun k => Z ≤ k) W0 Y := fun Y S hS hk => (hkx.mono fun k e => by omega).trans hk fun b hb e => hS b e
      have bb0 : Blk X0 (Z + 1 + 1) [.slice none 0 0] 105 := HB.out.bb.kept hkx (by omega)
      have cb0 : Blk X0 Cb [.int .i64 0] 3 := by rw [HX0.out.1, HX0.out.2.1]; exact Blk.new _ _ 3
      have HKX : Hid (Keeps (fun k => k = Z + 1) W0 X0 ∧ X0.heap.size = Cb + 1 ∧ Z + 3 ≤ Cb ∧ ∀ Y (S : Nat → Prop), (∀ k, S k → Z ≤ k) → Keeps S X0 Y → Keeps (fun k => Z ≤ k) W0 Y) := ⟨hkx, zx, zc, kXY⟩
      have j0 : Lv1 X0 (Z + 1 + 1) (Cb + 3) (fun k => k = Z + 1 + 1 ∨ k = Cb) (lvL n xs A 0) X0 := ⟨Keeps.refl _ _, none, 0, bb0, World.ownsRow_nil _ _ _ _, fun k hk => by cases hk⟩
      clear hkx kXY bb0
      refine (wpIn_wide (n := 8)).1 ?_
      refine range_live6 (σ := Nat) (α := Lf) rfl (by omega) (gf := 38) (lb := #[.pointer (some ⟨B1, 0, none⟩), .pointer (some ⟨B2, 0, none⟩)]) rfl trivial (enters_of Try.func38 (by kernel_rfl) rfl)
        (leaves_tells 7 B1 B2 b g n A) (fun _ => rfl) (fun s Y => Lv1 X0 (Z + 1 + 1) (Cb + 3) (fun k => k = Z + 1 + 1 ∨ k = Cb) (lvL n xs A s) Y ∧ Blk Y Cb [c3v (lvL n xs A s).length nD] 3) (fun _ _ => False)
        (fun s W W' hK h => ⟨h.1.kept hK (fun k hk e => by omega) (by omega) (fun k hk e => by omega), h.2.kept hK (by omega)⟩)
        (fun s x W W' hK hi ht => HT.out W W' _ _ s x (fun k e => e) (fun k e => e) (HKX.out.2.2.2 W _ (fun k e => by omega) hi.1.k) (HKX.out.2.2.2 W' _ (fun k e => by omega) (hi.1.kept hK (fun k hk e => by omega) (by omega) (fun k hk e => by omega)).k) ht)
        (fun _ _ _ _ h => h)
        (fun s W hz hi => HG.out W _ (fun k e => e) (HKX.out.2.2.2 W _ (fun k e => by omega) hi.1.k))
        (fun s s' W hi hs => by
          obtain ⟨rfl, hlt, hn⟩ := hs
          rw [lvL_no (hn xs (HM.out W (HKW.out W _ (fun k e => e) (HKX.out.2.2.2 W _ (fun k e => by omega) hi.1.k))).m)]
          exact hi)
        ⟨j0, by rw [lvL_zero]; unfold c3v; simpa using cb0⟩ ?body2 ?done2 ?stop2
      case stop2 =>
        rintro c W h _
        exact h.elim
      case done2 =>
        rintro s Y hf ⟨hL, hcnt⟩ hDf2
        subst hf
        have hnd := HB.out.nd
        have hkx := HKX.out.1
        have zx := HKX.out.2.1
        have kY := HKX.out.2.2.2 Y _ (fun k e => by omega) hL.k
        obtain ⟨av, ac, ha1, ha2, ha3⟩ := HA.out.a
        obtain ⟨bv, bc, hb1, hb2, hb3⟩ := hL.a
        have hkWX : Keeps (fun _ => False) W X0 := by rw [HX0.out.1]; exact (Keeps.refl _ _).alloc _
        have hown : ∀ k, (Value.slice av (D.take most).length ac).ownBlock = some k → k < Cb := fun k hk => by
          rw [HX0.out.2.1]
          rcases ha2.2 with ⟨h0, -⟩ | ⟨q, cap, cur, h0, hb, hg, -⟩
          · rw [h0] at hk; cases hk
          · rw [h0] at hk; cases hk
            exact (Array.getElem?_eq_some_iff.1 hg).1
        have a1 := (ha1.kept hkWX fun e => e).kept hL.k (by omega)
        have a2 := owns_kept (owns_kept ha2 hkWX fun _ _ e => e) hL.k (fun k hk e => by have := ha3 k hk; have := hown k hk; omega)
        have w1' := HB.out.wb.kept kY (by have := HB.out.wbz; omega)
        have w2' := owns_kept HB.out.wo kY (fun k hk e => by have := HB.out.woz k hk; omega)
        have m1 := HB.out.mb.kept hkx (by omega)
        have m2 := m1.kept hL.k (by omega)
        have r1' := HB.out.rb.kept kY (by have := HB.out.oz; omega)
        rw [← H1.out.2.2.2.2.2.2.1, ← hnd] at hb1 hb2
        rw [← H1.out.2.2.2.2.2.2.1, ← hnd] at hcnt
        obtain ⟨nA, hnA⟩ : ∃ m, m = (D.take most).length := ⟨_, rfl⟩
        rw [← hnA] at a1 a2
        have sA : SegL Y av (D.take most) := owns_segL a2 hnA
        have sB : SegL Y bv D := owns_segL hb2 hnd
        have sW : SegL Y wa D := owns_segL w2' hnd
        have hD256 : nD ≤ 256 := by rw [hnd]; exact H1.out.2.2.2.2.2.2.2
        have HS1 : Hid (∀ (c d : Nat) Y', Keeps (fun _ => False) Y Y' → Calls Try.prog 53 #[.slice av nA c, .slice wa nA d] Y' fun e w' => e = .returned (.bool true) ∧ Keeps (fun _ => False) Y' w') := fun c d Y' hK => sameL_any av wa (D.take most) nA c d Y' (sA.quiet hK) ((sW.quiet hK).take most) hnA (by rw [hnA, List.length_take]; omega)
        have HS2 : Hid (∀ (c d : Nat) Y', Keeps (fun _ => False) Y Y' → Calls Try.prog 53 #[.slice bv nD c, .slice wa nD d] Y' fun e w' => e = .returned (.bool true) ∧ Keeps (fun _ => False) Y' w') := fun c d Y' hK => sameL_any bv wa D nD c d Y' (sB.quiet hK) (sW.quiet hK) hnd (by omega)
        have HFin : Hid (Keeps (fun k => Z ≤ k) W0 Y ∧ Blk Y (O + 1) [.bool false] 4 ∧ Y.heap[X0.heap.size]? = some (.deferred (some [])) ∧ (nA = if most < nD then most else nD)) := ⟨kY, r1', hDf2, by rw [hnA, List.length_take, ← hnd]; split <;> omega⟩
        have HXY : Hid (Keeps (fun k => k = Z + 1 + 1 ∨ k = Cb) X0 Y) := hL.k
        have HCells : Hid (∀ Y', Keeps (fun _ => False) Y Y' → Y'.cell? ⟨Z + 1, 0, none⟩ = some (.slice av nA ac) ∧ Y'.cell? ⟨Z + 1 + 1, 0, none⟩ = some (.slice bv nD bc) ∧ Y'.cell? ⟨WB, 0, none⟩ = some (.slice wa nD wk) ∧ Y'.cell? ⟨Z, 0, none⟩ = some (.int .i64 (most : Int)) ∧ Y'.cell? ⟨Cb, 0, none⟩ = some (.int .i64 ((min 3 nD * nD : Nat) : Int))) := fun Y' hK =>
          ⟨(a1.kept hK fun e => e).cell rfl, (hb1.kept hK fun e => e).cell rfl, (w1'.kept hK fun e => e).cell rfl, (m2.kept hK fun e => e).cell rfl, (hcnt.kept hK fun e => e).cell rfl⟩
        obtain ⟨u1, u2, u3, u4, u5⟩ := HCells.out Y (Keeps.refl _ _)
        have hnDI : (nD : Int) ≤ 256 := by omega
        have hA9 := HFin.out.2.2.2
        have hwkI : (nD : Int) ≤ (wk : Int) ∧ (wk : Int) ≤ 9223372036854775807 := by
          rcases w2'.2 with ⟨h0, h1⟩ | ⟨q, cap, cur, h0, hb, hg, h7, h8, -⟩
          · have e1 := Value.slice.inj h0
            obtain ⟨-, e2, e3⟩ := e1
            omega
          · cases h0; unfold maxLen at h8; omega
        clear hnd hkx zx kY ha1 ha2 ha3 hb1 hb2 hb3 hkWX hown a1 a2 w1' w2' m1 m2 r1' hcnt hnA sA sB sW hD256 hL hDf2 j0 cb0
        by_cases hmD : most < nD
        · have hmDI : (most : Int) < nD := by omega
          rw [if_pos hmD] at hA9
          subst hA9
          gi_wp2
          go_wp2_with fail
          clear u1 u2 u3 u4 u5
          refine (HS1.out _ _ Y (Keeps.refl _ _)).mono ?_
          rintro e Y1 ⟨rfl, hk1⟩
          have HK1 : Hid (Keeps (fun _ => False) Y Y1) := hk1
          obtain ⟨u1, u2, u3, u4, u5⟩ := HCells.out Y1 hk1
          clear hk1
          go_wp2_with fail
          refine (HS2.out _ _ Y1 HK1.out).mono ?_
          rintro e Y2 ⟨rfl, hk2⟩
          have HK2 : Hid (Keeps (fun _ => False) Y Y2) := HK1.out.trans hk2 fun _ _ e => e
          clear u1 u2 u3 u4 u5 hk2
          obtain ⟨u1, u2, u3, u4, u5⟩ := HCells.out Y2 HK2.out
          have rb2 := HFin.out.2.1.kept HK2.out fun e => e
          have rc := rb2.cell (i := 0) rfl
          have rf := rb2.frozen 0
          have HR2 : Hid (Blk Y2 (O + 1) [.bool false] 4) := rb2
          clear rb2
          by_cases h3 : 3 ≤ nD
          · have e3 : ((min 3 nD * nD : Nat) : Int) = 3 * (nD : Int) := by rw [Nat.min_eq_left h3]; omega
            rw [e3] at u5
            have h3' : ¬ (nD : Int) < 3 := by omega
            have h3'' : (3 : Int) ≤ nD := by omega
            go_wp2
            have zx := HKX.out.2.1
            have zz9 := HB.out.zz
            have oz9 := HB.out.oz
            have zc9 := HKX.out.2.2.1
            have pz9 := HB.out.pz
            have o9 := H1.out.2.2.2.2.1
            have kw9 := HKW.out Y _ (fun k e => e) HFin.out.1
            have q2 := objK (objK HFin.out.2.2.1 HK2.out fun e => e) ((Keeps.refl (fun k => k = O + 1) Y2).setCell ⟨O + 1, 0, none⟩ (.bool true) fun _ => rfl) (by omega)
            rw [zx] at q2
            have ks9 : Keeps (fun k => k = O + 1) Y2 (Y2.setCell ⟨O + 1, 0, none⟩ (.bool true)) := (Keeps.refl _ Y2).setCell _ _ fun _ => rfl
            have hr9 := HR2.out.setCell 0 (.bool true)
            have hdw := HDf.out
            rw [zz9] at hdw
            have hltw := (Array.getElem?_eq_some_iff.1 hdw).1
            have hcw := HX0.out.2.1
            have kwx : Keeps (fun _ => False) W X0 := by rw [HX0.out.1]; exact (Keeps.refl _ _).alloc _
            have kxy : Keeps (fun k => k = Z + 1 + 1 ∨ k = Cb) X0 Y := HXY.out
            have q1 := objK (objK (objK (objK hdw kwx fun e => e) kxy (by omega)) HK2.out fun e => e) ks9 (by omega)
            revert q2 ks9 hr9 q1
            generalize Y2.setCell ⟨O + 1, 0, none⟩ (.bool true) = WF
            intro q2 ks9 hr9 q1
            have hKf : Keeps (fun k => k = Cb + 1) WF (WF.putObj (Cb + 1) (.deferred none)) := ⟨rfl, rfl, rfl, by simp, fun k _ hn => World.putObj_heap_other hn⟩
            have q1' := objK q1 hKf (by omega)
            have hKg : Keeps (fun k => k = Z + 3) (WF.putObj (Cb + 1) (.deferred none)) ((WF.putObj (Cb + 1) (.deferred none)).putObj (Z + 3) (.deferred none)) := ⟨rfl, rfl, rfl, by simp, fun k _ hn => World.putObj_heap_other hn⟩
            have hrf := ((hr9.kept hKf (by omega)).kept hKg (by omega)).cell (i := 0) rfl
            refine ⟨by simp, .inl ⟨_, _, rfl, run_takeDeferred q2, ⟨by simp, .inl ⟨_, _, rfl, run_takeDeferred q1', ?_⟩⟩⟩⟩
            refine ⟨.bool true, results_cell_val rfl _ _ (O + 1) (.bool true) rfl (by simp [go_sem, hrf]), rfl, ?_⟩
            exact (((kw9.trans HK2.out fun _ _ e => e).trans ks9 fun k hk e => by omega).trans hKf fun k hk e => by omega).trans hKg fun k hk e => by omega
          · rcases (show nD = 0 ∨ nD = 1 ∨ nD = 2 by omega) with rfl | rfl | rfl
            all_goals first | (exfalso; omega; done) | skip
            all_goals
              go_wp2
              have zx := HKX.out.2.1
              have zz9 := HB.out.zz
              have oz9 := HB.out.oz
              have zc9 := HKX.out.2.2.1
              have pz9 := HB.out.pz
              have o9 := H1.out.2.2.2.2.1
              have kw9 := HKW.out Y _ (fun k e => e) HFin.out.1
              have q2 := objK (objK HFin.out.2.2.1 HK2.out fun e => e) ((Keeps.refl (fun k => k = O + 1) Y2).setCell ⟨O + 1, 0, none⟩ (.bool true) fun _ => rfl) (by omega)
              rw [zx] at q2
              have ks9 : Keeps (fun k => k = O + 1) Y2 (Y2.setCell ⟨O + 1, 0, none⟩ (.bool true)) := (Keeps.refl _ Y2).setCell _ _ fun _ => rfl
              have hr9 := HR2.out.setCell 0 (.bool true)
              have hdw := HDf.out
              rw [zz9] at hdw
              have hltw := (Array.getElem?_eq_some_iff.1 hdw).1
              have hcw := HX0.out.2.1
              have kwx : Keeps (fun _ => False) W X0 := by rw [HX0.out.1]; exact (Keeps.refl _ _).alloc _
              have kxy : Keeps (fun k => k = Z + 1 + 1 ∨ k = Cb) X0 Y := HXY.out
              have q1 := objK (objK (objK (objK hdw kwx fun e => e) kxy (by omega)) HK2.out fun e => e) ks9 (by omega)
              revert q2 ks9 hr9 q1
              generalize Y2.setCell ⟨O + 1, 0, none⟩ (.bool true) = WF
              intro q2 ks9 hr9 q1
              have hKf : Keeps (fun k => k = Cb + 1) WF (WF.putObj (Cb + 1) (.deferred none)) := ⟨rfl, rfl, rfl, by simp, fun k _ hn => World.putObj_heap_other hn⟩
              have q1' := objK q1 hKf (by omega)
              have hKg : Keeps (fun k => k = Z + 3) (WF.putObj (Cb + 1) (.deferred none)) ((WF.putObj (Cb + 1) (.deferred none)).putObj (Z + 3) (.deferred none)) := ⟨rfl, rfl, rfl, by simp, fun k _ hn => World.putObj_heap_other hn⟩
              have hrf := ((hr9.kept hKf (by omega)).kept hKg (by omega)).cell (i := 0) rfl
              refine ⟨by simp, .inl ⟨_, _, rfl, run_takeDeferred q2, ⟨by simp, .inl ⟨_, _, rfl, run_takeDeferred q1', ?_⟩⟩⟩⟩
              refine ⟨.bool true, results_cell_val rfl _ _ (O + 1) (.bool true) rfl (by simp [go_sem, hrf]), rfl, ?_⟩
              exact (((kw9.trans HK2.out fun _ _ e => e).trans ks9 fun k hk e => by omega).trans hKf fun k hk e => by omega).trans hKg fun k hk e => by omega
        · have hmDI : ¬ (most : Int) < nD := by omega
          rw [if_neg hmD] at hA9
          have hA9' := hA9.symm
          clear hA9
          subst hA9'
          gi_wp2
          go_wp2_with fail
          clear u1 u2 u3 u4 u5
          refine (HS1.out _ _ Y (Keeps.refl _ _)).mono ?_
          rintro e Y1 ⟨rfl, hk1⟩
          have HK1 : Hid (Keeps (fun _ => False) Y Y1) := hk1
          obtain ⟨u1, u2, u3, u4, u5⟩ := HCells.out Y1 hk1
          clear hk1
          go_wp2_with fail
          refine (HS2.out _ _ Y1 HK1.out).mono ?_
          rintro e Y2 ⟨rfl, hk2⟩
          have HK2 : Hid (Keeps (fun _ => False) Y Y2) := HK1.out.trans hk2 fun _ _ e => e
          clear u1 u2 u3 u4 u5 hk2
          obtain ⟨u1, u2, u3, u4, u5⟩ := HCells.out Y2 HK2.out
          have rb2 := HFin.out.2.1.kept HK2.out fun e => e
          have rc := rb2.cell (i := 0) rfl
          have rf := rb2.frozen 0
          have HR2 : Hid (Blk Y2 (O + 1) [.bool false] 4) := rb2
          clear rb2
          by_cases h3 : 3 ≤ nD
          · have e3 : ((min 3 nD * nD : Nat) : Int) = 3 * (nD : Int) := by rw [Nat.min_eq_left h3]; omega
            rw [e3] at u5
            have h3' : ¬ (nD : Int) < 3 := by omega
            have h3'' : (3 : Int) ≤ nD := by omega
            go_wp2
            have zx := HKX.out.2.1
            have zz9 := HB.out.zz
            have oz9 := HB.out.oz
            have zc9 := HKX.out.2.2.1
            have pz9 := HB.out.pz
            have o9 := H1.out.2.2.2.2.1
            have kw9 := HKW.out Y _ (fun k e => e) HFin.out.1
            have q2 := objK (objK HFin.out.2.2.1 HK2.out fun e => e) ((Keeps.refl (fun k => k = O + 1) Y2).setCell ⟨O + 1, 0, none⟩ (.bool true) fun _ => rfl) (by omega)
            rw [zx] at q2
            have ks9 : Keeps (fun k => k = O + 1) Y2 (Y2.setCell ⟨O + 1, 0, none⟩ (.bool true)) := (Keeps.refl _ Y2).setCell _ _ fun _ => rfl
            have hr9 := HR2.out.setCell 0 (.bool true)
            have hdw := HDf.out
            rw [zz9] at hdw
            have hltw := (Array.getElem?_eq_some_iff.1 hdw).1
            have hcw := HX0.out.2.1
            have kwx : Keeps (fun _ => False) W X0 := by rw [HX0.out.1]; exact (Keeps.refl _ _).alloc _
            have kxy : Keeps (fun k => k = Z + 1 + 1 ∨ k = Cb) X0 Y := HXY.out
            have q1 := objK (objK (objK (objK hdw kwx fun e => e) kxy (by omega)) HK2.out fun e => e) ks9 (by omega)
            revert q2 ks9 hr9 q1
            generalize Y2.setCell ⟨O + 1, 0, none⟩ (.bool true) = WF
            intro q2 ks9 hr9 q1
            have hKf : Keeps (fun k => k = Cb + 1) WF (WF.putObj (Cb + 1) (.deferred none)) := ⟨rfl, rfl, rfl, by simp, fun k _ hn => World.putObj_heap_other hn⟩
            have q1' := objK q1 hKf (by omega)
            have hKg : Keeps (fun k => k = Z + 3) (WF.putObj (Cb + 1) (.deferred none)) ((WF.putObj (Cb + 1) (.deferred none)).putObj (Z + 3) (.deferred none)) := ⟨rfl, rfl, rfl, by simp, fun k _ hn => World.putObj_heap_other hn⟩
            have hrf := ((hr9.kept hKf (by omega)).kept hKg (by omega)).cell (i := 0) rfl
            refine ⟨by simp, .inl ⟨_, _, rfl, run_takeDeferred q2, ⟨by simp, .inl ⟨_, _, rfl, run_takeDeferred q1', ?_⟩⟩⟩⟩
            refine ⟨.bool true, results_cell_val rfl _ _ (O + 1) (.bool true) rfl (by simp [go_sem, hrf]), rfl, ?_⟩
            exact (((kw9.trans HK2.out fun _ _ e => e).trans ks9 fun k hk e => by omega).trans hKf fun k hk e => by omega).trans hKg fun k hk e => by omega
          · rcases (show nD = 0 ∨ nD = 1 ∨ nD = 2 by omega) with rfl | rfl | rfl
            all_goals first | (exfalso; omega; done) | skip
            all_goals
              go_wp2
              have zx := HKX.out.2.1
              have zz9 := HB.out.zz
              have oz9 := HB.out.oz
              have zc9 := HKX.out.2.2.1
              have pz9 := HB.out.pz
              have o9 := H1.out.2.2.2.2.1
              have kw9 := HKW.out Y _ (fun k e => e) HFin.out.1
              have q2 := objK (objK HFin.out.2.2.1 HK2.out fun e => e) ((Keeps.refl (fun k => k = O + 1) Y2).setCell ⟨O + 1, 0, none⟩ (.bool true) fun _ => rfl) (by omega)
              rw [zx] at q2
              have ks9 : Keeps (fun k => k = O + 1) Y2 (Y2.setCell ⟨O + 1, 0, none⟩ (.bool true)) := (Keeps.refl _ Y2).setCell _ _ fun _ => rfl
              have hr9 := HR2.out.setCell 0 (.bool true)
              have hdw := HDf.out
              rw [zz9] at hdw
              have hltw := (Array.getElem?_eq_some_iff.1 hdw).1
              have hcw := HX0.out.2.1
              have kwx : Keeps (fun _ => False) W X0 := by rw [HX0.out.1]; exact (Keeps.refl _ _).alloc _
              have kxy : Keeps (fun k => k = Z + 1 + 1 ∨ k = Cb) X0 Y := HXY.out
              have q1 := objK (objK (objK (objK hdw kwx fun e => e) kxy (by omega)) HK2.out fun e => e) ks9 (by omega)
              revert q2 ks9 hr9 q1
              generalize Y2.setCell ⟨O + 1, 0, none⟩ (.bool true) = WF
              intro q2 ks9 hr9 q1
              have hKf : Keeps (fun k => k = Cb + 1) WF (WF.putObj (Cb + 1) (.deferred none)) := ⟨rfl, rfl, rfl, by simp, fun k _ hn => World.putObj_heap_other hn⟩
              have q1' := objK q1 hKf (by omega)
              have hKg : Keeps (fun k => k = Z + 3) (WF.putObj (Cb + 1) (.deferred none)) ((WF.putObj (Cb + 1) (.deferred none)).putObj (Z + 3) (.deferred none)) := ⟨rfl, rfl, rfl, by simp, fun k _ hn => World.putObj_heap_other hn⟩
              have hrf := ((hr9.kept hKf (by omega)).kept hKg (by omega)).cell (i := 0) rfl
              refine ⟨by simp, .inl ⟨_, _, rfl, run_takeDeferred q2, ⟨by simp, .inl ⟨_, _, rfl, run_takeDeferred q1', ?_⟩⟩⟩⟩
              refine ⟨.bool true, results_cell_val rfl _ _ (O + 1) (.bool true) rfl (by simp [go_sem, hrf]), rfl, ?_⟩
              exact (((kw9.trans HK2.out fun _ _ e => e).trans ks9 fun k hk e => by omega).trans hKf fun k hk e => by omega).trans hKg fun k hk e => by omega
      case body2 =>
        intro l s x W1 hz1 hW1 _ hl
        unfold encL
        gi_wp2
        refine ⟨(Keeps.refl _ W1).alloc _, ?_⟩
        intro V hkA hlt hi ht hrec
        obtain ⟨t1, t2, t30⟩ := ht
        have kV := HKX.out.2.2.2 V _ (fun k e => by omega) hi.1.k
        obtain ⟨t3, t4⟩ := t30 xs (HM.out V (HKW.out V _ (fun k e => e) kV)).m
        obtain ⟨Lb, hLb⟩ : ∃ Lb, Lb = W1.heap.size := ⟨_, rfl⟩
        have hBl : Blk V Lb [.int .i64 x.page, .int .i64 x.frame, .int .i64 x.rights] 51 := by rw [hLb]; exact (Blk.new W1 _ 51).kept hkA (by omega)
        rw [← hLb]
        have l0 := hBl.cell (i := 0) rfl
        have l1 := hBl.cell (i := 1) rfl
        have l2 := hBl.cell (i := 2) rfl
        have hlen := lvL_len n xs A s
        have hLbN : Cb + 3 ≤ Lb := by omega
        obtain ⟨av, ac, av', ac', W2, c0, hr, c1, f1, hL, c2, hk4, hold⟩ := hi.1.more (by omega) x (.inl rfl) (by omega) (by omega) (by omega)
        have hyes := lvL_yes (n := n) (xs := xs) (root := A) (s := s) t3
        rw [← t4] at hyes
        rw [← hyes] at hL
        have hl1 : (lvL n xs A (s + 1)).length = (lvL n xs A s).length + 1 := by rw [hyes]; simp
        have hle : (lvL n xs A s).length + 1 ≤ nD := by rw [← hl1, HB.out.nd, H1.out.2.2.2.2.2.2.1]; exact lvL_le (by omega)
        have wWB : V.cell? ⟨WB, 0, none⟩ = some (.slice wa nD wk) := (HB.out.wb.kept kV fun e => by have := HB.out.wbz; omega).cell rfl
        have wSB : V.cell? ⟨SB, 0, none⟩ = some (.func (.func 38) #[] #[.pointer (some ⟨B1, 0, none⟩), .pointer (some ⟨B2, 0, none⟩)]) := (HB.out.sb.kept kV fun e => by have := HB.out.sbz; omega).cell rfl
        have cWB := hold WB _ (by have := HB.out.wbz; omega) (by have := HB.out.wbz; omega) wWB
        have cSB := hold SB _ (by have := HB.out.sbz; omega) (by have := HB.out.sbz; omega) wSB
        obtain ⟨Y1, hY1⟩ : ∃ Y1, Y1 = W2.setCell ⟨Z + 1 + 1, 0, none⟩ (.slice av' ((lvL n xs A s).length + 1) ac') := ⟨_, rfl⟩
        have hCY : Blk Y1 Cb [c3v (lvL n xs A s).length nD] 3 := by rw [hY1]; exact hi.2.kept hk4 (by omega)
        have hD256 : nD ≤ 256 := by rw [HB.out.nd]; exact H1.out.2.2.2.2.2.2.2
        have HY : Hid (Y1 = W2.setCell ⟨Z + 1 + 1, 0, none⟩ (.slice av' ((lvL n xs A s).length + 1) ac') ∧ Keeps (fun k => k = Z + 1 + 1 ∨ Cb + 3 ≤ k) V Y1 ∧ Lv1 X0 (Z + 1 + 1) (Cb + 3) (fun k => k = Z + 1 + 1 ∨ k = Cb) (lvL n xs A (s + 1)) Y1 ∧ Blk Y1 Cb [c3v (lvL n xs A s).length nD] 3 ∧ X0.heap.size + 1 < V.heap.size ∧ (lvL n xs A (s + 1)).length = (lvL n xs A s).length + 1) :=
          ⟨hY1, by rw [hY1]; exact hk4, by rw [hY1]; exact hL, hCY, hlt, hl1⟩
        have hrec' : ∃ r, Y1.heap[X0.heap.size + 1]? = some (.loop r) := by
          obtain ⟨r, hr⟩ := hrec
          exact ⟨r, (HY.out.2.1.block _ hlt (by omega)).trans hr⟩
        obtain ⟨nv, hnv⟩ : ∃ m, m = (lvL n xs A s).length := ⟨_, rfl⟩
        rw [← hnv] at hr c0 c1 c2 hle cWB cSB HY
        have HR : Hid (∀ ty, _) := hr
        have hgt : ¬ ((nD : Int) < (nv : Int) + 1) := by omega
        have hnv2 : (nv : Int) ≤ 255 := by omega
        have HN : Hid (nv + 1 ≤ nD ∧ nD ≤ 256) := ⟨hle, hD256⟩
        clear hW1 hkA hlt hi t1 t2 t30 t3 t4 hLb hBl hlen hr hL hk4 hold hyes hl1 hz1 kV wWB wSB hCY j0 cb0 zx hle hD256 hrec hnv hLbN
        by_cases h4 : nv + 1 < 4
        · have h4' : (nv : Int) + 1 < 4 := by omega
          obtain ⟨r, hrec⟩ := hrec'
          subst hl
          gi_wp2_with (gi_at_builtin; refine wpListIn_append_run rfl (.tmp 47) (.tmp 49) 105 105 rfl (.slice av nv ac) (.slice (some ⟨V.heap.size, 0, none⟩) 1 1) (.slice av' (nv + 1) ac') W2 rfl rfl HR.out ?_)
          rw [← HY.out.1]
          obtain ⟨c0, hc0⟩ : ∃ c, c = nv * nD := ⟨_, rfl⟩
          have hc3 : c3v nv nD = .int .i64 ((c0 : Nat) : Int) := by unfold c3v; rw [show min 3 nv = nv by omega, hc0]
          have hc4 : c3v (nv + 1) nD = .int .i64 ((c0 + nD : Nat) : Int) := by unfold c3v; rw [show min 3 (nv + 1) = nv + 1 by omega, hc0, Nat.add_mul, Nat.one_mul]
          have hc02 : c0 ≤ 2 * 256 := by rw [hc0]; exact Nat.mul_le_mul (by omega) HN.out.2
          have HC0 : Hid (c3v nv nD = .int .i64 ((c0 : Nat) : Int) ∧ c3v (nv + 1) nD = .int .i64 ((c0 + nD : Nat) : Int) ∧ c0 ≤ 512) := ⟨hc3, hc4, hc02⟩
          have kZ : ∀ Y, Keeps (fun k => k = Cb) Y1 Y → Keeps (fun k => Z ≤ k) W0 Y := fun Y hk => HKX.out.2.2.2 Y (fun k => k = Z + 1 + 1 ∨ k = Cb) (fun k e => by have := HKX.out.2.2.1; omega) (HY.out.2.2.1.k.trans hk fun b hb e => .inr e)
          have b0 : Blk Y1 Cb [.int .i64 ((c0 + (lvL n xs A 0).length : Nat) : Int)] 3 := by have := HY.out.2.2.2.1; rw [hc3] at this; rw [lvL_zero]; exact this
          have hcb : Cb < Y1.heap.size := b0.lt
          have hHN := HN.out
          clear hc0 hc3 hc4 hc02 hY1 c2 f1 cWB l0 l1 l2
          refine range_live_in (σ := Nat) (α := Lf) (F := Fence.wide.inRound (X0.heap.size + 1)) (n := 6) rfl hrec (by omega) (gf := 38) (lb := #[.pointer (some ⟨B1, 0, none⟩), .pointer (some ⟨B2, 0, none⟩)]) rfl trivial (enters_of Try.func38 (by kernel_rfl) rfl)
            (Tells.inRound _ (leaves_tells 5 B1 B2 b g n A)) (fun _ => rfl) (fun u Y => Keeps (fun k => k = Cb) Y1 Y ∧ Blk Y Cb [.int .i64 ((c0 + (lvL n xs A u).length : Nat) : Int)] 3)
            (fun u Y Y' hK h => ⟨h.1.trans hK fun b hb e => by omega, h.2.kept hK (by omega)⟩)
            (fun u x2 Y Y' hK h ht => HT.out Y Y' _ _ u x2 (fun k e => e) (fun k e => e) (kZ Y h.1) (kZ Y' (h.1.trans hK fun b hb e => by omega)) ht)
            (fun u Y h => HG.out Y _ (fun k e => e) (kZ Y h.1))
            (fun u u' Y h hs => by
              obtain ⟨rfl, hlt, hn⟩ := hs
              rw [lvL_no (hn xs (HM.out Y (HKW.out Y _ (fun k e => e) (kZ Y h.1))).m)]
              exact h)
            ⟨Keeps.refl _ _, b0⟩ ?bin ?din
          case bin =>
            rintro l2 u x2 Y hC0 _
            unfold encL
            gi_wp2
            refine ⟨trivial, ?_⟩
            rintro Y2 hlt2 hC ⟨h21, h22, h23⟩
            have h3 := (h23 xs (HM.out Y2 (HKW.out Y2 _ (fun k e => e) (kZ Y2 hC.1))).m).1
            have he1 : (lvL n xs A (u + 1)).length = (lvL n xs A u).length + 1 := by rw [lvL_yes h3]; simp
            have hle2 := lvL_len n xs A u
            have cq := hC.2.cell (i := 0) rfl
            have fq := hC.2.frozen 0
            obtain ⟨e, he⟩ : ∃ e, e = c0 + (lvL n xs A u).length := ⟨_, rfl⟩
            rw [← he] at cq
            have hKs : Keeps (fun k => k = Cb) Y2 (Y2.setCell ⟨Cb, 0, none⟩ (.int .i64 ((e : Int) + 1))) := (Keeps.refl _ Y2).setCell _ _ fun _ => rfl
            have HFi : Hid ((Y2.setCell ⟨Cb, 0, none⟩ (.int .i64 ((e : Int) + 1))).heap[Y1.heap.size]? = Y2.heap[Y1.heap.size]? ∧ Keeps (fun k => k = Cb) Y1 (Y2.setCell ⟨Cb, 0, none⟩ (.int .i64 ((e : Int) + 1))) ∧ Blk (Y2.setCell ⟨Cb, 0, none⟩ (.int .i64 ((e : Int) + 1))) Cb [.int .i64 ((c0 + (lvL n xs A (u + 1)).length : Nat) : Int)] 3) := by
              refine ⟨hKs.block _ hlt2 (by omega), hC.1.trans hKs fun _ _ e => e, ?_⟩
              rw [he1, show ((c0 + ((lvL n xs A u).length + 1) : Nat) : Int) = (e : Int) + 1 by omega]
              exact hC.2.setCell 0 _
            have he16 : (e : Int) ≤ 16384 := by have := HC0.out.2.2; omega
            clear hC0 hC h21 h22 h23 h3 he1 hle2 he hKs hlt2 kZ b0
            gi_wp2
            exact HFi.out
          case din =>
            rintro u Y hf hC
            subst hf
            have HF : Hid (LivePost X0.heap.size V (fun Y => Lv1 X0 (Z + 1 + 1) (Cb + 3) (fun k => k = Z + 1 + 1 ∨ k = Cb) (lvL n xs A (s + 1)) Y ∧ Blk Y Cb [c3v (lvL n xs A (s + 1)).length nD] 3) (fun _ _ => False) .normal ⟨#[], []⟩ Y) := by
              have hk : Keeps (fun k => k = Z + 1 + 1 ∨ Cb + 3 ≤ k ∨ k = Cb) V Y := (HY.out.2.1.mono fun k e => by omega).trans hC.1 fun b hb e => .inr (.inr e)
              have z5 := HKX.out.2.1
              have z6 := HKX.out.2.2.1
              have z7 := HY.out.2.2.2.2.1
              refine ⟨⟨hk.block _ (by omega) (by omega), hk.block _ (by omega) (by omega)⟩, HY.out.2.2.1.kept hC.1 (fun k hk e => .inr e) (by omega) (fun k hk e => by omega), ?_⟩
              have h := hC.2
              rw [← H1.out.2.2.2.2.2.2.1, ← HB.out.nd, ← HC0.out.2.1] at h
              rw [HY.out.2.2.2.2.2]; exact h
            clear hC kZ b0
            gi_wp2
            exact HF.out
        · have h4' : ¬ (nv : Int) + 1 < 4 := by omega
          have HF : Hid (LivePost X0.heap.size V (fun Y => Lv1 X0 (Z + 1 + 1) (Cb + 3) (fun k => k = Z + 1 + 1 ∨ k = Cb) (lvL n xs A (s + 1)) Y ∧ Blk Y Cb [c3v (lvL n xs A (s + 1)).length nD] 3) (fun _ _ => False) .normal ⟨#[], []⟩ (W2.setCell ⟨Z + 1 + 1, 0, none⟩ (.slice av' (nv + 1) ac'))) := by
            rw [← HY.out.1]
            refine ⟨⟨HY.out.2.1.block _ (by have := HY.out.2.2.2.2.1; omega) (by have := HKX.out; omega), HY.out.2.1.block _ (by have := HY.out.2.2.2.2.1; omega) (by have := HKX.out; omega)⟩, HY.out.2.2.1, ?_⟩
            have h := HY.out.2.2.2.1
            have e1 : c3v (lvL n xs A (s + 1)).length nD = c3v nv nD := by unfold c3v; rw [HY.out.2.2.2.2.2, show min 3 (nv + 1) = min 3 nv by omega]
            rw [e1]; exact h
          clear hrec' hY1
          gi_wp2_with (gi_at_builtin; refine wpListIn_append_run rfl (.tmp 47) (.tmp 49) 105 105 rfl (.slice av nv ac) (.slice (some ⟨V.heap.size, 0, none⟩) 1 1) (.slice av' (nv + 1) ac') W2 rfl rfl HR.out ?_)
          exact HF.out
    case body =>
      intro l s x W1 hz1 hW1 _ _
      unfold encL
      gi_wp2
      refine ⟨(Keeps.refl _ W1).alloc _, ?_⟩
      intro W hkA hlt hi ht _
      obtain ⟨t1, t2, t30⟩ := ht
      obtain ⟨t3, t4⟩ := t30 xs (HM.out W (HKW.out W _ (fun k e => by omega) hi.1.k)).m
      obtain ⟨Lb, hLb⟩ : ∃ Lb, Lb = W1.heap.size := ⟨_, rfl⟩
      have hBl : Blk W Lb [.int .i64 x.page, .int .i64 x.frame, .int .i64 x.rights] 51 := by rw [hLb]; exact (Blk.new W1 _ 51).kept hkA (by omega)
      rw [← hLb]
      have l0 := hBl.cell (i := 0) rfl
      have l1 := hBl.cell (i := 1) rfl
      have l2 := hBl.cell (i := 2) rfl
      have hlen := lvL_len n xs A s
      obtain ⟨av, ac, av', ac', W2, c0, hr, c1, f1, hL, c2, hk4, hold⟩ := hi.1.more (by omega) x rfl (by omega) (by omega) (by omega)
      have hyes := lvL_yes (n := n) (xs := xs) (root := A) (s := s) t3
      rw [← t4] at hyes
      rw [← hyes] at hL
      have hmb : W.cell? ⟨Z, 0, none⟩ = some (.int .i64 (most : Int)) := (HB.out.mb.kept hi.1.k fun e => by omega).cell rfl
      have cm := hold Z _ (by omega) (by omega) hmb
      have hBB : (W2.setCell ⟨Z + 1, 0, none⟩ (.slice av' ((lvL n xs A s).length + 1) ac')).heap[W0.heap.size]? = W.heap[W0.heap.size]? ∧ (W2.setCell ⟨Z + 1, 0, none⟩ (.slice av' ((lvL n xs A s).length + 1) ac')).heap[W0.heap.size + 1]? = W.heap[W0.heap.size + 1]? :=
        ⟨hk4.block _ (by omega) (by omega), hk4.block _ (by omega) (by omega)⟩
      have hlow := hi.2
      have hl1 : (lvL n xs A (s + 1)).length = (lvL n xs A s).length + 1 := by rw [hyes]; simp
      by_cases hstop : (lvL n xs A s).length + 1 = most
      · have HF : Hid (LivePost W0.heap.size W (fun W => Lv1 W0 (Z + 1) (Z + 5) (fun k => k = Z + 1) (lvL n xs A (s + 1)) W ∧ (lvL n xs A (s + 1)).length < most) (fun c W => c = .exit 0 ∧ ∃ s, s ≤ 256 ∧ (lvL n xs A s).length = most ∧ Lv1 W0 (Z + 1) (Z + 5) (fun k => k = Z + 1) (lvL n xs A s) W) (.exit 0) ⟨#[], []⟩ (W2.setCell ⟨Z + 1, 0, none⟩ (.slice av' ((lvL n xs A s).length + 1) ac'))) :=
          ⟨hBB, rfl, s + 1, by omega, by omega, hL⟩
        obtain ⟨nv, hnv⟩ : ∃ m, m = (lvL n xs A s).length := ⟨_, rfl⟩
        rw [← hnv] at hr c0 c1 c2 cm HF hstop
        have hN2 : (((nv : Int) + 1) == (most : Int)) = true := by rw [beq_iff_eq]; omega
        have hN3 : (((nv + 1 : Nat) : Int) == (most : Int)) = true := by rw [beq_iff_eq]; omega
        have HR : Hid (∀ ty, _) := hr
        clear hW1 hkA hlt hi t1 t2 t30 t3 t4 hLb hBl hlen hr hL hk4 hold hyes hmb hBB hlow hl1 hnv i0 zz hz1 hstop
        gi_wp2_with (gi_at_builtin; refine wpListIn_append_run rfl (.tmp 37) (.tmp 39) 105 105 rfl (.slice av nv ac) (.slice (some ⟨W.heap.size, 0, none⟩) 1 1) (.slice av' (nv + 1) ac') W2 rfl rfl HR.out ?_)
        exact HF.out
      · have HF : Hid (LivePost W0.heap.size W (fun W => Lv1 W0 (Z + 1) (Z + 5) (fun k => k = Z + 1) (lvL n xs A (s + 1)) W ∧ (lvL n xs A (s + 1)).length < most) (fun c W => c = .exit 0 ∧ ∃ s, s ≤ 256 ∧ (lvL n xs A s).length = most ∧ Lv1 W0 (Z + 1) (Z + 5) (fun k => k = Z + 1) (lvL n xs A s) W) .normal ⟨#[], []⟩ (W2.setCell ⟨Z + 1, 0, none⟩ (.slice av' ((lvL n xs A s).length + 1) ac'))) :=
          ⟨hBB, hL, by omega⟩
        obtain ⟨nv, hnv⟩ : ∃ m, m = (lvL n xs A s).length := ⟨_, rfl⟩
        rw [← hnv] at hr c0 c1 c2 cm HF hstop
        have hN2 : (((nv : Int) + 1) == (most : Int)) = false := by rw [beq_eq_false_iff_ne]; omega
        have hN3 : (((nv + 1 : Nat) : Int) == (most : Int)) = false := by rw [beq_eq_false_iff_ne]; omega
        have HR : Hid (∀ ty, _) := hr
        clear hW1 hkA hlt hi t1 t2 t30 t3 t4 hLb hBl hlen hr hL hk4 hold hyes hmb hBB hlow hl1 hnv i0 zz hz1 hstop
        gi_wp2_with (gi_at_builtin; refine wpListIn_append_run rfl (.tmp 37) (.tmp 39) 105 105 rfl (.slice av nv ac) (.slice (some ⟨W.heap.size, 0, none⟩) 1 1) (.slice av' (nv + 1) ac') W2 rfl rfl HR.out ?_)
        exact HF.out
  · have hm1 : ¬ (0 : Int) < (most : Int) := by omega
    have hm2 : (most : Int) ≤ 0 := by omega
    have hm3 : (0 : Int) ≤ (most : Int) := by omega
    have hm4 : ¬ (most : Int) < 0 := by omega
    have kW : ∀ W (T : Nat → Prop), (∀ k, T k → Z ≤ k) → Keeps T W0 W → Keeps (fun _ => False) w W := fun W T hT hk => HB.out.k.trans hk fun b hb e => by have := hT b e; have := HB.out.pz; omega
    have HG : Hid (∀ W (T : Nat → Prop), (∀ k, T k → Z ≤ k) → Keeps T W0 W → OnL B1 B2 b g n A W) := fun W T hT hk =>
      ⟨(HB.out.q1.kept hk fun e => by have := hT _ e; have := HB.out.q1z; omega).cell rfl, (HB.out.q2.kept hk fun e => by have := hT _ e; have := HB.out.q2z; omega).cell rfl, xs, (HM.out W (kW W T hT hk)).m⟩
    have HT : Hid (∀ W W' (T T' : Nat → Prop) (s : Nat) (x : Lf), (∀ k, T k → Z ≤ k) → (∀ k, T' k → Z ≤ k) → Keeps T W0 W → Keeps T' W0 W' → TellL b g n A s x W → TellL b g n A s x W') := fun W W' T T' s x hT hT' hk hk' ht =>
      ⟨ht.1, ht.2.1, fun us hu => by rw [← (HM.out W' (kW W' T' hT' hk')).m.inj hu]; exact ht.2.2 xs (HM.out W (kW W T hT hk)).m⟩
    have HKW : Hid (∀ W (T : Nat → Prop), (∀ k, T k → Z ≤ k) → Keeps T W0 W → Keeps (fun _ => False) w W) := kW
    have zz := HB.out.zz
    clear kW
    have HA : Hid (Lv1 W0 (Z + 1) (Z + 5) (fun k => k = Z + 1) (D.take most) W0) := by
      rw [show most = 0 by omega, List.take_zero]
      exact ⟨Keeps.refl _ _, none, 0, HB.out.ab, World.ownsRow_nil _ _ _ _, fun k hk => by cases hk⟩
    have cS2 := cellK cS0 ((Keeps.refl (fun _ => False) _).alloc (.cells #[.int .i64 0] 3)) fun e => e
    obtain ⟨X0, hX0⟩ : ∃ X0, X0 = W0.alloc (.cells #[.int .i64 0] 3) := ⟨_, rfl⟩
    obtain ⟨Cb, hCb⟩ : ∃ Cb, Cb = W0.heap.size := ⟨_, rfl⟩
    have HX0 : Hid (X0 = W0.alloc (.cells #[.int .i64 0] 3) ∧ Cb = W0.heap.size ∧ Z + 3 ≤ Cb) := ⟨hX0, hCb, by omega⟩
    have HCz : Hid (Z + 3 = Cb) := by rw [hCb, zz]; exact rfl
    clear hX0 hCb zz
    go_wp2_with fail
    rw [← HW0.out]
    simp only [← HZ.out]
    simp only [Nat.add_assoc, Nat.reduceAdd]
    simp only [HCz.out]
    try simp only [show Z + 2 = Z + 1 + 1 from rfl]
    rw [← HX0.out.1]
    try clear hnD
    have hkx : Keeps (fun k => k = Z + 1) W0 X0 := by rw [HX0.out.1]; exact HA.out.k.alloc _
    have zx : X0.heap.size = Cb + 1 := by rw [HX0.out.1, HX0.out.2.1]; simp
    have zc : Z + 3 ≤ Cb := HX0.out.2.2
    have kXY : ∀ Y (S : Nat → Prop), (∀ k, S k → Z ≤ k) → Keeps S X0 Y → Keeps (fun k => Z ≤ k) W0 Y := fun Y S hS hk => (hkx.mono fun k e => by omega).trans hk fun b hb e => hS b e
    have bb0 : Blk X0 (Z + 1 + 1) [.slice none 0 0] 105 := HB.out.bb.kept hkx (by omega)
    have cb0 : Blk X0 Cb [.int .i64 0] 3 := by rw [HX0.out.1, HX0.out.2.1]; exact Blk.new _ _ 3
    have HKX : Hid (Keeps (fun k => k = Z + 1) W0 X0 ∧ X0.heap.size = Cb + 1 ∧ Z + 3 ≤ Cb ∧ ∀ Y (S : Nat → Prop), (∀ k, S k → Z ≤ k) → Keeps S X0 Y → Keeps (fun k => Z ≤ k) W0 Y) := ⟨hkx, zx, zc, kXY⟩
    have j0 : Lv1 X0 (Z + 1 + 1) (Cb + 3) (fun k => k = Z + 1 + 1 ∨ k = Cb) (lvL n xs A 0) X0 := ⟨Keeps.refl _ _, none, 0, bb0, World.ownsRow_nil _ _ _ _, fun k hk => by cases hk⟩
    clear hkx kXY bb0
    refine (wpIn_wide (n := 8)).1 ?_
    refine range_live6 (σ := Nat) (α := Lf) rfl (by omega) (gf := 38) (lb := #[.pointer (some ⟨B1, 0, none⟩), .pointer (some ⟨B2, 0, none⟩)]) rfl trivial (enters_of Try.func38 (by kernel_rfl) rfl)
      (leaves_tells 7 B1 B2 b g n A) (fun _ => rfl) (fun s Y => Lv1 X0 (Z + 1 + 1) (Cb + 3) (fun k => k = Z + 1 + 1 ∨ k = Cb) (lvL n xs A s) Y ∧ Blk Y Cb [c3v (lvL n xs A s).length nD] 3) (fun _ _ => False)
      (fun s W W' hK h => ⟨h.1.kept hK (fun k hk e => by omega) (by omega) (fun k hk e => by omega), h.2.kept hK (by omega)⟩)
      (fun s x W W' hK hi ht => HT.out W W' _ _ s x (fun k e => e) (fun k e => e) (HKX.out.2.2.2 W _ (fun k e => by omega) hi.1.k) (HKX.out.2.2.2 W' _ (fun k e => by omega) (hi.1.kept hK (fun k hk e => by omega) (by omega) (fun k hk e => by omega)).k) ht)
      (fun _ _ _ _ h => h)
      (fun s W hz hi => HG.out W _ (fun k e => e) (HKX.out.2.2.2 W _ (fun k e => by omega) hi.1.k))
      (fun s s' W hi hs => by
        obtain ⟨rfl, hlt, hn⟩ := hs
        rw [lvL_no (hn xs (HM.out W (HKW.out W _ (fun k e => e) (HKX.out.2.2.2 W _ (fun k e => by omega) hi.1.k))).m)]
        exact hi)
      ⟨j0, by rw [lvL_zero]; unfold c3v; simpa using cb0⟩ ?body2 ?done2 ?stop2
    case stop2 =>
      rintro c W h _
      exact h.elim
    case done2 =>
      rintro s Y hf ⟨hL, hcnt⟩ hDf2
      subst hf
      have hnd := HB.out.nd
      have hkx := HKX.out.1
      have zx := HKX.out.2.1
      have kY := HKX.out.2.2.2 Y _ (fun k e => by omega) hL.k
      obtain ⟨av, ac, ha1, ha2, ha3⟩ := HA.out.a
      obtain ⟨bv, bc, hb1, hb2, hb3⟩ := hL.a
      have hkWX : Keeps (fun _ => False) W0 X0 := by rw [HX0.out.1]; exact (Keeps.refl _ _).alloc _
      have hown : ∀ k, (Value.slice av (D.take most).length ac).ownBlock = some k → k < Cb := fun k hk => by
        rw [HX0.out.2.1]
        rcases ha2.2 with ⟨h0, -⟩ | ⟨q, cap, cur, h0, hb, hg, -⟩
        · rw [h0] at hk; cases hk
        · rw [h0] at hk; cases hk
          exact (Array.getElem?_eq_some_iff.1 hg).1
      have a1 := (ha1.kept hkWX fun e => e).kept hL.k (by omega)
      have a2 := owns_kept (owns_kept ha2 hkWX fun _ _ e => e) hL.k (fun k hk e => by have := ha3 k hk; have := hown k hk; omega)
      have w1' := HB.out.wb.kept kY (by have := HB.out.wbz; omega)
      have w2' := owns_kept HB.out.wo kY (fun k hk e => by have := HB.out.woz k hk; omega)
      have m1 := HB.out.mb.kept hkx (by omega)
      have m2 := m1.kept hL.k (by omega)
      have r1' := HB.out.rb.kept kY (by have := HB.out.oz; omega)
      rw [← H1.out.2.2.2.2.2.2.1, ← hnd] at hb1 hb2
      rw [← H1.out.2.2.2.2.2.2.1, ← hnd] at hcnt
      obtain ⟨nA, hnA⟩ : ∃ m, m = (D.take most).length := ⟨_, rfl⟩
      rw [← hnA] at a1 a2
      have sA : SegL Y av (D.take most) := owns_segL a2 hnA
      have sB : SegL Y bv D := owns_segL hb2 hnd
      have sW : SegL Y wa D := owns_segL w2' hnd
      have hD256 : nD ≤ 256 := by rw [hnd]; exact H1.out.2.2.2.2.2.2.2
      have HS1 : Hid (∀ (c d : Nat) Y', Keeps (fun _ => False) Y Y' → Calls Try.prog 53 #[.slice av nA c, .slice wa nA d] Y' fun e w' => e = .returned (.bool true) ∧ Keeps (fun _ => False) Y' w') := fun c d Y' hK => sameL_any av wa (D.take most) nA c d Y' (sA.quiet hK) ((sW.quiet hK).take most) hnA (by rw [hnA, List.length_take]; omega)
      have HS2 : Hid (∀ (c d : Nat) Y', Keeps (fun _ => False) Y Y' → Calls Try.prog 53 #[.slice bv nD c, .slice wa nD d] Y' fun e w' => e = .returned (.bool true) ∧ Keeps (fun _ => False) Y' w') := fun c d Y' hK => sameL_any bv wa D nD c d Y' (sB.quiet hK) (sW.quiet hK) hnd (by omega)
      have HFin : Hid (Keeps (fun k => Z ≤ k) W0 Y ∧ Blk Y (O + 1) [.bool false] 4 ∧ Y.heap[X0.heap.size]? = some (.deferred (some [])) ∧ (nA = if most < nD then most else nD)) := ⟨kY, r1', hDf2, by rw [hnA, List.length_take, ← hnd]; split <;> omega⟩
      have HXY : Hid (Keeps (fun k => k = Z + 1 + 1 ∨ k = Cb) X0 Y) := hL.k
      have HCells : Hid (∀ Y', Keeps (fun _ => False) Y Y' → Y'.cell? ⟨Z + 1, 0, none⟩ = some (.slice av nA ac) ∧ Y'.cell? ⟨Z + 1 + 1, 0, none⟩ = some (.slice bv nD bc) ∧ Y'.cell? ⟨WB, 0, none⟩ = some (.slice wa nD wk) ∧ Y'.cell? ⟨Z, 0, none⟩ = some (.int .i64 (most : Int)) ∧ Y'.cell? ⟨Cb, 0, none⟩ = some (.int .i64 ((min 3 nD * nD : Nat) : Int))) := fun Y' hK =>
        ⟨(a1.kept hK fun e => e).cell rfl, (hb1.kept hK fun e => e).cell rfl, (w1'.kept hK fun e => e).cell rfl, (m2.kept hK fun e => e).cell rfl, (hcnt.kept hK fun e => e).cell rfl⟩
      obtain ⟨u1, u2, u3, u4, u5⟩ := HCells.out Y (Keeps.refl _ _)
      have hnDI : (nD : Int) ≤ 256 := by omega
      have hA9 := HFin.out.2.2.2
      have hwkI : (nD : Int) ≤ (wk : Int) ∧ (wk : Int) ≤ 9223372036854775807 := by
        rcases w2'.2 with ⟨h0, h1⟩ | ⟨q, cap, cur, h0, hb, hg, h7, h8, -⟩
        · have e1 := Value.slice.inj h0
          obtain ⟨-, e2, e3⟩ := e1
          omega
        · cases h0; unfold maxLen at h8; omega
      clear hnd hkx zx kY ha1 ha2 ha3 hb1 hb2 hb3 hkWX hown a1 a2 w1' w2' m1 m2 r1' hcnt hnA sA sB sW hD256 hL hDf2 j0 cb0
      by_cases hmD : most < nD
      · have hmDI : (most : Int) < nD := by omega
        rw [if_pos hmD] at hA9
        subst hA9
        gi_wp2
        go_wp2_with fail
        clear u1 u2 u3 u4 u5
        refine (HS1.out _ _ Y (Keeps.refl _ _)).mono ?_
        rintro e Y1 ⟨rfl, hk1⟩
        have HK1 : Hid (Keeps (fun _ => False) Y Y1) := hk1
        obtain ⟨u1, u2, u3, u4, u5⟩ := HCells.out Y1 hk1
        clear hk1
        go_wp2_with fail
        refine (HS2.out _ _ Y1 HK1.out).mono ?_
        rintro e Y2 ⟨rfl, hk2⟩
        have HK2 : Hid (Keeps (fun _ => False) Y Y2) := HK1.out.trans hk2 fun _ _ e => e
        clear u1 u2 u3 u4 u5 hk2
        obtain ⟨u1, u2, u3, u4, u5⟩ := HCells.out Y2 HK2.out
        have rb2 := HFin.out.2.1.kept HK2.out fun e => e
        have rc := rb2.cell (i := 0) rfl
        have rf := rb2.frozen 0
        have HR2 : Hid (Blk Y2 (O + 1) [.bool false] 4) := rb2
        clear rb2
        by_cases h3 : 3 ≤ nD
        · have e3 : ((min 3 nD * nD : Nat) : Int) = 3 * (nD : Int) := by rw [Nat.min_eq_left h3]; omega
          rw [e3] at u5
          have h3' : ¬ (nD : Int) < 3 := by omega
          have h3'' : (3 : Int) ≤ nD := by omega
          go_wp2
          have zx := HKX.out.2.1
          have zz9 := HB.out.zz
          have oz9 := HB.out.oz
          have zc9 := HKX.out.2.2.1
          have pz9 := HB.out.pz
          have o9 := H1.out.2.2.2.2.1
          have kw9 := HKW.out Y _ (fun k e => e) HFin.out.1
          have q2 := objK (objK HFin.out.2.2.1 HK2.out fun e => e) ((Keeps.refl (fun k => k = O + 1) Y2).setCell ⟨O + 1, 0, none⟩ (.bool true) fun _ => rfl) (by omega)
          rw [zx] at q2
          have ks9 : Keeps (fun k => k = O + 1) Y2 (Y2.setCell ⟨O + 1, 0, none⟩ (.bool true)) := (Keeps.refl _ Y2).setCell _ _ fun _ => rfl
          have hr9 := HR2.out.setCell 0 (.bool true)
          revert q2 ks9 hr9 
          generalize Y2.setCell ⟨O + 1, 0, none⟩ (.bool true) = WF
          intro q2 ks9 hr9 
          have hKf : Keeps (fun k => k = Cb + 1) WF (WF.putObj (Cb + 1) (.deferred none)) := ⟨rfl, rfl, rfl, by simp, fun k _ hn => World.putObj_heap_other hn⟩
          have hrf := (hr9.kept hKf (by omega)).cell (i := 0) rfl
          refine ⟨by simp, .inl ⟨_, _, rfl, run_takeDeferred q2, ?_⟩⟩
          refine ⟨.bool true, results_cell_val rfl _ _ (O + 1) (.bool true) rfl (by simp [go_sem, hrf]), rfl, ?_⟩
          exact ((kw9.trans HK2.out fun _ _ e => e).trans ks9 fun k hk e => by omega).trans hKf fun k hk e => by omega
        · rcases (show nD = 0 ∨ nD = 1 ∨ nD = 2 by omega) with rfl | rfl | rfl
          all_goals first | (exfalso; omega; done) | skip
          all_goals
            go_wp2
            have zx := HKX.out.2.1
            have zz9 := HB.out.zz
            have oz9 := HB.out.oz
            have zc9 := HKX.out.2.2.1
            have pz9 := HB.out.pz
            have o9 := H1.out.2.2.2.2.1
            have kw9 := HKW.out Y _ (fun k e => e) HFin.out.1
            have q2 := objK (objK HFin.out.2.2.1 HK2.out fun e => e) ((Keeps.refl (fun k => k = O + 1) Y2).setCell ⟨O + 1, 0, none⟩ (.bool true) fun _ => rfl) (by omega)
            rw [zx] at q2
            have ks9 : Keeps (fun k => k = O + 1) Y2 (Y2.setCell ⟨O + 1, 0, none⟩ (.bool true)) := (Keeps.refl _ Y2).setCell _ _ fun _ => rfl
            have hr9 := HR2.out.setCell 0 (.bool true)
            revert q2 ks9 hr9 
            generalize Y2.setCell ⟨O + 1, 0, none⟩ (.bool true) = WF
            intro q2 ks9 hr9 
            have hKf : Keeps (fun k => k = Cb + 1) WF (WF.putObj (Cb + 1) (.deferred none)) := ⟨rfl, rfl, rfl, by simp, fun k _ hn => World.putObj_heap_other hn⟩
            have hrf := (hr9.kept hKf (by omega)).cell (i := 0) rfl
            refine ⟨by simp, .inl ⟨_, _, rfl, run_takeDeferred q2, ?_⟩⟩
            refine ⟨.bool true, results_cell_val rfl _ _ (O + 1) (.bool true) rfl (by simp [go_sem, hrf]), rfl, ?_⟩
            exact ((kw9.trans HK2.out fun _ _ e => e).trans ks9 fun k hk e => by omega).trans hKf fun k hk e => by omega
      · have hmDI : ¬ (most : Int) < nD := by omega
        rw [if_neg hmD] at hA9
        have hA9' := hA9.symm
        clear hA9
        subst hA9'
        gi_wp2
        go_wp2_with fail
        clear u1 u2 u3 u4 u5
        refine (HS1.out _ _ Y (Keeps.refl _ _)).mono ?_
        rintro e Y1 ⟨rfl, hk1⟩
        have HK1 : Hid (Keeps (fun _ => False) Y Y1) := hk1
        obtain ⟨u1, u2, u3, u4, u5⟩ := HCells.out Y1 hk1
        clear hk1
        go_wp2_with fail
        refine (HS2.out _ _ Y1 HK1.out).mono ?_
        rintro e Y2 ⟨rfl, hk2⟩
        have HK2 : Hid (Keeps (fun _ => False) Y Y2) := HK1.out.trans hk2 fun _ _ e => e
        clear u1 u2 u3 u4 u5 hk2
        obtain ⟨u1, u2, u3, u4, u5⟩ := HCells.out Y2 HK2.out
        have rb2 := HFin.out.2.1.kept HK2.out fun e => e
        have rc := rb2.cell (i := 0) rfl
        have rf := rb2.frozen 0
        have HR2 : Hid (Blk Y2 (O + 1) [.bool false] 4) := rb2
        clear rb2
        by_cases h3 : 3 ≤ nD
        · exfalso; omega
        · rcases (show nD = 0 ∨ nD = 1 ∨ nD = 2 by omega) with rfl | rfl | rfl
          all_goals first | (exfalso; omega; done) | skip
          all_goals
            go_wp2
            have zx := HKX.out.2.1
            have zz9 := HB.out.zz
            have oz9 := HB.out.oz
            have zc9 := HKX.out.2.2.1
            have pz9 := HB.out.pz
            have o9 := H1.out.2.2.2.2.1
            have kw9 := HKW.out Y _ (fun k e => e) HFin.out.1
            have q2 := objK (objK HFin.out.2.2.1 HK2.out fun e => e) ((Keeps.refl (fun k => k = O + 1) Y2).setCell ⟨O + 1, 0, none⟩ (.bool true) fun _ => rfl) (by omega)
            rw [zx] at q2
            have ks9 : Keeps (fun k => k = O + 1) Y2 (Y2.setCell ⟨O + 1, 0, none⟩ (.bool true)) := (Keeps.refl _ Y2).setCell _ _ fun _ => rfl
            have hr9 := HR2.out.setCell 0 (.bool true)
            revert q2 ks9 hr9 
            generalize Y2.setCell ⟨O + 1, 0, none⟩ (.bool true) = WF
            intro q2 ks9 hr9 
            have hKf : Keeps (fun k => k = Cb + 1) WF (WF.putObj (Cb + 1) (.deferred none)) := ⟨rfl, rfl, rfl, by simp, fun k _ hn => World.putObj_heap_other hn⟩
            have hrf := (hr9.kept hKf (by omega)).cell (i := 0) rfl
            refine ⟨by simp, .inl ⟨_, _, rfl, run_takeDeferred q2, ?_⟩⟩
            refine ⟨.bool true, results_cell_val rfl _ _ (O + 1) (.bool true) rfl (by simp [go_sem, hrf]), rfl, ?_⟩
            exact ((kw9.trans HK2.out fun _ _ e => e).trans ks9 fun k hk e => by omega).trans hKf fun k hk e => by omega
    case body2 =>
      intro l s x W1 hz1 hW1 _ hl
      unfold encL
      gi_wp2
      refine ⟨(Keeps.refl _ W1).alloc _, ?_⟩
      intro V hkA hlt hi ht hrec
      obtain ⟨t1, t2, t30⟩ := ht
      have kV := HKX.out.2.2.2 V _ (fun k e => by omega) hi.1.k
      obtain ⟨t3, t4⟩ := t30 xs (HM.out V (HKW.out V _ (fun k e => e) kV)).m
      obtain ⟨Lb, hLb⟩ : ∃ Lb, Lb = W1.heap.size := ⟨_, rfl⟩
      have hBl : Blk V Lb [.int .i64 x.page, .int .i64 x.frame, .int .i64 x.rights] 51 := by rw [hLb]; exact (Blk.new W1 _ 51).kept hkA (by omega)
      rw [← hLb]
      have l0 := hBl.cell (i := 0) rfl
      have l1 := hBl.cell (i := 1) rfl
      have l2 := hBl.cell (i := 2) rfl
      have hlen := lvL_len n xs A s
      have hLbN : Cb + 3 ≤ Lb := by omega
      obtain ⟨av, ac, av', ac', W2, c0, hr, c1, f1, hL, c2, hk4, hold⟩ := hi.1.more (by omega) x (.inl rfl) (by omega) (by omega) (by omega)
      have hyes := lvL_yes (n := n) (xs := xs) (root := A) (s := s) t3
      rw [← t4] at hyes
      rw [← hyes] at hL
      have hl1 : (lvL n xs A (s + 1)).length = (lvL n xs A s).length + 1 := by rw [hyes]; simp
      have hle : (lvL n xs A s).length + 1 ≤ nD := by rw [← hl1, HB.out.nd, H1.out.2.2.2.2.2.2.1]; exact lvL_le (by omega)
      have wWB : V.cell? ⟨WB, 0, none⟩ = some (.slice wa nD wk) := (HB.out.wb.kept kV fun e => by have := HB.out.wbz; omega).cell rfl
      have wSB : V.cell? ⟨SB, 0, none⟩ = some (.func (.func 38) #[] #[.pointer (some ⟨B1, 0, none⟩), .pointer (some ⟨B2, 0, none⟩)]) := (HB.out.sb.kept kV fun e => by have := HB.out.sbz; omega).cell rfl
      have cWB := hold WB _ (by have := HB.out.wbz; omega) (by have := HB.out.wbz; omega) wWB
      have cSB := hold SB _ (by have := HB.out.sbz; omega) (by have := HB.out.sbz; omega) wSB
      obtain ⟨Y1, hY1⟩ : ∃ Y1, Y1 = W2.setCell ⟨Z + 1 + 1, 0, none⟩ (.slice av' ((lvL n xs A s).length + 1) ac') := ⟨_, rfl⟩
      have hCY : Blk Y1 Cb [c3v (lvL n xs A s).length nD] 3 := by rw [hY1]; exact hi.2.kept hk4 (by omega)
      have hD256 : nD ≤ 256 := by rw [HB.out.nd]; exact H1.out.2.2.2.2.2.2.2
      have HY : Hid (Y1 = W2.setCell ⟨Z + 1 + 1, 0, none⟩ (.slice av' ((lvL n xs A s).length + 1) ac') ∧ Keeps (fun k => k = Z + 1 + 1 ∨ Cb + 3 ≤ k) V Y1 ∧ Lv1 X0 (Z + 1 + 1) (Cb + 3) (fun k => k = Z + 1 + 1 ∨ k = Cb) (lvL n xs A (s + 1)) Y1 ∧ Blk Y1 Cb [c3v (lvL n xs A s).length nD] 3 ∧ X0.heap.size + 1 < V.heap.size ∧ (lvL n xs A (s + 1)).length = (lvL n xs A s).length + 1) :=
        ⟨hY1, by rw [hY1]; exact hk4, by rw [hY1]; exact hL, hCY, hlt, hl1⟩
      have hrec' : ∃ r, Y1.heap[X0.heap.size + 1]? = some (.loop r) := by
        obtain ⟨r, hr⟩ := hrec
        exact ⟨r, (HY.out.2.1.block _ hlt (by omega)).trans hr⟩
      obtain ⟨nv, hnv⟩ : ∃ m, m = (lvL n xs A s).length := ⟨_, rfl⟩
      rw [← hnv] at hr c0 c1 c2 hle cWB cSB HY
      have HR : Hid (∀ ty, _) := hr
      have hgt : ¬ ((nD : Int) < (nv : Int) + 1) := by omega
      have hnv2 : (nv : Int) ≤ 255 := by omega
      have HN : Hid (nv + 1 ≤ nD ∧ nD ≤ 256) := ⟨hle, hD256⟩
      clear hW1 hkA hlt hi t1 t2 t30 t3 t4 hLb hBl hlen hr hL hk4 hold hyes hl1 hz1 kV wWB wSB hCY j0 cb0 zx hle hD256 hrec hnv hLbN
      by_cases h4 : nv + 1 < 4
      · have h4' : (nv : Int) + 1 < 4 := by omega
        obtain ⟨r, hrec⟩ := hrec'
        subst hl
        gi_wp2_with (gi_at_builtin; refine wpListIn_append_run rfl (.tmp 47) (.tmp 49) 105 105 rfl (.slice av nv ac) (.slice (some ⟨V.heap.size, 0, none⟩) 1 1) (.slice av' (nv + 1) ac') W2 rfl rfl HR.out ?_)
        rw [← HY.out.1]
        obtain ⟨c0, hc0⟩ : ∃ c, c = nv * nD := ⟨_, rfl⟩
        have hc3 : c3v nv nD = .int .i64 ((c0 : Nat) : Int) := by unfold c3v; rw [show min 3 nv = nv by omega, hc0]
        have hc4 : c3v (nv + 1) nD = .int .i64 ((c0 + nD : Nat) : Int) := by unfold c3v; rw [show min 3 (nv + 1) = nv + 1 by omega, hc0, Nat.add_mul, Nat.one_mul]
        have hc02 : c0 ≤ 2 * 256 := by rw [hc0]; exact Nat.mul_le_mul (by omega) HN.out.2
        have HC0 : Hid (c3v nv nD = .int .i64 ((c0 : Nat) : Int) ∧ c3v (nv + 1) nD = .int .i64 ((c0 + nD : Nat) : Int) ∧ c0 ≤ 512) := ⟨hc3, hc4, hc02⟩
        have kZ : ∀ Y, Keeps (fun k => k = Cb) Y1 Y → Keeps (fun k => Z ≤ k) W0 Y := fun Y hk => HKX.out.2.2.2 Y (fun k => k = Z + 1 + 1 ∨ k = Cb) (fun k e => by have := HKX.out.2.2.1; omega) (HY.out.2.2.1.k.trans hk fun b hb e => .inr e)
        have b0 : Blk Y1 Cb [.int .i64 ((c0 + (lvL n xs A 0).length : Nat) : Int)] 3 := by have := HY.out.2.2.2.1; rw [hc3] at this; rw [lvL_zero]; exact this
        have hcb : Cb < Y1.heap.size := b0.lt
        have hHN := HN.out
        clear hc0 hc3 hc4 hc02 hY1 c2 f1 cWB l0 l1 l2
        refine range_live_in (σ := Nat) (α := Lf) (F := Fence.wide.inRound (X0.heap.size + 1)) (n := 6) rfl hrec (by omega) (gf := 38) (lb := #[.pointer (some ⟨B1, 0, none⟩), .pointer (some ⟨B2, 0, none⟩)]) rfl trivial (enters_of Try.func38 (by kernel_rfl) rfl)
          (Tells.inRound _ (leaves_tells 5 B1 B2 b g n A)) (fun _ => rfl) (fun u Y => Keeps (fun k => k = Cb) Y1 Y ∧ Blk Y Cb [.int .i64 ((c0 + (lvL n xs A u).length : Nat) : Int)] 3)
          (fun u Y Y' hK h => ⟨h.1.trans hK fun b hb e => by omega, h.2.kept hK (by omega)⟩)
          (fun u x2 Y Y' hK h ht => HT.out Y Y' _ _ u x2 (fun k e => e) (fun k e => e) (kZ Y h.1) (kZ Y' (h.1.trans hK fun b hb e => by omega)) ht)
          (fun u Y h => HG.out Y _ (fun k e => e) (kZ Y h.1))
          (fun u u' Y h hs => by
            obtain ⟨rfl, hlt, hn⟩ := hs
            rw [lvL_no (hn xs (HM.out Y (HKW.out Y _ (fun k e => e) (kZ Y h.1))).m)]
            exact h)
          ⟨Keeps.refl _ _, b0⟩ ?bin ?din
        case bin =>
          rintro l2 u x2 Y hC0 _
          unfold encL
          gi_wp2
          refine ⟨trivial, ?_⟩
          rintro Y2 hlt2 hC ⟨h21, h22, h23⟩
          have h3 := (h23 xs (HM.out Y2 (HKW.out Y2 _ (fun k e => e) (kZ Y2 hC.1))).m).1
          have he1 : (lvL n xs A (u + 1)).length = (lvL n xs A u).length + 1 := by rw [lvL_yes h3]; simp
          have hle2 := lvL_len n xs A u
          have cq := hC.2.cell (i := 0) rfl
          have fq := hC.2.frozen 0
          obtain ⟨e, he⟩ : ∃ e, e = c0 + (lvL n xs A u).length := ⟨_, rfl⟩
          rw [← he] at cq
          have hKs : Keeps (fun k => k = Cb) Y2 (Y2.setCell ⟨Cb, 0, none⟩ (.int .i64 ((e : Int) + 1))) := (Keeps.refl _ Y2).setCell _ _ fun _ => rfl
          have HFi : Hid ((Y2.setCell ⟨Cb, 0, none⟩ (.int .i64 ((e : Int) + 1))).heap[Y1.heap.size]? = Y2.heap[Y1.heap.size]? ∧ Keeps (fun k => k = Cb) Y1 (Y2.setCell ⟨Cb, 0, none⟩ (.int .i64 ((e : Int) + 1))) ∧ Blk (Y2.setCell ⟨Cb, 0, none⟩ (.int .i64 ((e : Int) + 1))) Cb [.int .i64 ((c0 + (lvL n xs A (u + 1)).length : Nat) : Int)] 3) := by
            refine ⟨hKs.block _ hlt2 (by omega), hC.1.trans hKs fun _ _ e => e, ?_⟩
            rw [he1, show ((c0 + ((lvL n xs A u).length + 1) : Nat) : Int) = (e : Int) + 1 by omega]
            exact hC.2.setCell 0 _
          have he16 : (e : Int) ≤ 16384 := by have := HC0.out.2.2; omega
          clear hC0 hC h21 h22 h23 h3 he1 hle2 he hKs hlt2 kZ b0
          gi_wp2
          exact HFi.out
        case din =>
          rintro u Y hf hC
          subst hf
          have HF : Hid (LivePost X0.heap.size V (fun Y => Lv1 X0 (Z + 1 + 1) (Cb + 3) (fun k => k = Z + 1 + 1 ∨ k = Cb) (lvL n xs A (s + 1)) Y ∧ Blk Y Cb [c3v (lvL n xs A (s + 1)).length nD] 3) (fun _ _ => False) .normal ⟨#[], []⟩ Y) := by
            have hk : Keeps (fun k => k = Z + 1 + 1 ∨ Cb + 3 ≤ k ∨ k = Cb) V Y := (HY.out.2.1.mono fun k e => by omega).trans hC.1 fun b hb e => .inr (.inr e)
            have z5 := HKX.out.2.1
            have z6 := HKX.out.2.2.1
            have z7 := HY.out.2.2.2.2.1
            refine ⟨⟨hk.block _ (by omega) (by omega), hk.block _ (by omega) (by omega)⟩, HY.out.2.2.1.kept hC.1 (fun k hk e => .inr e) (by omega) (fun k hk e => by omega), ?_⟩
            have h := hC.2
            rw [← H1.out.2.2.2.2.2.2.1, ← HB.out.nd, ← HC0.out.2.1] at h
            rw [HY.out.2.2.2.2.2]; exact h
          clear hC kZ b0
          gi_wp2
          exact HF.out
      · have h4' : ¬ (nv : Int) + 1 < 4 := by omega
        have HF : Hid (LivePost X0.heap.size V (fun Y => Lv1 X0 (Z + 1 + 1) (Cb + 3) (fun k => k = Z + 1 + 1 ∨ k = Cb) (lvL n xs A (s + 1)) Y ∧ Blk Y Cb [c3v (lvL n xs A (s + 1)).length nD] 3) (fun _ _ => False) .normal ⟨#[], []⟩ (W2.setCell ⟨Z + 1 + 1, 0, none⟩ (.slice av' (nv + 1) ac'))) := by
          rw [← HY.out.1]
          refine ⟨⟨HY.out.2.1.block _ (by have := HY.out.2.2.2.2.1; omega) (by have := HKX.out; omega), HY.out.2.1.block _ (by have := HY.out.2.2.2.2.1; omega) (by have := HKX.out; omega)⟩, HY.out.2.2.1, ?_⟩
          have h := HY.out.2.2.2.1
          have e1 : c3v (lvL n xs A (s + 1)).length nD = c3v nv nD := by unfold c3v; rw [HY.out.2.2.2.2.2, show min 3 (nv + 1) = min 3 nv by omega]
          rw [e1]; exact h
        clear hrec' hY1
        gi_wp2_with (gi_at_builtin; refine wpListIn_append_run rfl (.tmp 47) (.tmp 49) 105 105 rfl (.slice av nv ac) (.slice (some ⟨V.heap.size, 0, none⟩) 1 1) (.slice av' (nv + 1) ac') W2 rfl rfl HR.out ?_)
        exact HF.out
end Go.Proofs.Ytpccdhoaicabcaa
