import Derived.Test.YtlnmlbkeemahcaaGreatRo
namespace Go.Proofs.YtlnmlbkeemahcaaGreat
open Go.RowKit
set_option linter.unusedVariables false
set_option maxRecDepth 6000
theorem Row.lt {α : Type} {E : Elem α} {w : World} {lo : Nat} {u : Value} {xs : List α} (h : Row E w lo u xs) (k : Nat) (e : u.ownBlock = some k) : k < w.heap.size := by
 rcases h.own.2 with ⟨h2, _⟩ | ⟨gg, cap, cur, h2, _, h3, _⟩
 ·
  rw [h2] at e; cases e
 ·
  rw [h2] at e; cases e; exact (Array.getElem?_eq_some_iff.1 h3).1
theorem row_app {α : Type} {E : Elem α} {w : World} {lo : Nat} {u : Value} {l : List α} {x : α} (t : TypeId) (i : TypeInfo) (z : Value) (bytes : Nat) (ht : Tryz.prog.underlying t = some (.slice E.ety)) (hi : Tryz.prog.info? E.ety = some i) (hz : i.zero = some z)
  (hs : i.size = E.k) (hb : i.bytes = bytes) (hzs : z.cells.size = E.k) (hby : bytes ≤ 1000) (hRow : Row E w lo u l) (hok : E.Ok w x) (hbl : ∀ k ∈ E.bl x, lo ≤ k ∧ k < w.heap.size ∧ u.ownBlock ≠ some k) (hlo : lo ≤ w.heap.size) (h1 : ∀ v ∈ E.vs x, v.oneCell' = true) (hl : l.length < 256) :
  ∃ v' W', (∀ ty, (Builtin.append_ #[t, t] ty #[u, .slice (some ⟨w.heap.size, 0, none⟩) 1 1]).run Tryz.prog (w.alloc (.cells (E.vs x).toArray E.ety)) = .ok v' W') ∧ Row E W' lo v' (l ++ [x]) ∧ Keeps (fun k => some k = u.ownBlock) w W' ∧ (v'.ownBlock = u.ownBlock ∨ ∃ k, v'.ownBlock = some k ∧ w.heap.size ≤ k) := by
 have hmul : (l.length + 1) * bytes ≤ 256 * 1000 := Nat.mul_le_mul (by omega) hby
 obtain ⟨v', W', happ, hown', hfr', hKa⟩ := append_new t E.ety i z E.k bytes ht hi hz hs hb hzs E.pos u l.length (l.flatMap E.vs) hRow.own (E.vs x).toArray (by simp [E.len]) (by simpa using h1) (by unfold maxLen; omega) (by omega)
 exact ⟨v', W', happ, hRow.push hok hbl hlo hown' hfr' hKa, hKa, hfr'⟩
theorem info_parts {t : TypeId} {z : Value} {n b : Nat} (h : (Tryz.prog.info? t).map (fun i => (i.zero, i.size, i.bytes)) = some (some z, n, b)) : ∃ i, Tryz.prog.info? t = some i ∧ i.zero = some z ∧ i.size = n ∧ i.bytes = b := by
 obtain ⟨i, hi, he⟩ := Option.map_eq_some_iff.1 h
 simp only [Prod.mk.injEq] at he
 exact ⟨i, hi, he.1, he.2.1, he.2.2⟩
theorem Tryz.info3 : (Tryz.prog.info? 3).map (fun i => (i.zero, i.size, i.bytes)) = some (some (.int .i64 0), 1, 8) := by kernel_rfl
theorem Tryz.info118 : (Tryz.prog.info? 118).map (fun i => (i.zero, i.size, i.bytes)) = some (some (.agg #[.int .i64 0, .int .i64 0, .int .i64 0]), 3, 24) := by kernel_rfl
theorem Tryz.info116 : (Tryz.prog.info? 116).map (fun i => (i.zero, i.size, i.bytes)) = some (some (.agg #[.int .i64 0, .int .i64 0, .int .i64 0, .int .i64 0, .slice none 0 0]), 5, 56) := by kernel_rfl
theorem Tryz.info107 : (Tryz.prog.info? 107).map (fun i => (i.zero, i.size, i.bytes)) = some (some (.agg #[.int .i64 0, .int .i64 0, .int .i64 0, .int .i64 0, .slice none 0 0]), 5, 56) := by kernel_rfl
def eInt : Elem Int := ⟨fun n => [.int .i64 n], 1, 3, fun _ => rfl, by decide, fun _ _ => True, fun _ => [], fun h _ _ => h⟩
theorem int_app {w : World} {lo : Nat} {u : Value} {l : List Int} (n : Int) (hRow : Row eInt w lo u l) (hlo : lo ≤ w.heap.size) (hl : l.length < 256) :
  ∃ v' W', (∀ ty, (Builtin.append_ #[114, 114] ty #[u, .slice (some ⟨w.heap.size, 0, none⟩) 1 1]).run Tryz.prog (w.alloc (.cells #[.int .i64 n] 3)) = .ok v' W') ∧ Row eInt W' lo v' (l ++ [n]) ∧ Keeps (fun k => some k = u.ownBlock) w W' ∧ (v'.ownBlock = u.ownBlock ∨ ∃ k, v'.ownBlock = some k ∧ w.heap.size ≤ k) := by
 obtain ⟨i0, hi, hz0, hz1, hz2⟩ := info_parts Tryz.info3
 exact row_app (E := eInt) (x := n) 114 i0 _ 8 Tryz.underlying114 hi hz0 hz1 hz2 rfl (by omega) hRow trivial (fun k hk => by cases hk) hlo (fun v hv => by simp only [eInt, List.mem_cons, List.not_mem_nil, or_false] at hv; subst hv; rfl) hl
structure Dst where
 p : Int
 q : Int
 pos : Int
deriving DecidableEq
abbrev Dst.vs (x : Dst) : List Value := [.int .i64 x.p, .int .i64 x.q, .int .i64 x.pos]
abbrev Dst.v (x : Dst) : Value := .agg #[.int .i64 x.p, .int .i64 x.q, .int .i64 x.pos]
def eDst : Elem Dst := ⟨Dst.vs, 3, 118, fun _ => rfl, by decide, fun _ _ => True, fun _ => [], fun h _ _ => h⟩
theorem dst_app {w : World} {lo : Nat} {u : Value} {l : List Dst} (n : Dst) (hRow : Row eDst w lo u l) (hlo : lo ≤ w.heap.size) (hl : l.length < 256) :
  ∃ v' W', (∀ ty, (Builtin.append_ #[105, 105] ty #[u, .slice (some ⟨w.heap.size, 0, none⟩) 1 1]).run Tryz.prog (w.alloc (.cells n.vs.toArray 118)) = .ok v' W') ∧ Row eDst W' lo v' (l ++ [n]) ∧ Keeps (fun k => some k = u.ownBlock) w W' ∧ (v'.ownBlock = u.ownBlock ∨ ∃ k, v'.ownBlock = some k ∧ w.heap.size ≤ k) := by
 obtain ⟨i0, hi, hz0, hz1, hz2⟩ := info_parts Tryz.info118
 exact row_app (E := eDst) (x := n) 105 i0 _ 24 Tryz.underlying105 hi hz0 hz1 hz2 rfl (by omega) hRow trivial (fun k hk => by cases hk) hlo (fun v hv => by simp only [eDst, List.mem_cons, List.not_mem_nil, or_false] at hv; rcases hv with rfl | rfl | rfl <;> rfl) hl
theorem Row.own_kept {α : Type} {E : Elem α} {S : Nat → Prop} {w w' : World} {lo : Nat} {u : Value} {xs : List α} (h : Row E w lo u xs) (hb : ∀ x, E.bl x = []) (hK : Keeps S w w') (hS : ∀ k, u.ownBlock = some k → ¬ S k) : Row E w' lo u xs :=
 ⟨owns_kept h.own hK hS, h.low, fun x hx => E.kept (h.ok x hx) hK fun k hk => (by rw [hb] at hk; cases hk), fun x hx k hk => (by rw [hb] at hk; cases hk)⟩
theorem Row.lower' {α : Type} {E : Elem α} {w : World} {lo lo' : Nat} {u : Value} {xs : List α} (h : Row E w lo u xs) (hl : lo' ≤ lo) : Row E w lo' u xs :=
 ⟨h.own, fun k hk => Nat.le_trans hl (h.low k hk), h.ok, fun x hx k hk => ⟨Nat.le_trans hl (h.bl x hx k hk).1, (h.bl x hx k hk).2⟩⟩
theorem eInt_bl (x : Int) : eInt.bl x = [] := rfl
theorem eDst_bl (x : Dst) : eDst.bl x = [] := rfl
structure Two (w : World) (lo : Nat) (u v : Value) (a b : List Dst) : Prop where
 ra : Row eDst w lo u a
 rb : Row eDst w lo v b
 dif : ∀ k, u.ownBlock = some k → v.ownBlock ≠ some k
theorem Two.nil (w : World) (lo : Nat) : Two w lo (.slice none 0 0) (.slice none 0 0) [] [] := ⟨Row.nil _ _, Row.nil _ _, fun k h => by cases h⟩
theorem Two.kept {S : Nat → Prop} {w w' : World} {lo : Nat} {u v : Value} {a b : List Dst} (h : Two w lo u v a b) (hK : Keeps S w w') (hS : ∀ k, S k → k < lo) : Two w' lo u v a b := ⟨h.ra.kept hK hS, h.rb.kept hK hS, h.dif⟩
theorem Two.grow {w w' : World} {lo : Nat} {u v : Value} {a b : List Dst} (h : Two w lo u v a b) (hK : KF w w') : Two w' lo u v a b := h.kept hK fun _ h => h.elim
theorem Two.swap {w : World} {lo : Nat} {u v : Value} {a b : List Dst} (h : Two w lo u v a b) : Two w lo v u b a := ⟨h.rb, h.ra, fun k h1 h2 => h.dif k h2 h1⟩
theorem Two.push {w : World} {lo : Nat} {u v : Value} {a b : List Dst} (n : Dst) (h : Two w lo u v a b) (hlo : lo ≤ w.heap.size) (hl : a.length < 256) :
  ∃ v' W', (∀ ty, (Builtin.append_ #[105, 105] ty #[u, .slice (some ⟨w.heap.size, 0, none⟩) 1 1]).run Tryz.prog (w.alloc (.cells n.vs.toArray 118)) = .ok v' W') ∧ Two W' lo v' v (a ++ [n]) b ∧ Keeps (fun k => lo ≤ k) w W' := by
 obtain ⟨v', W', h1, h2, h3, h4⟩ := dst_app n h.ra hlo hl
 refine ⟨v', W', h1, ⟨h2, h.rb.own_kept eDst_bl h3 fun k hk e => h.dif k e.symm hk, fun k hk e => ?_⟩, h3.mono fun k _ e => h.ra.low k e.symm⟩
 rcases h4 with h4 | ⟨m, h4, h5⟩
 ·
  exact h.dif k (h4 ▸ hk) e
 ·
  rw [h4] at hk; cases hk; have := h.rb.lt k e; omega
structure Ow where
 kind : Int
 idx : Int
 port : Int
deriving DecidableEq
abbrev Ow.v (x : Ow) : Value := .agg #[.int .i64 x.kind, .int .i64 x.idx, .int .i64 x.port]
abbrev Ow.vs (x : Ow) : List Value := [.int .i64 x.kind, .int .i64 x.idx, .int .i64 x.port]
structure Dl (f : Nat) (bs : Array Value) (S : Nat → Prop) (J : World → Int → List (Ow × Int) → Prop) : Prop where
 ent : ∀ args w, (callFunc f args).run Tryz.prog w = .ok (.enter f args) w
 call : ∀ w a hist o k, J w a hist → 0 ≤ a → a ≤ 1000000 → 0 ≤ k → k ≤ 1000 → Calls Tryz.prog f (#[Ow.v o, .int .i64 k] ++ bs) w fun e w' => e = .returned (.int .i64 a) ∧ J w' (a + k) (hist ++ [(o, k)]) ∧ Keeps S w w'
 kept : ∀ {w w' T a hist}, J w a hist → Keeps T w w' → (∀ k, S k → ¬ T k) → J w' a hist
variable {f : Nat} {bs : Array Value} {S : Nat → Prop} {J : World → Int → List (Ow × Int) → Prop}
theorem here_any (hD : Dl f bs S J) (w : World) (a : Int) (hist : List (Ow × Int)) (hJ : J w a hist) (h0 : 0 ≤ a) (h1 : a ≤ 1000000) :
  Calls Tryz.prog 135 #[.func (.func f) #[] bs] w fun e w' => e = .returned (.int .i64 a) ∧ J w' a (hist ++ [(⟨0, 0, 0⟩, 0)]) ∧ Keeps S w w' := by
 have hent := hD.ent
 have HC : Hid (Calls Tryz.prog f (#[Ow.v ⟨0, 0, 0⟩, .int .i64 0] ++ bs) w fun e w' => e = .returned (.int .i64 a) ∧ J w' (a + 0) (hist ++ [(⟨0, 0, 0⟩, 0)]) ∧ Keeps S w w') := hD.call w a hist ⟨0, 0, 0⟩ 0 hJ h0 h1 (by omega) (by omega)
 rw [Int.add_zero] at HC
 clear hJ hD
 go_enter Tryz.func135, Tryz.ntmps135
 go_wp2_with fail
 refine HC.out.mono ?_
 rintro e w1 ⟨rfl, hj, hK⟩
 have HK : Hid (J w1 a (hist ++ [(⟨0, 0, 0⟩, 0)]) ∧ Keeps S w w1) := ⟨hj, hK⟩
 clear hj hK HC
 go_wp2
 go_ret
 exact ⟨rfl, HK.out.1, HK.out.2⟩
def fillN (a : Int) : Int := if a % 16 = 0 then 0 else 16 - a % 16
def fillH (a : Int) : List (Ow × Int) := if a % 16 = 0 then [(⟨0, 0, 0⟩, 0)] else [(⟨0, 0, 0⟩, 0), (⟨0, 0, 0⟩, 16 - a % 16)]
theorem fillFrame_any (hD : Dl f bs S J) (w : World) (a : Int) (hist : List (Ow × Int)) (hJ : J w a hist) (h0 : 0 ≤ a) (h1 : a ≤ 1000000) :
  Calls Tryz.prog 133 #[.func (.func f) #[] bs] w fun e w' => e = .returned (.tuple #[]) ∧ J w' (a + fillN a) (hist ++ fillH a) ∧ Keeps S w w' := by
 have hent := hD.ent
 have HD : Hid (Dl f bs S J) := hD
 have HC : Hid (Calls Tryz.prog 135 #[.func (.func f) #[] bs] w fun e w' => e = .returned (.int .i64 a) ∧ J w' a (hist ++ [(⟨0, 0, 0⟩, 0)]) ∧ Keeps S w w') := here_any hD w a hist hJ h0 h1
 clear hJ hD
 obtain ⟨r, hr⟩ : ∃ r, a % 16 = r := ⟨_, rfl⟩
 have hr1 : a.tmod 16 = r := by rw [Int.tmod_eq_emod_of_nonneg h0]; exact hr
 have HR : Hid (a % 16 = r) := hr
 have hrb : 0 ≤ r ∧ r < 16 := by omega
 go_enter Tryz.func133, Tryz.ntmps133
 go_wp2_with fail
 refine HC.out.mono ?_
 rintro e w1 ⟨rfl, hj, hK⟩
 have HK : Hid (J w1 a (hist ++ [(⟨0, 0, 0⟩, 0)]) ∧ Keeps S w w1) := ⟨hj, hK⟩
 clear hj hK HC
 by_cases hz : r = 0
 ·
  subst hz
  have HF : Hid (fillN a = 0 ∧ fillH a = [(⟨0, 0, 0⟩, 0)]) := by unfold fillN fillH; rw [HR.out]; exact ⟨rfl, rfl⟩
  go_wp2
  go_end0
  rw [HF.out.1, HF.out.2, Int.add_zero]
  exact ⟨rfl, HK.out.1, HK.out.2⟩
 ·
  have HF : Hid (fillN a = 16 - r ∧ fillH a = [(⟨0, 0, 0⟩, 0), (⟨0, 0, 0⟩, 16 - r)]) := by unfold fillN fillH; rw [HR.out, if_neg hz, if_neg hz]; exact ⟨rfl, rfl⟩
  have HC : Hid (Calls Tryz.prog f (#[Ow.v ⟨0, 0, 0⟩, .int .i64 (16 - r)] ++ bs) w1 fun e w' => e = .returned (.int .i64 a) ∧ J w' (a + (16 - r)) ((hist ++ [(⟨0, 0, 0⟩, 0)]) ++ [(⟨0, 0, 0⟩, 16 - r)]) ∧ Keeps S w1 w') := HD.out.call w1 a _ ⟨0, 0, 0⟩ (16 - r) HK.out.1 h0 h1 (by omega) (by omega)
  have q1 : IntKind.i64.wrap (16 - r) = 16 - r := by rw [IntKind.wrap_i64]; omega
  have q2 : decide (0 < r) = true := by simp; omega
  clear hr
  go_wp2_with fail
  refine HC.out.mono ?_
  rintro e w2 ⟨rfl, hj, hK⟩
  rw [List.append_assoc] at hj
  have HK2 : Hid (J w2 (a + (16 - r)) (hist ++ ([(⟨0, 0, 0⟩, 0)] ++ [(⟨0, 0, 0⟩, 16 - r)])) ∧ Keeps S w w2) := ⟨hj, HK.out.2.trans hK fun _ _ h => h⟩
  clear hj hK HC
  go_wp2
  go_end0
  rw [HF.out.1, HF.out.2]
  exact ⟨rfl, HK2.out.1, HK2.out.2⟩
theorem set5 {w : World} {C : Nat} {a0 a1 a2 a3 a4 : Value} {t : TypeId} (hB : Blk w C [a0, a1, a2, a3, a4] t) (v0 v1 v2 v3 v4 : Value) :
  Blk (((((w.setCell ⟨C, 0, none⟩ v0).setCell ⟨C, 1, none⟩ v1).setCell ⟨C, 2, none⟩ v2).setCell ⟨C, 3, none⟩ v3).setCell ⟨C, 4, none⟩ v4) C [v0, v1, v2, v3, v4] t ∧
  Keeps (fun k => k = C) w (((((w.setCell ⟨C, 0, none⟩ v0).setCell ⟨C, 1, none⟩ v1).setCell ⟨C, 2, none⟩ v2).setCell ⟨C, 3, none⟩ v3).setCell ⟨C, 4, none⟩ v4) := by
 have b1 := hB.setCell 0 v0
 have b2 := b1.setCell 1 v1
 have b3 := b2.setCell 2 v2
 have b4 := b3.setCell 3 v3
 have b5 := b4.setCell 4 v4
 have k0 := Keeps.refl (fun k => k = C) w
 have k1 := k0.setCell ⟨C, 0, none⟩ v0 fun _ => rfl
 have k2 := k1.setCell ⟨C, 1, none⟩ v1 fun _ => rfl
 have k3 := k2.setCell ⟨C, 2, none⟩ v2 fun _ => rfl
 have k4 := k3.setCell ⟨C, 3, none⟩ v3 fun _ => rfl
 have k5 := k4.setCell ⟨C, 4, none⟩ v4 fun _ => rfl
 exact ⟨b5, k5⟩
theorem layPartition_any (hD : Dl f bs S J) (p : Nat) (w : World) (a : Int) (hist : List (Ow × Int)) (hJ : J w a hist) (hS : ∀ k, S k → k < w.heap.size) (h0 : 0 ≤ a) (h1 : a ≤ 900000) :
  Calls Tryz.prog 131 #[.int .i64 p, .func (.func f) #[] bs] w fun e w' => e = .returned (.agg #[.int .i64 a, .int .i64 (a + 2), .int .i64 (a + 2 + 17), .int .i64 0, .slice none 0 0]) ∧
   J w' (a + 2 + 17 + 5) (hist ++ [(⟨3, p, 0⟩, 2), (⟨4, p, 0⟩, 17), (⟨5, p, 0⟩, 5)]) ∧ Keeps S w w' := by
 have hent := hD.ent
 have HD : Hid (Dl f bs S J) := hD
 obtain ⟨W, hW⟩ : ∃ W, W = w.alloc (.cells #[.int .i64 0, .int .i64 0, .int .i64 0, .int .i64 0, .slice none 0 0] 116) := ⟨_, rfl⟩
 obtain ⟨C, hC⟩ : ∃ C, C = w.heap.size := ⟨_, rfl⟩
 have HW : Hid (KF w W ∧ Blk W C [.int .i64 0, .int .i64 0, .int .i64 0, .int .i64 0, .slice none 0 0] 116 ∧ w.heap.size ≤ C ∧ ¬ S C) := by rw [hW, hC]; exact ⟨(Keeps.refl _ _).alloc _, Blk.new _ _ _, Nat.le_refl _, fun h => by have := hS _ h; omega⟩
 have HC : Hid (Calls Tryz.prog f (#[Ow.v ⟨3, p, 0⟩, .int .i64 2] ++ bs) W fun e w' => e = .returned (.int .i64 a) ∧ J w' (a + 2) (hist ++ [(⟨3, p, 0⟩, 2)]) ∧ Keeps S W w') := hD.call W a _ ⟨3, p, 0⟩ 2 (hD.kept hJ HW.out.1 fun _ _ h => h) h0 (by omega) (by omega) (by omega)
 clear hJ hD hS
 go_enter Tryz.func131, Tryz.ntmps131
 go_wp2_with fail
 rw [← hW, ← hC]
 clear hW hC
 refine HC.out.mono ?_
 rintro e w1 ⟨rfl, hj, hK⟩
 have HK : Hid (J w1 (a + 2) (hist ++ [(⟨3, p, 0⟩, 2)]) ∧ Keeps S W w1) := ⟨hj, hK⟩
 clear hj hK HC
 have HC : Hid (Calls Tryz.prog f (#[Ow.v ⟨4, p, 0⟩, .int .i64 17] ++ bs) w1 fun e w' => e = .returned (.int .i64 (a + 2)) ∧ J w' (a + 2 + 17) ((hist ++ [(⟨3, p, 0⟩, 2)]) ++ [(⟨4, p, 0⟩, 17)]) ∧ Keeps S w1 w') := HD.out.call w1 _ _ ⟨4, p, 0⟩ 17 HK.out.1 (by omega) (by omega) (by omega) (by omega)
 go_wp2_with fail
 refine HC.out.mono ?_
 rintro e w2 ⟨rfl, hj, hK⟩
 have HK2 : Hid (J w2 (a + 2 + 17) ((hist ++ [(⟨3, p, 0⟩, 2)]) ++ [(⟨4, p, 0⟩, 17)]) ∧ Keeps S W w2) := ⟨hj, HK.out.2.trans hK fun _ _ h => h⟩
 clear hj hK HC
 have HC : Hid (Calls Tryz.prog f (#[Ow.v ⟨5, p, 0⟩, .int .i64 5] ++ bs) w2 fun e w' => e = .returned (.int .i64 (a + 2 + 17)) ∧ J w' (a + 2 + 17 + 5) (((hist ++ [(⟨3, p, 0⟩, 2)]) ++ [(⟨4, p, 0⟩, 17)]) ++ [(⟨5, p, 0⟩, 5)]) ∧ Keeps S w2 w') := HD.out.call w2 _ _ ⟨5, p, 0⟩ 5 HK2.out.1 (by omega) (by omega) (by omega) (by omega)
 go_wp2_with fail
 refine HC.out.mono ?_
 rintro e w3 ⟨rfl, hj, hK⟩
 rw [List.append_assoc, List.append_assoc] at hj
 have HK3 : Hid (J w3 (a + 2 + 17 + 5) (hist ++ [(⟨3, p, 0⟩, 2), (⟨4, p, 0⟩, 17), (⟨5, p, 0⟩, 5)]) ∧ Keeps S W w3) := ⟨hj, HK2.out.2.trans hK fun _ _ h => h⟩
 have HB : Hid (Blk w3 C [.int .i64 0, .int .i64 0, .int .i64 0, .int .i64 0, .slice none 0 0] 116) := HW.out.2.1.kept HK3.out.2 HW.out.2.2.2
 have c0 := HB.out.cell (i := 0) rfl
 have c1 := HB.out.cell (i := 1) rfl
 have c2 := HB.out.cell (i := 2) rfl
 have c3 := HB.out.cell (i := 3) rfl
 have c4 := HB.out.cell (i := 4) rfl
 have f0 := HB.out.frozen 0
 have f1 := HB.out.frozen 1
 have f2 := HB.out.frozen 2
 have f3 := HB.out.frozen 3
 have f4 := HB.out.frozen 4
 clear hj hK HC
 go_wp2
 obtain ⟨W4, hW4⟩ : ∃ W4, W4 = (((((w3.setCell ⟨C, 0, none⟩ (.int .i64 a)).setCell ⟨C, 1, none⟩ (.int .i64 (a + 2))).setCell ⟨C, 2, none⟩ (.int .i64 (a + 2 + 17))).setCell ⟨C, 3, none⟩ (.int .i64 0)).setCell ⟨C, 4, none⟩ (.slice none 0 0)) := ⟨_, rfl⟩
 rw [← hW4]
 obtain ⟨hB, hK4⟩ := set5 HB.out (.int .i64 a) (.int .i64 (a + 2)) (.int .i64 (a + 2 + 17)) (.int .i64 0) (.slice none 0 0)
 rw [← hW4] at hB hK4
 (try simp only [Exit.inBlock, Exit.then])
 refine bodyPost_ret (results_cell_row rfl _ _ C 116 _ (0, 0) _ rfl hB Tryz.underlying116 rfl (by kernel_rfl)) rfl ?_
 refine ⟨rfl, HD.out.kept HK3.out.1 hK4 fun k hk e => HW.out.2.2.2 (e ▸ hk), ?_⟩
 exact ((HW.out.1.mono fun _ _ h => h.elim).trans HK3.out.2 fun _ _ h => h).trans hK4 fun b hb e => absurd hb (by have := HW.out.2.2.1; omega)
end Go.Proofs.YtlnmlbkeemahcaaGreat
namespace Go.Proofs.YtlnmlbkeemahcaaGreat
open Go.RowKit
set_option linter.unusedVariables false
set_option maxRecDepth 6000
def Rgn.inB (r : Rgn) : Bool := decide (0 ≤ r.page) && decide (1 ≤ r.pages) && decide (r.pages ≤ 256) && decide (r.page ≤ 256 - r.pages)
theorem Rgn.inB_iff {r : Rgn} : r.inB = true ↔ (0 ≤ r.page ∧ 1 ≤ r.pages ∧ r.pages ≤ 256 ∧ r.page ≤ 256 - r.pages) := by unfold Rgn.inB; simp [and_assoc]
def Rgn.hit (t : Nat) (r : Rgn) : Bool := decide (r.page < 16 * t + 16) && decide ((16 * t : Int) < r.page + r.pages)
def hasT (rs : List Rgn) (t : Nat) : Bool := rs.any (Rgn.hit t)
theorem hasT_next {l : List Rgn} {j t : Nat} {y : Rgn} (hy : l[j]? = some y) (h : hasT (l.take j) t = false) (hh : Rgn.hit t y = false) : hasT (l.take (j + 1)) t = false := by
 unfold hasT at *
 rw [List.take_add_one, hy]
 simp [List.any_append, h, hh]
set_option maxHeartbeats 1000000 in
theorem hasTable_any (a : Option Addr) (c : Nat) (l : List Rgn) (t : Nat) (w : World) (h1 : SegA Rgn.vs 4 w a l) (hl1 : l.length ≤ c ∧ c ≤ maxLen) (hall : ∀ r ∈ l, r.inB = true) (ht : t < 16) :
  Calls Tryz.prog 143 #[.slice a l.length c, .int .i64 t] w fun e w' => e = .returned (.bool (hasT l t)) ∧ KF w w' := by
 obtain ⟨L, hL⟩ : ∃ L, l.length = L := ⟨_, rfl⟩
 have HS : Hid (SegA Rgn.vs 4 w a l ∧ l.length = L ∧ ∀ r ∈ l, r.inB = true) := ⟨h1, hL, hall⟩
 rw [hL] at hl1 ⊢
 have hc1 : (L : Int) ≤ c := by omega
 have hc3 : (c : Int) ≤ 9223372036854775807 := by unfold maxLen at hl1; omega
 clear h1 hL hl1 hall
 obtain ⟨T, hT⟩ : ∃ T : Int, (t : Int) * 16 = T := ⟨_, rfl⟩
 have q0 : IntKind.i64.wrap ((t : Int) * 16) = T := by rw [IntKind.wrap_i64]; omega
 have q1 : IntKind.i64.wrap (T + 16) = T + 16 := by rw [IntKind.wrap_i64]; omega
 have HT : Hid ((t : Int) * 16 = T ∧ 0 ≤ T ∧ T ≤ 240) := ⟨hT, by omega, by omega⟩
 clear hT
 go_enter Tryz.func143, Tryz.ntmps143
 go_wp2
 go_loopw [12] (fun i wr => ∃ j : Nat, j ≤ L ∧ i = .int .i64 j ∧ hasT (l.take j) t = false ∧ KF w wr) (fun i _ => L - (intOf i).toNat)
 case atStart => exact ⟨0, by omega, rfl, rfl, Keeps.refl _ _⟩
 case round =>
  obtain ⟨j, hj, rfl, hno, hK⟩ := hrel
  by_cases hlt : j < L
  ·
   obtain ⟨y, hy⟩ : ∃ y, l[j]? = some y := ⟨_, List.getElem?_eq_getElem (by have := HS.out.2.1; omega)⟩
   obtain ⟨g1, o1, rfl, hg1⟩ := (HS.out.1.kept hK fun _ _ _ e => e).at hy
   have y0 := hg1 0 _ rfl
   rw [Nat.add_zero] at y0
   have y1 := hg1 1 _ rfl
   have y2 := hg1 2 _ rfl
   have y3 := hg1 3 _ rfl
   have hin := Rgn.inB_iff.1 (HS.out.2.2 y (List.mem_of_getElem? hy))
   have HK : Hid (KF w wr ∧ hasT (l.take j) t = false ∧ l[j]? = some y) := ⟨hK, hno, hy⟩
   clear hy hg1 hK hno
   have hTT := HT.out
   by_cases c1 : y.page < T + 16
   ·
    by_cases c2 : T < y.page + y.pages
    ·
     have HY : Hid (hasT l t = true) := List.any_eq_true.2 ⟨y, List.mem_of_getElem? HK.out.2.2, by unfold Rgn.hit; simp; omega⟩
     obtain ⟨p, u, s, r⟩ := y
     dsimp only at hin c1 c2
     have e1 : decide (p < T + 16) = true := by simp [c1]
     have q2 : IntKind.i64.wrap (p + u) = p + u := by rw [IntKind.wrap_i64]; omega
     have e2 : decide (T < p + u) = true := by simp [c2]
     clear hin hTT
     go_wp2
     go_ret
     exact ⟨by rw [HY.out]; rfl, HK.out.1.alloc _⟩
    ·
     have HY : Hid (Rgn.hit t y = false) := by show _ = _; unfold Rgn.hit; simp; omega
     obtain ⟨p, u, s, r⟩ := y
     dsimp only at hin c1 c2
     have e1 : decide (p < T + 16) = true := by simp [c1]
     have q2 : IntKind.i64.wrap (p + u) = p + u := by rw [IntKind.wrap_i64]; omega
     have e2 : decide (T < p + u) = false := by simp [c2]
     clear hin hTT
     go_wp2
     go_roundw
     case rel => exact ⟨j + 1, by omega, by go_num, hasT_next HK.out.2.2 HK.out.2.1 HY.out, HK.out.1.alloc _⟩
     case measure => simp [intOf]; omega
   ·
    have HY : Hid (Rgn.hit t y = false) := by show _ = _; unfold Rgn.hit; simp; omega
    obtain ⟨p, u, s, r⟩ := y
    dsimp only at hin c1
    have e1 : decide (p < T + 16) = false := by simp [c1]
    clear hin hTT
    go_wp2
    go_roundw
    case rel => exact ⟨j + 1, by omega, by go_num, hasT_next HK.out.2.2 HK.out.2.1 HY.out, HK.out.1.alloc _⟩
    case measure => simp [intOf]; omega
  ·
   obtain rfl : j = L := by omega
   have HK : Hid (KF w wr ∧ hasT l t = false) := by
    rw [List.take_of_length_le (by have := HS.out.2.1; omega)] at hno
    exact ⟨hK, hno⟩
   clear hK hno
   go_wp2
   go_ret
   exact ⟨by rw [HK.out.2]; rfl, HK.out.1⟩
end Go.Proofs.YtlnmlbkeemahcaaGreat
