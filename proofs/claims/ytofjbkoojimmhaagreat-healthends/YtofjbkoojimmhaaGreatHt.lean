import Derived.Test.YtofjbkoojimmhaaGreatHn
import Derived.Test.YtofjbkoojimmhaaGreatCn
import Derived.Deep.MidRow
namespace Go.Proofs.YtofjbkoojimmhaaGreat
open Go.RowKit Go.Shelf
open Mq
set_option linter.unusedVariables false
set_option maxRecDepth 6000
set_option linter.unusedSimpArgs false
structure Opr where
 k : Int
 p : Int
 num : Int
 word : UInt32
 x : List UInt32
 nl : Bool
 oth : Bool
def Opr.vs (o : Opr) : List Value := [.int .i64 o.k, .int .i64 o.p, .int .i64 o.num, .int .u32 (o.word.toNat : Int)] ++ wvs o.x ++ [.bool o.nl, .bool o.oth]
def Opr.v (o : Opr) : Value := .agg o.vs.toArray
def Near (xs xs' : List UInt32) (a n : Nat) : Prop := xs'.length = xs.length ∧ ∀ i : Nat, ¬ (a ≤ i ∧ i < a + n) → xs'[i]? = xs[i]?
theorem Near.refl (xs : List UInt32) (a n : Nat) : Near xs xs a n := ⟨rfl, fun _ _ => rfl⟩
theorem Near.lay {xs ys : List UInt32} {a n : Nat} (h : Near xs ys a n) (p : Nat) (ws : List UInt32) (hf : p + ws.length ≤ ys.length) (h1 : a ≤ p) (h2 : p + ws.length ≤ a + n) : Near xs (lay ys p ws) a n :=
 ⟨by rw [lay_length _ _ _ hf]; exact h.1, fun i hi => by
  rw [lay_at ys p ws hf]
  split
  ·
   exact h.2 i hi
  ·
   split
   ·
    exact absurd ⟨by omega, by omega⟩ hi
   ·
    exact h.2 i hi⟩
structure Plyd (c : Cns) (o : Opr) (xs xs' : List UInt32) (z z' : Sta) (dn : Int) : Prop where
 dn : (dn = 0 ∧ z'.r = z.r) ∨ (dn = c.act ∧ ¬ c.act = 0 ∧ (z'.r.toNat : Int) = z.r.toNat + 1 ∧ (z.r.toNat : Int) < c.d.rs)
 st : 2 ≤ o.k → o.k ≤ 5 → Near xs xs' c.d.st 5
 sv : o.k = 6 → Near xs xs' c.d.sv 17
 no : ¬ (2 ≤ o.k ∧ o.k ≤ 6) → xs' = xs
def PlyP (c : Cns) (o : Opr) (xs : List UInt32) (z : Sta) (w : World) (e : Ending) (w' : World) : Prop :=
 ∃ dn xs' z' v', e = .returned (.tuple #[.int .i64 dn, .bool true]) ∧ Hw w' c xs' z' v' ∧ Keeps (· = c.g) w w' ∧ Plyd c o xs xs' z z' dn
def trS (c : Cns) (z : Sta) : UInt32 := if c.act = 0 ∨ c.d.rs ≤ (z.r.toNat : Int) then 3 else 2
theorem trap_any (c : Cns) (xs : List UInt32) (z : Sta) (v : List UInt32) (w : World) (h : Hw w c xs z v) (T Q : UInt32) (tn : Int) (hT : tn = (T.toNat : Int)) (h1 : 1 ≤ tn) (h6 : tn ≤ 6) : Calls Tryz.prog 10 #[.pointer (some ⟨c.W, 0, none⟩), .pointer (some ⟨c.b, 0, none⟩), .int .i64 c.p, .int .i64 tn, .int .u32 (Q.toNat : Int)] w fun e w' => Left c w e (.tuple #[.bool (decide (trS c z = 3)), .int .i64 0]) (lay (lay xs (c.d.st + 2) [T, Q]) (c.d.st + 0) [trS c z]) { s := trS c z, r := z.r, t := T, q := Q, o := z.o } v w' := by
 by_cases ha : c.act = 0
 ·
  have e : trS c z = 3 := if_pos (.inl ha)
  rw [e]
  exact trap_halt c xs z v w h T Q tn hT h1 h6 ha
 ·
  by_cases hr : c.d.rs ≤ (z.r.toNat : Int)
  ·
   have e : trS c z = 3 := if_pos (.inr hr)
   rw [e]
   exact trap_full c xs z v w h T Q tn hT h1 h6 ha hr
  ·
   have e : trS c z = 2 := if_neg (fun h => h.elim ha hr)
   rw [e]
   exact trap_on c xs z v w h T Q tn hT h1 h6 ha (by omega)
def LdP (c : Cns) (xs : List UInt32) (z : Sta) (v : List UInt32) (w : World) (e : Ending) (w' : World) : Prop :=
 ((z.s.toNat : Int) = 2 ∧ ∃ R : UInt32, (R.toNat : Int) = z.r.toNat + 1 ∧ Left c w e (.tuple #[cxv (ent c.d.en), .int .i64 c.act, .int .i64 0]) (lay xs (c.d.st + 0) [0, R]) { z with s := 0, r := R } v w') ∨
 ((z.s.toNat : Int) = 1 ∧ Left c w e (.tuple #[cxv v, .int .i64 0, .int .i64 0]) (lay xs (c.d.st + 0) [0]) { z with s := 0 } v w') ∨
 (¬ (z.s.toNat : Int) = 1 ∧ ¬ (z.s.toNat : Int) = 2 ∧ Left c w e (.tuple #[cxv v, .int .i64 0, .int .i64 0]) xs z v w')
theorem load_any (c : Cns) (xs : List UInt32) (z : Sta) (v : List UInt32) (w : World) (h : Hw w c xs z v) : Calls Tryz.prog 11 #[.pointer (some ⟨c.W, 0, none⟩), .pointer (some ⟨c.b, 0, none⟩), .int .i64 c.p] w (LdP c xs z v w) := by
 by_cases h2 : (z.s.toNat : Int) = 2
 ·
  have hr := (h.ok.two h2).2
  have hb := h.rb
  have hR : (((UInt32.ofNat (z.r.toNat + 1)).toNat : Nat) : Int) = z.r.toNat + 1 := by rw [UInt32.toNat_ofNat']; omega
  exact (load_on c xs z v w h h2 _ hR).mono fun e w' hl => .inl ⟨h2, _, hR, hl⟩
 ·
  by_cases h1 : (z.s.toNat : Int) = 1
  ·
   exact (load_yl c xs z v w h h1).mono fun e w' hl => .inr (.inl ⟨h1, hl⟩)
  ·
   exact (load_st c xs z v w h h1 h2).mono fun e w' hl => .inr (.inr ⟨h1, h2, hl⟩)
theorem wvs_at (xs : List UInt32) (i : Nat) : (wvs xs)[i]? = (xs[i]?).map fun x => Value.int .u32 (x.toNat : Int) := by simp [wvs]
set_option maxHeartbeats 1000000 in
theorem play_status (c : Cns) (xs : List UInt32) (z : Sta) (v : List UInt32) (w : World) (h : Hw w c xs z v) (o : Opr) (hx : o.x.length = 17) (hk : ¬ (2 ≤ o.k ∧ o.k ≤ 6)) : Calls Tryz.prog 8 #[.pointer (some ⟨c.W, 0, none⟩), .pointer (some ⟨c.b, 0, none⟩), .int .i64 c.p, o.v] w (PlyP c o xs z w) := by
 obtain ⟨D, hD⟩ : ∃ D, D = w.heap.size := ⟨_, rfl⟩
 obtain ⟨W, hW⟩ : ∃ W, W = w.alloc (.cells o.vs.toArray 43) := ⟨_, rfl⟩
 have hK0 : Keeps (fun _ => False) w W := by rw [hW]; exact (Keeps.refl _ w).alloc _
 have hB : Blk W D o.vs 43 := by rw [hW, hD]; exact Blk.new w _ 43
 have c0 := hB.cell (i := 0) rfl
 have H0 : Hid (Hw W c xs z v ∧ Keeps (fun _ => False) w W ∧ Blk W D o.vs 43 ∧ o.x.length = 17) := ⟨h.kept hK0, hK0, hB, hx⟩
 unfold Opr.v
 have g2 : (o.k == 2) = false := by simp; omega
 have g3 : (o.k == 3) = false := by simp; omega
 have g4 : (o.k == 4) = false := by simp; omega
 have g5 : (o.k == 5) = false := by simp; omega
 have g6 : (o.k == 6) = false := by simp; omega
 clear h hK0 hB hx
 go_enter Tryz.func8, Tryz.ntmps8
 go_upto_region 3 with fail
 rw [← hW, ← hD]
 clear hW hD
 have HK : Hid (¬ (2 ≤ o.k ∧ o.k ≤ 6)) := hk
 clear hk
 have HC : Hid (Calls _ _ _ W _) := stat_any c xs z v W H0.out.1
 go_wp2_with fail
 refine HC.out.mono ?_
 rintro e w1 ⟨rfl, hh, hK⟩
 have H1 : Hid (Hw w1 c xs z v ∧ Keeps (· = c.g) w w1) := ⟨hh, (H0.out.2.1.mono fun _ _ h => h.elim).trans hK fun _ _ h => h⟩
 clear hh hK HC c0 g2 g3 g4 g5 g6
 go_wp2
 go_ret2
 exact ⟨0, xs, z, v, rfl, H1.out.1, H1.out.2, .inl ⟨rfl, rfl⟩, fun a b => absurd ⟨a, by omega⟩ HK.out, fun a => absurd ⟨by omega, by omega⟩ HK.out, fun _ => rfl⟩
set_option maxHeartbeats 1000000 in
theorem play_yield (c : Cns) (xs : List UInt32) (z : Sta) (v : List UInt32) (w : World) (h : Hw w c xs z v) (o : Opr) (hx : o.x.length = 17) (hk : o.k = 3) : Calls Tryz.prog 8 #[.pointer (some ⟨c.W, 0, none⟩), .pointer (some ⟨c.b, 0, none⟩), .int .i64 c.p, o.v] w (PlyP c o xs z w) := by
 obtain ⟨D, hD⟩ : ∃ D, D = w.heap.size := ⟨_, rfl⟩
 obtain ⟨W, hW⟩ : ∃ W, W = w.alloc (.cells o.vs.toArray 43) := ⟨_, rfl⟩
 have hK0 : Keeps (fun _ => False) w W := by rw [hW]; exact (Keeps.refl _ w).alloc _
 have hB : Blk W D o.vs 43 := by rw [hW, hD]; exact Blk.new w _ 43
 have c0 := hB.cell (i := 0) rfl
 have H0 : Hid (Hw W c xs z v ∧ Keeps (fun _ => False) w W ∧ Blk W D o.vs 43 ∧ o.x.length = 17) := ⟨h.kept hK0, hK0, hB, hx⟩
 unfold Opr.v
 clear h hK0 hB hx
 go_enter Tryz.func8, Tryz.ntmps8
 go_upto_region 3 with fail
 rw [← hW, ← hD]
 clear hW hD
 rw [hk] at c0
 have HK : Hid (o.k = 3) := hk
 clear hk
 have HC : Hid (Calls _ _ _ W _) := yield_any c xs z v W H0.out.1 ⟨show ((1 : UInt32).toNat : Int) ≤ 3 by decide, H0.out.1.ok.r, H0.out.1.ok.t, H0.out.1.ok.q, H0.out.1.ok.o, fun e => absurd e (show ¬ ((1 : UInt32).toNat : Int) = 2 by decide)⟩
 go_wp2_with fail
 refine HC.out.mono ?_
 rintro e w1 ⟨rfl, hh, hK⟩
 have H1 : Hid (Hw w1 c (lay xs (c.d.st + 0) [1]) { z with s := 1 } v ∧ Keeps (· = c.g) w w1) := ⟨hh, (H0.out.2.1.mono fun _ _ h => h.elim).trans hK fun _ _ h => h⟩
 clear hh hK HC c0
 go_wp2
 go_ret2
 exact ⟨0, _, _, v, rfl, H1.out.1, H1.out.2, .inl ⟨rfl, rfl⟩, fun _ _ => (Near.refl _ _ _).lay _ _ (by have := H0.out.1.hi; simp; omega) (by omega) (by simp), fun a => absurd a (by have := HK.out; omega), fun a => absurd ⟨by have := HK.out; omega, by have := HK.out; omega⟩ a⟩
set_option maxHeartbeats 1000000 in
theorem play_stop (c : Cns) (xs : List UInt32) (z : Sta) (v : List UInt32) (w : World) (h : Hw w c xs z v) (o : Opr) (hx : o.x.length = 17) (hk : o.k = 4) : Calls Tryz.prog 8 #[.pointer (some ⟨c.W, 0, none⟩), .pointer (some ⟨c.b, 0, none⟩), .int .i64 c.p, o.v] w (PlyP c o xs z w) := by
 obtain ⟨D, hD⟩ : ∃ D, D = w.heap.size := ⟨_, rfl⟩
 obtain ⟨W, hW⟩ : ∃ W, W = w.alloc (.cells o.vs.toArray 43) := ⟨_, rfl⟩
 have hK0 : Keeps (fun _ => False) w W := by rw [hW]; exact (Keeps.refl _ w).alloc _
 have hB : Blk W D o.vs 43 := by rw [hW, hD]; exact Blk.new w _ 43
 have c0 := hB.cell (i := 0) rfl
 have H0 : Hid (Hw W c xs z v ∧ Keeps (fun _ => False) w W ∧ Blk W D o.vs 43 ∧ o.x.length = 17) := ⟨h.kept hK0, hK0, hB, hx⟩
 unfold Opr.v
 clear h hK0 hB hx
 go_enter Tryz.func8, Tryz.ntmps8
 go_upto_region 3 with fail
 rw [← hW, ← hD]
 clear hW hD
 rw [hk] at c0
 have HK : Hid (o.k = 4) := hk
 clear hk
 have HC : Hid (Calls _ _ _ W _) := stop_any c xs z v W H0.out.1 ⟨show ((3 : UInt32).toNat : Int) ≤ 3 by decide, H0.out.1.ok.r, H0.out.1.ok.t, H0.out.1.ok.q, H0.out.1.ok.o, fun e => absurd e (show ¬ ((3 : UInt32).toNat : Int) = 2 by decide)⟩
 go_wp2_with fail
 refine HC.out.mono ?_
 rintro e w1 ⟨rfl, hh, hK⟩
 have H1 : Hid (Hw w1 c (lay xs (c.d.st + 0) [3]) { z with s := 3 } v ∧ Keeps (· = c.g) w w1) := ⟨hh, (H0.out.2.1.mono fun _ _ h => h.elim).trans hK fun _ _ h => h⟩
 clear hh hK HC c0
 go_wp2
 go_ret2
 exact ⟨0, _, _, v, rfl, H1.out.1, H1.out.2, .inl ⟨rfl, rfl⟩, fun _ _ => (Near.refl _ _ _).lay _ _ (by have := H0.out.1.hi; simp; omega) (by omega) (by simp), fun a => absurd a (by have := HK.out; omega), fun a => absurd ⟨by have := HK.out; omega, by have := HK.out; omega⟩ a⟩
set_option maxHeartbeats 1000000 in
theorem play_load (c : Cns) (xs : List UInt32) (z : Sta) (v : List UInt32) (w : World) (h : Hw w c xs z v) (o : Opr) (hx : o.x.length = 17) (hk : o.k = 5) : Calls Tryz.prog 8 #[.pointer (some ⟨c.W, 0, none⟩), .pointer (some ⟨c.b, 0, none⟩), .int .i64 c.p, o.v] w (PlyP c o xs z w) := by
 obtain ⟨D, hD⟩ : ∃ D, D = w.heap.size := ⟨_, rfl⟩
 obtain ⟨W, hW⟩ : ∃ W, W = w.alloc (.cells o.vs.toArray 43) := ⟨_, rfl⟩
 have hK0 : Keeps (fun _ => False) w W := by rw [hW]; exact (Keeps.refl _ w).alloc _
 have hB : Blk W D o.vs 43 := by rw [hW, hD]; exact Blk.new w _ 43
 have c0 := hB.cell (i := 0) rfl
 have H0 : Hid (Hw W c xs z v ∧ Keeps (fun _ => False) w W ∧ Blk W D o.vs 43 ∧ o.x.length = 17) := ⟨h.kept hK0, hK0, hB, hx⟩
 unfold Opr.v
 clear h hK0 hB hx
 go_enter Tryz.func8, Tryz.ntmps8
 go_upto_region 3 with fail
 rw [← hW, ← hD]
 clear hW hD
 rw [hk] at c0
 have HK : Hid (o.k = 5) := hk
 clear hk
 have HC : Hid (Calls _ _ _ W _) := load_any c xs z v W H0.out.1
 go_wp2_with fail
 refine HC.out.mono ?_
 rintro e w1 (⟨h2, R, hR, rfl, hh, hK⟩ | ⟨h1, rfl, hh, hK⟩ | ⟨h1, h2, rfl, hh, hK⟩)
 ·
  have H1 : Hid (Hw w1 c (lay xs (c.d.st + 0) [0, R]) { z with s := 0, r := R } v ∧ Keeps (· = c.g) w w1 ∧ (R.toNat : Int) = z.r.toNat + 1 ∧ (¬ c.act = 0 ∧ (z.r.toNat : Int) < c.d.rs)) := ⟨hh, (H0.out.2.1.mono fun _ _ h => h.elim).trans hK fun _ _ h => h, hR, H0.out.1.ok.two h2⟩
  clear hh hK HC c0 h2 hR
  unfold cxv
  go_wp2
  go_ret2
  exact ⟨c.act, _, _, v, rfl, H1.out.1, H1.out.2.1, .inr ⟨rfl, H1.out.2.2.2.1, H1.out.2.2.1, H1.out.2.2.2.2⟩, fun _ _ => (Near.refl _ _ _).lay _ _ (by have := H0.out.1.hi; simp; omega) (by omega) (by simp), fun a => absurd a (by have := HK.out; omega), fun a => absurd ⟨by have := HK.out; omega, by have := HK.out; omega⟩ a⟩
 ·
  have H1 : Hid (Hw w1 c (lay xs (c.d.st + 0) [0]) { z with s := 0 } v ∧ Keeps (· = c.g) w w1) := ⟨hh, (H0.out.2.1.mono fun _ _ h => h.elim).trans hK fun _ _ h => h⟩
  clear hh hK HC c0 h1
  unfold cxv
  go_wp2
  go_ret2
  exact ⟨0, _, _, v, rfl, H1.out.1, H1.out.2, .inl ⟨rfl, rfl⟩, fun _ _ => (Near.refl _ _ _).lay _ _ (by have := H0.out.1.hi; simp; omega) (by omega) (by simp), fun a => absurd a (by have := HK.out; omega), fun a => absurd ⟨by have := HK.out; omega, by have := HK.out; omega⟩ a⟩
 ·
  have H1 : Hid (Hw w1 c xs z v ∧ Keeps (· = c.g) w w1) := ⟨hh, (H0.out.2.1.mono fun _ _ h => h.elim).trans hK fun _ _ h => h⟩
  clear hh hK HC c0 h1 h2
  unfold cxv
  go_wp2
  go_ret2
  exact ⟨0, _, _, v, rfl, H1.out.1, H1.out.2, .inl ⟨rfl, rfl⟩, fun _ _ => Near.refl _ _ _, fun a => absurd a (by have := HK.out; omega), fun a => absurd ⟨by have := HK.out; omega, by have := HK.out; omega⟩ a⟩
set_option maxHeartbeats 1000000 in
theorem play_save (c : Cns) (xs : List UInt32) (z : Sta) (v : List UInt32) (w : World) (h : Hw w c xs z v) (o : Opr) (hx : o.x.length = 17) (hk : o.k = 6) : Calls Tryz.prog 8 #[.pointer (some ⟨c.W, 0, none⟩), .pointer (some ⟨c.b, 0, none⟩), .int .i64 c.p, o.v] w (PlyP c o xs z w) := by
 obtain ⟨D, hD⟩ : ∃ D, D = w.heap.size := ⟨_, rfl⟩
 obtain ⟨W, hW⟩ : ∃ W, W = w.alloc (.cells o.vs.toArray 43) := ⟨_, rfl⟩
 have hK0 : Keeps (fun _ => False) w W := by rw [hW]; exact (Keeps.refl _ w).alloc _
 have hB : Blk W D o.vs 43 := by rw [hW, hD]; exact Blk.new w _ 43
 have c0 := hB.cell (i := 0) rfl
 have H0 : Hid (Hw W c xs z v ∧ Keeps (fun _ => False) w W ∧ Blk W D o.vs 43 ∧ o.x.length = 17) := ⟨h.kept hK0, hK0, hB, hx⟩
 unfold Opr.v
 clear h hK0 hB hx
 go_enter Tryz.func8, Tryz.ntmps8
 go_upto_region 3 with fail
 rw [← hW, ← hD]
 clear hW hD
 rw [hk] at c0
 have HK : Hid (o.k = 6) := hk
 clear hk
 have HC : Hid (Calls Tryz.prog 12 #[.pointer (some ⟨c.W, 0, none⟩), .pointer (some ⟨c.b, 0, none⟩), .int .i64 c.p, .agg (wvs o.x).toArray] W _) := sav_any c xs z v W H0.out.1 o.x H0.out.2.2.2
 have HR : Hid (W.rangeAt D 4 (wvs o.x)) := fun j u hj => by
  refine H0.out.2.2.1.cell ?_
  have hl : j < (wvs o.x).length := (List.getElem?_eq_some_iff.1 hj).1
  unfold Opr.vs
  rw [List.getElem?_append_left (by simp; omega), List.getElem?_append_right (by simp)]
  simpa using hj
 have HS : Hid ((Tryz.prog.info? 41).map (·.size) = some (wvs o.x).length) := by
  have := H0.out.2.2.2
  rw [wvs_length, this]; exact Tryz.size41
 go_wp2_with (refine Go.wpList_load_mid rfl 41 (.tmp 67) rfl D 4 rfl (wvs o.x) _ HR.out Tryz.underlying41 rfl HS.out ?_; refine Hid.out ?_)
 unfold Hid
 go_wp2_with fail
 refine HC.out.mono ?_
 rintro e w1 ⟨rfl, hh, hK⟩
 have H1 : Hid (Hw w1 c (lay xs c.d.sv o.x) z o.x ∧ Keeps (· = c.g) w w1) := ⟨hh, (H0.out.2.1.mono fun _ _ h => h.elim).trans hK fun _ _ h => h⟩
 clear hh hK HC c0
 go_wp2
 go_ret2
 exact ⟨0, _, _, o.x, rfl, H1.out.1, H1.out.2, .inl ⟨rfl, rfl⟩, fun _ a => absurd a (by have := HK.out; omega), fun _ => (Near.refl _ _ _).lay _ _ (by have := H0.out.1.hi; have := H0.out.1.lo; have := H0.out.2.2.2; omega) (by omega) (by have := H0.out.2.2.2; omega), fun a => absurd ⟨by have := HK.out; omega, by have := HK.out; omega⟩ a⟩
set_option maxHeartbeats 1000000 in
theorem play_trap (c : Cns) (xs : List UInt32) (z : Sta) (v : List UInt32) (w : World) (h : Hw w c xs z v) (o : Opr) (hx : o.x.length = 17) (hk : o.k = 2) : Calls Tryz.prog 8 #[.pointer (some ⟨c.W, 0, none⟩), .pointer (some ⟨c.b, 0, none⟩), .int .i64 c.p, o.v] w (PlyP c o xs z w) := by
 obtain ⟨D, hD⟩ : ∃ D, D = w.heap.size := ⟨_, rfl⟩
 obtain ⟨W, hW⟩ : ∃ W, W = w.alloc (.cells o.vs.toArray 43) := ⟨_, rfl⟩
 have hK0 : Keeps (fun _ => False) w W := by rw [hW]; exact (Keeps.refl _ w).alloc _
 have hB : Blk W D o.vs 43 := by rw [hW, hD]; exact Blk.new w _ 43
 have c0 := hB.cell (i := 0) rfl
 have H0 : Hid (Hw W c xs z v ∧ Keeps (fun _ => False) w W ∧ Blk W D o.vs 43 ∧ o.x.length = 17) := ⟨h.kept hK0, hK0, hB, hx⟩
 unfold Opr.v
 clear h hK0 hB hx
 go_enter Tryz.func8, Tryz.ntmps8
 go_upto_region 3 with fail
 rw [← hW, ← hD]
 clear hW hD
 rw [hk] at c0
 have HK : Hid (o.k = 2) := hk
 clear hk
 have c2 := H0.out.2.2.1.cell (i := 2) rfl
 have c3 := H0.out.2.2.1.cell (i := 3) rfl
 obtain ⟨tn, htn, h1, h6⟩ : ∃ tn : Int, wrap64 (1 + wrap64 ((IntKind.u64.wrap o.num).tmod 6)) = tn ∧ 1 ≤ tn ∧ tn ≤ 6 := by
  obtain ⟨U, hU, h0⟩ : ∃ U : Int, IntKind.u64.wrap o.num = U ∧ 0 ≤ U := ⟨_, rfl, by rw [IntKind.wrap_u64]; omega⟩
  rw [hU, Int.tmod_eq_emod_of_nonneg h0]
  refine ⟨1 + U % 6, ?_, by omega, by omega⟩
  unfold wrap64
  omega
 have HT : Hid (tn = ((UInt32.ofNat tn.toNat).toNat : Int)) := by show tn = _; rw [UInt32.toNat_ofNat']; omega
 have HC : Hid (Calls Tryz.prog 10 #[.pointer (some ⟨c.W, 0, none⟩), .pointer (some ⟨c.b, 0, none⟩), .int .i64 c.p, .int .i64 tn, .int .u32 (o.word.toNat : Int)] W _) := trap_any c xs z v W H0.out.1 (UInt32.ofNat tn.toNat) o.word tn HT.out h1 h6
 clear h1 h6
 go_wp2_with fail
 refine HC.out.mono ?_
 rintro e w1 ⟨rfl, hh, hK⟩
 have H1 : Hid (Hw w1 c (lay (lay xs (c.d.st + 2) [UInt32.ofNat tn.toNat, o.word]) (c.d.st + 0) [trS c z]) { s := trS c z, r := z.r, t := UInt32.ofNat tn.toNat, q := o.word, o := z.o } v ∧ Keeps (· = c.g) w w1) := ⟨hh, (H0.out.2.1.mono fun _ _ h => h.elim).trans hK fun _ _ h => h⟩
 clear hh hK HC c0 c2 c3
 go_wp2
 go_ret2
 refine ⟨0, _, _, v, rfl, H1.out.1, H1.out.2, .inl ⟨rfl, rfl⟩, fun _ _ => ?_, fun a => absurd a (by have := HK.out; omega), fun a => absurd ⟨by have := HK.out; omega, by have := HK.out; omega⟩ a⟩
 have hi := H0.out.1.hi
 refine Near.lay (Near.lay (Near.refl _ _ _) _ _ (by simp; omega) (by omega) (by simp)) _ _ ?_ (by omega) (by simp)
 rw [lay_length _ _ _ (by simp; omega)]
 simp
 omega
theorem played_any (c : Cns) (xs : List UInt32) (z : Sta) (v : List UInt32) (w : World) (h : Hw w c xs z v) (o : Opr) (hx : o.x.length = 17) : Calls Tryz.prog 8 #[.pointer (some ⟨c.W, 0, none⟩), .pointer (some ⟨c.b, 0, none⟩), .int .i64 c.p, o.v] w (PlyP c o xs z w) := by
 by_cases h2 : o.k = 2
 ·
  exact play_trap c xs z v w h o hx h2
 ·
  by_cases h3 : o.k = 3
  ·
   exact play_yield c xs z v w h o hx h3
  ·
   by_cases h4 : o.k = 4
   ·
    exact play_stop c xs z v w h o hx h4
   ·
    by_cases h5 : o.k = 5
    ·
     exact play_load c xs z v w h o hx h5
    ·
     by_cases h6 : o.k = 6
     ·
      exact play_save c xs z v w h o hx h6
     ·
      exact play_status c xs z v w h o hx (by omega)
theorem Tryz.size43 : (Tryz.prog.info? 43).map (·.size) = some 23 := by kernel_rfl
theorem Opr.vs_len (o : Opr) (h : o.x.length = 17) : o.vs.length = 23 := by simp [Opr.vs, wvs_length, h]
structure OpsIn (w : World) (N : Nat) (a : Option Addr) (cp : Nat) (ops : List Opr) : Prop where
 seg : SegA Opr.vs 23 w a ops
 lo : ops ≠ [] → ∀ y, a = some y → y.block < N
 len : ops.length ≤ cp ∧ cp ≤ maxLen
 ctx : ∀ o ∈ ops, o.x.length = 17
theorem OpsIn.kept {w w' : World} {N : Nat} {a : Option Addr} {cp : Nat} {ops : List Opr} (h : OpsIn w N a cp ops) (k : Keeps (fun _ => False) w w') : OpsIn w' N a cp ops :=
 ⟨h.seg.kept k fun _ _ _ h => h, h.lo, h.len, h.ctx⟩
end Go.Proofs.YtofjbkoojimmhaaGreat
