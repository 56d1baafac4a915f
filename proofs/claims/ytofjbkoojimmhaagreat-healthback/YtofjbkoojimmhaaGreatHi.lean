import Derived.Test.YtofjbkoojimmhaaGreatHf
namespace Go.Proofs.YtofjbkoojimmhaaGreat
open Go.RowKit Go.Shelf
open Mq
set_option linter.unusedVariables false
set_option maxRecDepth 6000
set_option linter.unusedSimpArgs false
theorem lay_at (xs : List UInt32) (p : Nat) (ys : List UInt32) (h : p + ys.length ≤ xs.length) (i : Nat) : (lay xs p ys)[i]? = if i < p then xs[i]? else if i < p + ys.length then ys[i - p]? else xs[i]? := by
 unfold lay
 have hp : (xs.take p).length = p := by simp; omega
 by_cases h1 : i < p
 ·
  rw [if_pos h1, List.append_assoc, List.getElem?_append_left (by omega), List.getElem?_take, if_pos h1]
 ·
  rw [if_neg h1]
  by_cases h2 : i < p + ys.length
  ·
   rw [if_pos h2, List.getElem?_append_left (by simp; omega), List.getElem?_append_right (by omega), hp]
  ·
   rw [if_neg h2, List.getElem?_append_right (by simp; omega), List.getElem?_drop]
   congr 1
   simp
   omega
theorem win_at (xs : List UInt32) (a n i : Nat) : ((xs.drop a).take n)[i]? = if i < n then xs[a + i]? else none := by
 rw [List.getElem?_take, List.getElem?_drop]
theorem win_off (xs : List UInt32) (p : Nat) (ys : List UInt32) (h : p + ys.length ≤ xs.length) (a n : Nat) (hd : a + n ≤ p ∨ p + ys.length ≤ a) : ((lay xs p ys).drop a).take n = (xs.drop a).take n := by
 refine List.ext_getElem? fun i => ?_
 rw [win_at, win_at]
 split
 ·
  rw [lay_at xs p ys h]
  split
  ·
   rfl
  ·
   split
   ·
    omega
   ·
    rfl
 ·
  rfl
theorem win_in (xs : List UInt32) (p : Nat) (ys : List UInt32) (h : p + ys.length ≤ xs.length) (n : Nat) (hn : n = ys.length) : ((lay xs p ys).drop p).take n = ys := by
 subst hn
 refine List.ext_getElem? fun i => ?_
 rw [win_at]
 split
 ·
  rw [lay_at xs p ys h, if_neg (by omega), if_pos (by omega)]
  congr 1
  omega
 ·
  exact (List.getElem?_eq_none (by omega)).symm
theorem win_part (xs : List UInt32) (a n k : Nat) (ys zs : List UInt32) (hz : (xs.drop a).take n = zs) (h : a + n ≤ xs.length) (hk : k + ys.length ≤ n) : ((lay xs (a + k) ys).drop a).take n = zs.take k ++ ys ++ zs.drop (k + ys.length) := by
 have hl : zs.length = n := by rw [← hz]; simp; omega
 have hf : ∀ i, i < n → xs[a + i]? = zs[i]? := fun i hi => by rw [← hz, win_at, if_pos hi]
 refine List.ext_getElem? fun i => ?_
 have e : zs.take k ++ ys ++ zs.drop (k + ys.length) = lay zs k ys := rfl
 rw [win_at, e, lay_at zs k ys (by omega)]
 by_cases hi : i < n
 ·
  rw [if_pos hi, lay_at xs (a + k) ys (by omega)]
  by_cases h1 : i < k
  ·
   rw [if_pos (by omega), if_pos h1, hf i hi]
  ·
   rw [if_neg (by omega), if_neg h1]
   by_cases h2 : i < k + ys.length
   ·
    rw [if_pos (by omega), if_pos h2]
    congr 1
    omega
   ·
    rw [if_neg (by omega), if_neg h2, hf i hi]
 ·
  rw [if_neg hi, if_neg (by omega), if_neg (by omega)]
  exact (List.getElem?_eq_none (by omega)).symm
structure Sta where
 s : UInt32
 r : UInt32
 t : UInt32
 q : UInt32
 o : UInt32
def Sta.ws (z : Sta) : List UInt32 := [z.s, z.r, z.t, z.q, z.o]
def Sta.v (z : Sta) : Value := stv z.s.toNat z.r.toNat z.t.toNat z.q.toNat z.o.toNat
def Sta.tv (z : Sta) : Value := tov z.s.toNat z.r.toNat z.t.toNat z.q.toNat z.o.toNat
structure Cns where
 fr : Int
 n : Nat
 p : Nat
 W : Nat
 E : Nat
 b : Nat
 g : Nat
 a : Nat
 act : Int
 d : Wrd
structure Ok (c : Cns) (z : Sta) : Prop where
 s : (z.s.toNat : Int) ≤ 3
 r : (z.r.toNat : Int) ≤ c.d.rs
 t : (z.t.toNat : Int) ≤ 6
 q : (z.t.toNat : Int) = 0 → (z.q.toNat : Int) = 0
 o : (z.o.toNat : Int) ≤ c.d.ou
 two : (z.s.toNat : Int) = 2 → ¬ c.act = 0 ∧ (z.r.toNat : Int) < c.d.rs
structure Hw (w : World) (c : Cns) (xs : List UInt32) (z : Sta) (v : List UInt32) : Prop where
 wds : Wds w c.W c.E c.fr c.n c.p c.d
 mm : Mm w c.b c.g xs
 fr : ((xs.length / 16 : Nat) : Int) = c.fr
 lo : c.d.sv + 17 ≤ c.d.st
 hi : c.d.st + 5 ≤ xs.length
 st : (xs.drop c.d.st).take 5 = z.ws
 sv : (xs.drop c.d.sv).take 17 = v
 ok : Ok c z
 care : (c.act = 0 ∧ c.d.fh = .func (.func 92) #[] #[] ∧ c.d.fa = .func (.func 93) #[] #[]) ∨ (¬ c.act = 0 ∧ c.d.fh = .func (.func 94) #[] #[] ∧ c.d.fa = .func (.func 95) #[] #[.pointer (some ⟨c.a, 0, none⟩)] ∧ Blk w c.a [.int .i64 c.act] 3 ∧ c.a ≠ c.g)
 gW : c.W ≠ c.g
 gE : c.E ≠ c.g
 rb : c.d.rs ≤ 4294967295
theorem Hw.kept {w w' : World} {c : Cns} {xs : List UInt32} {z : Sta} {v : List UInt32} (h : Hw w c xs z v) (k : Keeps (fun _ => False) w w') : Hw w' c xs z v :=
 ⟨h.wds.kept k (fun h => h) fun h => h, h.mm.kept k (fun h => h) fun h => h, h.fr, h.lo, h.hi, h.st, h.sv, h.ok, h.care.imp id fun ⟨a, b, c, d, e⟩ => ⟨a, b, c, d.kept k fun h => h, e⟩, h.gW, h.gE, h.rb⟩
theorem Hw.laid {w w' : World} {c : Cns} {xs xs' : List UInt32} {z z' : Sta} {v v' : List UInt32} (h : Hw w c xs z v) (k : Keeps (· = c.g) w w') (hm : Mm w' c.b c.g xs') (hl : xs'.length = xs.length) (hs : (xs'.drop c.d.st).take 5 = z'.ws) (hv : (xs'.drop c.d.sv).take 17 = v') (ho : Ok c z') : Hw w' c xs' z' v' :=
 ⟨h.wds.kept k h.gW h.gE, hm, by rw [hl]; exact h.fr, h.lo, by rw [hl]; exact h.hi, hs, hv, ho, h.care.imp id fun ⟨a, b, c, d, e⟩ => ⟨a, b, c, d.kept k e, e⟩, h.gW, h.gE, h.rb⟩
def Low (c : Cns) (B : Nat) : Prop := c.W < B ∧ c.E < B ∧ c.b < B ∧ c.g < B ∧ (¬ c.act = 0 → c.a < B)
theorem Hw.low {w : World} {c : Cns} {xs : List UInt32} {z : Sta} {v : List UInt32} (h : Hw w c xs z v) : Low c w.heap.size :=
 ⟨h.wds.top.lt, h.wds.row.elim fun _ hl => hl.1.lt, h.mm.blk.lt, h.mm.row.lt, fun ha => by
  rcases h.care with ⟨e, _⟩ | ⟨_, _, _, b, _⟩
  ·
   exact absurd e ha
  ·
   exact b.lt⟩
theorem Hw.above {w w' : World} {c : Cns} {xs : List UInt32} {z : Sta} {v : List UInt32} {B : Nat} (h : Hw w c xs z v) (L : Low c B) (k : Keeps (fun i => B ≤ i) w w') : Hw w' c xs z v :=
 ⟨h.wds.kept k (Nat.not_le.2 L.1) (Nat.not_le.2 L.2.1), h.mm.kept k (Nat.not_le.2 L.2.2.1) (Nat.not_le.2 L.2.2.2.1), h.fr, h.lo, h.hi, h.st, h.sv, h.ok, h.care.imp id fun ⟨a, b, c, d, e⟩ => ⟨a, b, c, d.kept k (Nat.not_le.2 (L.2.2.2.2 a)), e⟩, h.gW, h.gE, h.rb⟩
theorem Hw.one {w : World} {c : Cns} {xs : List UInt32} {z : Sta} {v : List UInt32} (h : Hw w c xs z v) : c.d.fh.oneCell' = true ∧ c.d.fa.oneCell' = true := by
 rcases h.care with ⟨_, e1, e2⟩ | ⟨_, e1, e2, _⟩ <;> rw [e1, e2] <;> exact ⟨rfl, rfl⟩
theorem Hw.all {w : World} {c : Cns} {xs : List UInt32} {z : Sta} {v : List UInt32} (h : Hw w c xs z v) : c.d.vs.toArray.all (·.oneCell') = true := by
 unfold Wrd.vs; simp [h.one.1, h.one.2]; exact ⟨rfl, rfl, rfl, rfl, rfl⟩
theorem Hw.right {w : World} {c : Cns} {xs : List UInt32} {z : Sta} {v : List UInt32} (h : Hw w c xs z v) (w1 : World) : Calls Tryz.prog 39 #[c.d.v, z.v] w1 fun e w' => e = .returned (.bool true) ∧ Keeps (fun _ => False) w1 w' := by
 have o := h.ok
 by_cases e : (z.s.toNat : Int) = 2
 ·
  obtain ⟨ha, hr⟩ := o.two e
  have hf : c.d.fh = .func (.func 94) #[] #[] := by
   rcases h.care with ⟨h0, _⟩ | ⟨_, e1, _⟩
   ·
    exact absurd h0 ha
   ·
    exact e1
  unfold Sta.v
  rw [e]
  exact right_b c.d _ _ _ _ w1 hf hr o.t o.q o.o
 ·
  exact right_a c.d _ _ _ _ _ w1 e o.s o.r o.t o.q o.o
theorem Hw.asked {w : World} {c : Cns} {xs : List UInt32} {z : Sta} {v : List UInt32} (h : Hw w c xs z v) :
  Calls Tryz.prog 21 #[.pointer (some ⟨c.W, 0, none⟩), .pointer (some ⟨c.b, 0, none⟩), .int .i64 c.p] w fun e w' => e = .returned (.tuple #[c.d.v, z.v, .int .i64 0]) ∧ Keeps (fun _ => False) w w' :=
 asked_any c.fr c.E c.n c.W c.b c.g c.p c.d xs z.s z.r z.t z.q z.o w h.wds h.mm h.fr h.one.1 h.one.2 h.hi h.st h.right
theorem Hw.find {w : World} {c : Cns} {xs : List UInt32} {z : Sta} {v : List UInt32} (h : Hw w c xs z v) :
  Calls Tryz.prog 27 #[.pointer (some ⟨c.W, 0, none⟩), .pointer (some ⟨c.b, 0, none⟩), .int .i64 c.p] w fun e w' => e = .returned (.tuple #[c.d.v, .int .i64 0]) ∧ Keeps (fun _ => False) w w' :=
 find_any c.fr c.E c.n c.W c.b c.g c.p c.d xs w h.wds h.mm h.fr h.one.1 h.one.2
def Sta.vs (z : Sta) : List Value := stvs z.s z.r z.t z.q z.o
theorem one_new (w1 : World) (l : List Value) (hl : l.length = 7) :
  Blk (w1.alloc (.cells #[.int .i64 0, .int .i64 0, .int .u32 0, .int .u32 0, .int .u32 0, .nilFunc, .nilFunc] 82)) w1.heap.size [.int .i64 0, .int .i64 0, .int .u32 0, .int .u32 0, .int .u32 0, .nilFunc, .nilFunc] 82 ∧
  Blk ((w1.alloc (.cells #[.int .i64 0, .int .i64 0, .int .u32 0, .int .u32 0, .int .u32 0, .nilFunc, .nilFunc] 82)).setRow w1.heap.size l.toArray) w1.heap.size l 82 ∧
  Keeps (fun _ => False) w1 ((w1.alloc (.cells #[.int .i64 0, .int .i64 0, .int .u32 0, .int .u32 0, .int .u32 0, .nilFunc, .nilFunc] 82)).setRow w1.heap.size l.toArray) :=
 ⟨Blk.new w1 _ 82, (Blk.new w1 _ 82).setRow _, ((Keeps.refl _ w1).alloc _).setRow _ _ fun h => absurd h (Nat.lt_irrefl _)⟩
theorem two_new (w1 : World) (l m : List Value) :
  Blk ((w1.alloc (.cells #[.int .i64 0, .int .i64 0, .int .u32 0, .int .u32 0, .int .u32 0, .nilFunc, .nilFunc] 82)).alloc (.cells #[.int .u32 0, .int .u32 0, .int .u32 0, .int .u32 0, .int .u32 0] 84)) w1.heap.size [.int .i64 0, .int .i64 0, .int .u32 0, .int .u32 0, .int .u32 0, .nilFunc, .nilFunc] 82 ∧
  Blk (((w1.alloc (.cells #[.int .i64 0, .int .i64 0, .int .u32 0, .int .u32 0, .int .u32 0, .nilFunc, .nilFunc] 82)).alloc (.cells #[.int .u32 0, .int .u32 0, .int .u32 0, .int .u32 0, .int .u32 0] 84)).setRow w1.heap.size l.toArray) (w1.heap.size + 1) [.int .u32 0, .int .u32 0, .int .u32 0, .int .u32 0, .int .u32 0] 84 ∧
  Blk ((((w1.alloc (.cells #[.int .i64 0, .int .i64 0, .int .u32 0, .int .u32 0, .int .u32 0, .nilFunc, .nilFunc] 82)).alloc (.cells #[.int .u32 0, .int .u32 0, .int .u32 0, .int .u32 0, .int .u32 0] 84)).setRow w1.heap.size l.toArray).setRow (w1.heap.size + 1) m.toArray) w1.heap.size l 82 ∧
  Blk ((((w1.alloc (.cells #[.int .i64 0, .int .i64 0, .int .u32 0, .int .u32 0, .int .u32 0, .nilFunc, .nilFunc] 82)).alloc (.cells #[.int .u32 0, .int .u32 0, .int .u32 0, .int .u32 0, .int .u32 0] 84)).setRow w1.heap.size l.toArray).setRow (w1.heap.size + 1) m.toArray) (w1.heap.size + 1) m 84 ∧
  Keeps (fun _ => False) w1 ((((w1.alloc (.cells #[.int .i64 0, .int .i64 0, .int .u32 0, .int .u32 0, .int .u32 0, .nilFunc, .nilFunc] 82)).alloc (.cells #[.int .u32 0, .int .u32 0, .int .u32 0, .int .u32 0, .int .u32 0] 84)).setRow w1.heap.size l.toArray).setRow (w1.heap.size + 1) m.toArray) := by
 have a1 : Blk ((w1.alloc (.cells #[.int .i64 0, .int .i64 0, .int .u32 0, .int .u32 0, .int .u32 0, .nilFunc, .nilFunc] 82)).alloc (.cells #[.int .u32 0, .int .u32 0, .int .u32 0, .int .u32 0, .int .u32 0] 84)) w1.heap.size [.int .i64 0, .int .i64 0, .int .u32 0, .int .u32 0, .int .u32 0, .nilFunc, .nilFunc] 82 := (Blk.new w1 _ 82).alloc _
 have a2 : Blk ((w1.alloc (.cells #[.int .i64 0, .int .i64 0, .int .u32 0, .int .u32 0, .int .u32 0, .nilFunc, .nilFunc] 82)).alloc (.cells #[.int .u32 0, .int .u32 0, .int .u32 0, .int .u32 0, .int .u32 0] 84)) (w1.heap.size + 1) [.int .u32 0, .int .u32 0, .int .u32 0, .int .u32 0, .int .u32 0] 84 := by
  have := Blk.new (w1.alloc (.cells #[.int .i64 0, .int .i64 0, .int .u32 0, .int .u32 0, .int .u32 0, .nilFunc, .nilFunc] 82)) #[.int .u32 0, .int .u32 0, .int .u32 0, .int .u32 0, .int .u32 0] 84
  simpa using this
 have a3 := a2.setRow_ne (k := w1.heap.size) (by omega) l.toArray
 exact ⟨a1, a3, (a1.setRow l).setRow_ne (by omega) _, a3.setRow _, ((((Keeps.refl _ w1).alloc _).alloc _).setRow _ _ fun h => absurd h (Nat.lt_irrefl _)).setRow _ _ fun h => by omega⟩
theorem Hw.lay_s {w w' : World} {c : Cns} {xs : List UInt32} {z : Sta} {v : List UInt32} (h : Hw w c xs z v) (S : UInt32) (k : Keeps (· = c.g) w w') (hm : Mm w' c.b c.g (lay xs (c.d.st + 0) [S])) (ho : Ok c { z with s := S }) : Hw w' c (lay xs (c.d.st + 0) [S]) { z with s := S } v :=
 h.laid k hm (lay_length _ _ _ (by have := h.hi; simp; omega)) (win_part xs c.d.st 5 0 [S] _ h.st h.hi (by simp)) (by rw [win_off _ _ _ (by have := h.hi; simp; omega) _ _ (.inl (by have := h.lo; omega))]; exact h.sv) ho
theorem Hw.lay_sr {w w' : World} {c : Cns} {xs : List UInt32} {z : Sta} {v : List UInt32} (h : Hw w c xs z v) (S R : UInt32) (k : Keeps (· = c.g) w w') (hm : Mm w' c.b c.g (lay xs (c.d.st + 0) [S, R])) (ho : Ok c { z with s := S, r := R }) : Hw w' c (lay xs (c.d.st + 0) [S, R]) { z with s := S, r := R } v :=
 h.laid k hm (lay_length _ _ _ (by have := h.hi; simp; omega)) (win_part xs c.d.st 5 0 [S, R] _ h.st h.hi (by simp)) (by rw [win_off _ _ _ (by have := h.hi; simp; omega) _ _ (.inl (by have := h.lo; omega))]; exact h.sv) ho
theorem Hw.lay_tq {w w' : World} {c : Cns} {xs : List UInt32} {z : Sta} {v : List UInt32} (h : Hw w c xs z v) (T Q : UInt32) (k : Keeps (· = c.g) w w') (hm : Mm w' c.b c.g (lay xs (c.d.st + 2) [T, Q])) (ho : Ok c { z with t := T, q := Q }) : Hw w' c (lay xs (c.d.st + 2) [T, Q]) { z with t := T, q := Q } v :=
 h.laid k hm (lay_length _ _ _ (by have := h.hi; simp; omega)) (win_part xs c.d.st 5 2 [T, Q] _ h.st h.hi (by simp)) (by rw [win_off _ _ _ (by have := h.hi; simp; omega) _ _ (.inl (by have := h.lo; omega))]; exact h.sv) ho
theorem Hw.lay_v {w w' : World} {c : Cns} {xs : List UInt32} {z : Sta} {v : List UInt32} (h : Hw w c xs z v) (ys : List UInt32) (hy : ys.length = 17) (k : Keeps (· = c.g) w w') (hm : Mm w' c.b c.g (lay xs c.d.sv ys)) : Hw w' c (lay xs c.d.sv ys) z ys :=
 h.laid k hm (lay_length _ _ _ (by have := h.hi; have := h.lo; omega)) (by rw [win_off _ _ _ (by have := h.hi; have := h.lo; omega) _ _ (.inr (by have := h.lo; omega))]; exact h.st) (win_in _ _ _ (by have := h.hi; have := h.lo; omega) _ hy.symm) h.ok
theorem seg1 {w : World} {g : Nat} (S : UInt32) (h : Blk w g [.int .u32 (S.toNat : Int)] 38) : SegW w (some ⟨g, 0, none⟩) [S] := segW_of_blk (t := 38) h
theorem seg2 {w : World} {g : Nat} (S R : UInt32) (h : Blk w g [.int .u32 (S.toNat : Int), .int .u32 (R.toNat : Int)] 38) : SegW w (some ⟨g, 0, none⟩) [S, R] := segW_of_blk (t := 38) h
theorem Tryz.size45 : (Tryz.prog.info? 45).map (·.size) = some 5 := by kernel_rfl
theorem tvs_one (z : Sta) : (#[.int .i64 (z.s.toNat : Int), .int .i64 (z.r.toNat : Int), .int .i64 (z.t.toNat : Int), .int .u32 (z.q.toNat : Int), .int .i64 (z.o.toNat : Int)] : Array Value).all (·.oneCell') = true := by kernel_rfl
def Left (c : Cns) (w : World) (e : Ending) (r : Value) (xs : List UInt32) (z : Sta) (v : List UInt32) (w' : World) : Prop := e = .returned r ∧ Hw w' c xs z v ∧ Keeps (· = c.g) w w'
set_option maxHeartbeats 1000000 in
theorem stat_any (c : Cns) (xs : List UInt32) (z : Sta) (v : List UInt32) (w : World) (h : Hw w c xs z v) : Calls Tryz.prog 9 #[.pointer (some ⟨c.W, 0, none⟩), .pointer (some ⟨c.b, 0, none⟩), .int .i64 c.p] w fun e w' => Left c w e (.tuple #[z.tv, .int .i64 0]) xs z v w' := by
 obtain ⟨W0, hW0⟩ : ∃ W0, W0 = w.alloc (.cells #[.int .i64 0, .int .i64 0, .int .i64 0, .int .u32 0, .int .i64 0] 45) := ⟨_, rfl⟩
 obtain ⟨D, hD⟩ : ∃ D, D = w.heap.size := ⟨_, rfl⟩
 have hK0 : Keeps (fun _ => False) w W0 := by rw [hW0]; exact (Keeps.refl _ w).alloc _
 have hZ : Blk W0 D [.int .i64 0, .int .i64 0, .int .i64 0, .int .u32 0, .int .i64 0] 45 := by rw [hW0, hD]; exact Blk.new w _ 45
 have H0 : Hid (Hw W0 c xs z v) := h.kept hK0
 have HH : Hid (Hw w c xs z v) := h
 have HZ : Hid (Blk W0 D [.int .i64 0, .int .i64 0, .int .i64 0, .int .u32 0, .int .i64 0] 45 ∧ Keeps (fun _ => False) w W0 ∧ w.heap.size = D) := ⟨hZ, hK0, hD.symm⟩
 have HC : Hid (Calls _ _ _ W0 _) := H0.out.asked
 clear h hK0 hZ
 go_enter Tryz.func9, Tryz.ntmps9
 go_upto_region 1 with fail
 rw [← hW0, ← hD]
 clear hW0 hD
 go_wp2_with fail
 refine HC.out.mono ?_
 rintro e w1 ⟨rfl, hKw1⟩
 have Hw1 : Hid (Hw w1 c xs z v ∧ Keeps (fun _ => False) W0 w1) := ⟨H0.out.kept hKw1, hKw1⟩
 have HNw1 : Hid _ := two_new w1 c.d.vs z.vs
 obtain ⟨W2, hW2⟩ : ∃ W2, W2 = ((((w1.alloc (.cells #[.int .i64 0, .int .i64 0, .int .u32 0, .int .u32 0, .int .u32 0, .nilFunc, .nilFunc] 82)).alloc (.cells #[.int .u32 0, .int .u32 0, .int .u32 0, .int .u32 0, .int .u32 0] 84)).setRow w1.heap.size c.d.vs.toArray).setRow (w1.heap.size + 1) z.vs.toArray) := ⟨_, rfl⟩
 obtain ⟨A, hA⟩ : ∃ A, A = w1.heap.size := ⟨_, rfl⟩
 have HW2 : Hid (Hw W2 c xs z v ∧ Blk W2 A c.d.vs 82 ∧ Blk W2 (A + 1) z.vs 84 ∧ Keeps (fun _ => False) W0 W2 ∧ W0.heap.size ≤ A ∧ A + 1 < W2.heap.size) := by
  obtain ⟨_, _, a, b, k⟩ := HNw1.out
  rw [← hW2] at a b k
  rw [← hA] at a b
  exact ⟨Hw1.out.1.kept k, a, b, Hw1.out.2.trans k fun _ _ h => h, by rw [hA]; exact Hw1.out.2.size, b.lt⟩
 clear hKw1
 unfold Wrd.v Sta.v stv
 go_wp2_with (refine wpList_store_row rfl 82 (.tmp 8) (.tmp 16) rfl w1.heap.size c.d.vs.toArray rfl rfl 82 #[.int .i64 0, .int .i64 0, .int .u32 0, .int .u32 0, .int .u32 0, .nilFunc, .nilFunc] HNw1.out.1 Tryz.size82 rfl Hw1.out.1.all ?_; refine Hid.out ?_)
 unfold Hid
 refine wpList_store_row rfl 84 (.tmp 9) (.tmp 17) rfl (w1.heap.size + 1) z.vs.toArray rfl rfl 84 #[.int .u32 0, .int .u32 0, .int .u32 0, .int .u32 0, .int .u32 0] HNw1.out.2.1 Tryz.size84 rfl (stvs_one z.s z.r z.t z.q z.o) ?_
 rw [← hW2, ← hA]
 clear hW2 hA HNw1 Hw1
 have HC2 : Hid (Calls Tryz.prog 22 #[z.v] W2 _) := status_any z.s z.r z.t z.q z.o W2
 clear HC
 go_upto_region 4 with fail
 go_wp2_with (refine wpList_load_row rfl 84 (.tmp 9) rfl (A + 1) rfl 84 z.vs.toArray (0, 0) _ HW2.out.2.2.1 Tryz.underlying84 rfl Tryz.size84 ?_; refine Hid.out ?_)
 unfold Hid
 go_wp2_with fail
 refine HC2.out.mono ?_
 rintro e w3 ⟨rfl, hK3⟩
 have HR : Hid (Blk w3 D [.int .i64 0, .int .i64 0, .int .i64 0, .int .u32 0, .int .i64 0] 45 ∧ Blk (w3.setRow D #[.int .i64 (z.s.toNat : Int), .int .i64 (z.r.toNat : Int), .int .i64 (z.t.toNat : Int), .int .u32 (z.q.toNat : Int), .int .i64 (z.o.toNat : Int)]) D [.int .i64 (z.s.toNat : Int), .int .i64 (z.r.toNat : Int), .int .i64 (z.t.toNat : Int), .int .u32 (z.q.toNat : Int), .int .i64 (z.o.toNat : Int)] 45 ∧ Hw (w3.setRow D #[.int .i64 (z.s.toNat : Int), .int .i64 (z.r.toNat : Int), .int .i64 (z.t.toNat : Int), .int .u32 (z.q.toNat : Int), .int .i64 (z.o.toNat : Int)]) c xs z v ∧ Keeps (fun _ => False) w (w3.setRow D #[.int .i64 (z.s.toNat : Int), .int .i64 (z.r.toNat : Int), .int .i64 (z.t.toNat : Int), .int .u32 (z.q.toNat : Int), .int .i64 (z.o.toNat : Int)])) := by
  have k : Keeps (fun _ => False) w w3 := (HZ.out.2.1.trans HW2.out.2.2.2.1 fun _ _ h => h).trans hK3 fun _ _ h => h
  have b : Blk w3 D [.int .i64 0, .int .i64 0, .int .i64 0, .int .u32 0, .int .i64 0] 45 := (HZ.out.1.kept HW2.out.2.2.2.1 fun h => h).kept hK3 fun h => h
  have k2 : Keeps (fun _ => False) w (w3.setRow D #[.int .i64 (z.s.toNat : Int), .int .i64 (z.r.toNat : Int), .int .i64 (z.t.toNat : Int), .int .u32 (z.q.toNat : Int), .int .i64 (z.o.toNat : Int)]) := k.setRow _ _ fun h => by have := HZ.out.2.2; omega
  exact ⟨b, b.setRow _, HH.out.kept k2, k2⟩
 clear hK3 HC2
 unfold tov
 go_wp2_with (refine wpList_store_row rfl 45 (.tmp 6) (.tmp 24) rfl D #[.int .i64 (z.s.toNat : Int), .int .i64 (z.r.toNat : Int), .int .i64 (z.t.toNat : Int), .int .u32 (z.q.toNat : Int), .int .i64 (z.o.toNat : Int)] rfl rfl 45 #[.int .i64 0, .int .i64 0, .int .i64 0, .int .u32 0, .int .i64 0] HR.out.1 Tryz.size45 rfl (tvs_one z) ?_; refine Hid.out ?_)
 unfold Hid
 go_wp2
 refine bodyPost_ret (results_row_tmp rfl _ _ D 45 #[.int .i64 (z.s.toNat : Int), .int .i64 (z.r.toNat : Int), .int .i64 (z.t.toNat : Int), .int .u32 (z.q.toNat : Int), .int .i64 (z.o.toNat : Int)] (0, 0) _ rfl HR.out.2.1 Tryz.underlying45 rfl Tryz.size45) rfl ?_
 exact ⟨rfl, HR.out.2.2.1, HR.out.2.2.2.mono fun _ _ h => h.elim⟩
set_option maxHeartbeats 1000000 in
theorem become_any (c : Cns) (xs : List UInt32) (z : Sta) (v : List UInt32) (w : World) (h : Hw w c xs z v) (S : UInt32) (ho : Ok c { z with s := S }) : Calls Tryz.prog 37 #[.pointer (some ⟨c.W, 0, none⟩), .pointer (some ⟨c.b, 0, none⟩), .int .i64 c.p, .int .u32 (S.toNat : Int)] w fun e w' => Left c w e (.int .i64 0) (lay xs (c.d.st + 0) [S]) { z with s := S } v w' := by
 have H0 : Hid (Hw w c xs z v) := h
 have HC : Hid (Calls _ _ _ w _) := H0.out.asked
 have HO : Hid (Ok c { z with s := S }) := ho
 clear h ho
 go_enter Tryz.func37, Tryz.ntmps37
 go_wp2_with fail
 refine HC.out.mono ?_
 rintro e w1 ⟨rfl, hKw1⟩
 have Hw1 : Hid (Hw w1 c xs z v ∧ Keeps (fun _ => False) w w1) := ⟨H0.out.kept hKw1, hKw1⟩
 have HNw1 : Hid _ := two_new w1 c.d.vs z.vs
 obtain ⟨W2, hW2⟩ : ∃ W2, W2 = ((((w1.alloc (.cells #[.int .i64 0, .int .i64 0, .int .u32 0, .int .u32 0, .int .u32 0, .nilFunc, .nilFunc] 82)).alloc (.cells #[.int .u32 0, .int .u32 0, .int .u32 0, .int .u32 0, .int .u32 0] 84)).setRow w1.heap.size c.d.vs.toArray).setRow (w1.heap.size + 1) z.vs.toArray) := ⟨_, rfl⟩
 obtain ⟨A, hA⟩ : ∃ A, A = w1.heap.size := ⟨_, rfl⟩
 have HW2 : Hid (Hw W2 c xs z v ∧ Blk W2 A c.d.vs 82 ∧ Blk W2 (A + 1) z.vs 84 ∧ Keeps (fun _ => False) w W2 ∧ w.heap.size ≤ A ∧ A + 1 < W2.heap.size) := by
  obtain ⟨_, _, a, b, k⟩ := HNw1.out
  rw [← hW2] at a b k
  rw [← hA] at a b
  exact ⟨Hw1.out.1.kept k, a, b, Hw1.out.2.trans k fun _ _ h => h, by rw [hA]; exact Hw1.out.2.size, b.lt⟩
 clear hKw1
 unfold Wrd.v Sta.v stv
 go_wp2_with (refine wpList_store_row rfl 82 (.tmp 9) (.tmp 17) rfl w1.heap.size c.d.vs.toArray rfl rfl 82 #[.int .i64 0, .int .i64 0, .int .u32 0, .int .u32 0, .int .u32 0, .nilFunc, .nilFunc] HNw1.out.1 Tryz.size82 rfl Hw1.out.1.all ?_; refine Hid.out ?_)
 unfold Hid
 refine wpList_store_row rfl 84 (.tmp 10) (.tmp 18) rfl (w1.heap.size + 1) z.vs.toArray rfl rfl 84 #[.int .u32 0, .int .u32 0, .int .u32 0, .int .u32 0, .int .u32 0] HNw1.out.2.1 Tryz.size84 rfl (stvs_one z.s z.r z.t z.q z.o) ?_
 rw [← hW2, ← hA]
 clear hW2 hA HNw1 Hw1
 clear HC
 go_upto_region 4 with fail
 go_wp2_with (refine wpList_load_row rfl 82 (.tmp 9) rfl A rfl 82 c.d.vs.toArray (0, 0) _ HW2.out.2.1 Tryz.underlying82 rfl Tryz.size82 ?_; refine Hid.out ?_)
 unfold Hid
 obtain ⟨W3, hW3⟩ : ∃ W3, W3 = W2.alloc (.cells #[.int .u32 (S.toNat : Int)] 38) := ⟨_, rfl⟩
 have hKW3 : Keeps (fun _ => False) W2 W3 := by rw [hW3]; exact (Keeps.refl _ _).alloc _
 have hBW3 : Blk W3 W2.heap.size [.int .u32 (S.toNat : Int)] 38 := by rw [hW3]; exact Blk.new _ _ 38
 have HC2 : Hid (Calls Tryz.prog 24 #[c.d.v, .pointer (some ⟨c.b, 0, none⟩), .int .i64 0, .slice (some ⟨W2.heap.size, 0, none⟩) 1 1] W3 _) := write_any c.d c.b c.g xs 0 0 rfl (some ⟨W2.heap.size, 0, none⟩) 1 [S] W3 (HW2.out.1.mm.kept hKW3 (fun h => h) fun h => h) (seg1 S hBW3) (by have := HW2.out.1.hi; simp; omega)
 have H3 : Hid (Hw W3 c xs z v ∧ Keeps (fun _ => False) w W3) := ⟨HW2.out.1.kept hKW3, HW2.out.2.2.2.1.trans hKW3 fun _ _ h => h⟩
 clear hKW3 hBW3
 go_wp2_with fail
 rw [← hW3]
 clear hW3
 refine HC2.out.mono ?_
 rintro e w4 ⟨rfl, hM, hK⟩
 have H4 : Hid (Hw w4 c (lay xs (c.d.st + 0) [S]) { z with s := S } v ∧ Keeps (· = c.g) w w4) := ⟨H3.out.1.lay_s S hK hM HO.out, (H3.out.2.mono fun _ _ h => h.elim).trans hK fun _ _ h => h⟩
 clear hM hK HC2
 go_wp2
 go_ret
 exact ⟨rfl, H4.out.1, H4.out.2⟩
theorem yield_any (c : Cns) (xs : List UInt32) (z : Sta) (v : List UInt32) (w : World) (h : Hw w c xs z v) (ho : Ok c { z with s := 1 }) : Calls Tryz.prog 19 #[.pointer (some ⟨c.W, 0, none⟩), .pointer (some ⟨c.b, 0, none⟩), .int .i64 c.p] w fun e w' => Left c w e (.int .i64 0) (lay xs (c.d.st + 0) [1]) { z with s := 1 } v w' := by
 have HC : Hid (Calls Tryz.prog 37 #[.pointer (some ⟨c.W, 0, none⟩), .pointer (some ⟨c.b, 0, none⟩), .int .i64 c.p, .int .u32 1] w _) := become_any c xs z v w h 1 ho
 clear h ho
 go_enter Tryz.func19, Tryz.ntmps19
 go_wp2_with fail
 refine HC.out.mono ?_
 rintro e w1 ⟨rfl, h1⟩
 have H1 : Hid _ := h1
 clear h1 HC
 go_wp2
 go_ret
 exact ⟨rfl, H1.out⟩
theorem stop_any (c : Cns) (xs : List UInt32) (z : Sta) (v : List UInt32) (w : World) (h : Hw w c xs z v) (ho : Ok c { z with s := 3 }) : Calls Tryz.prog 20 #[.pointer (some ⟨c.W, 0, none⟩), .pointer (some ⟨c.b, 0, none⟩), .int .i64 c.p] w fun e w' => Left c w e (.int .i64 0) (lay xs (c.d.st + 0) [3]) { z with s := 3 } v w' := by
 have HC : Hid (Calls Tryz.prog 37 #[.pointer (some ⟨c.W, 0, none⟩), .pointer (some ⟨c.b, 0, none⟩), .int .i64 c.p, .int .u32 3] w _) := become_any c xs z v w h 3 ho
 clear h ho
 go_enter Tryz.func20, Tryz.ntmps20
 go_wp2_with fail
 refine HC.out.mono ?_
 rintro e w1 ⟨rfl, h1⟩
 have H1 : Hid _ := h1
 clear h1 HC
 go_wp2
 go_ret
 exact ⟨rfl, H1.out⟩
set_option maxHeartbeats 1000000 in
theorem sav_any (c : Cns) (xs : List UInt32) (z : Sta) (v : List UInt32) (w : World) (h : Hw w c xs z v) (ys : List UInt32) (hy : ys.length = 17) : Calls Tryz.prog 12 #[.pointer (some ⟨c.W, 0, none⟩), .pointer (some ⟨c.b, 0, none⟩), .int .i64 c.p, cxv ys] w fun e w' => Left c w e (.int .i64 0) (lay xs c.d.sv ys) z ys w' := by
 obtain ⟨W0, hW0⟩ : ∃ W0, W0 = w.alloc (.cells (wvs ys).toArray 41) := ⟨_, rfl⟩
 obtain ⟨D, hD⟩ : ∃ D, D = w.heap.size := ⟨_, rfl⟩
 have hK0 : Keeps (fun _ => False) w W0 := by rw [hW0]; exact (Keeps.refl _ w).alloc _
 have H0 : Hid (Hw W0 c xs z v) := h.kept hK0
 have HZ : Hid (Blk W0 D (wvs ys) 41 ∧ Keeps (fun _ => False) w W0 ∧ ys.length = 17 ∧ (wvs ys).toArray.size = 17) := ⟨by rw [hW0, hD]; exact Blk.new w _ 41, hK0, hy, by simp [wvs_length, hy]⟩
 have HC : Hid (Calls _ _ _ W0 _) := H0.out.find
 unfold cxv
 clear h hK0 hy
 go_enter Tryz.func12, Tryz.ntmps12
 go_upto_region 1 with fail
 rw [← hW0, ← hD]
 clear hW0 hD
 go_wp2_with fail
 refine HC.out.mono ?_
 rintro e w1 ⟨rfl, hKw1⟩
 have Hw1 : Hid (Hw w1 c xs z v ∧ Keeps (fun _ => False) W0 w1) := ⟨H0.out.kept hKw1, hKw1⟩
 have HNw1 : Hid _ := one_new w1 c.d.vs rfl
 obtain ⟨W2, hW2⟩ : ∃ W2, W2 = ((w1.alloc (.cells #[.int .i64 0, .int .i64 0, .int .u32 0, .int .u32 0, .int .u32 0, .nilFunc, .nilFunc] 82)).setRow w1.heap.size c.d.vs.toArray) := ⟨_, rfl⟩
 obtain ⟨A, hA⟩ : ∃ A, A = w1.heap.size := ⟨_, rfl⟩
 have HW2 : Hid (Hw W2 c xs z v ∧ Blk W2 A c.d.vs 82 ∧ Keeps (fun _ => False) W0 W2) := by
  obtain ⟨_, a, k⟩ := HNw1.out
  rw [← hW2] at a k
  rw [← hA] at a
  exact ⟨Hw1.out.1.kept k, a, Hw1.out.2.trans k fun _ _ h => h⟩
 clear hKw1
 unfold Wrd.v
 go_wp2_with (refine wpList_store_row rfl 82 (.tmp 9) (.tmp 16) rfl w1.heap.size c.d.vs.toArray rfl rfl 82 #[.int .i64 0, .int .i64 0, .int .u32 0, .int .u32 0, .int .u32 0, .nilFunc, .nilFunc] HNw1.out.1 Tryz.size82 rfl Hw1.out.1.all ?_; refine Hid.out ?_)
 unfold Hid
 rw [← hW2, ← hA]
 clear hW2 hA HNw1 Hw1
 have HC2 : Hid (Calls Tryz.prog 28 #[c.d.v, .pointer (some ⟨c.b, 0, none⟩), cxv ys] W2 _) := save_any c.d c.b c.g xs ys W2 HW2.out.1.mm HZ.out.2.2.1 (by have := HW2.out.1.lo; have := HW2.out.1.hi; omega)
 have HX : Hid (Blk W2 D (wvs ys) 41) := HZ.out.1.kept HW2.out.2.2 fun h => h
 clear HC
 go_upto_region 4 with fail
 go_wp2_with (refine wpList_load_row rfl 82 (.tmp 9) rfl A rfl 82 c.d.vs.toArray (0, 0) _ HW2.out.2.1 Tryz.underlying82 rfl Tryz.size82 ?_; refine Hid.out ?_)
 unfold Hid
 go_wp2_with (refine wpList_load_row rfl 41 (.tmp 7) rfl D rfl 41 (wvs ys).toArray (0, 0) _ HX.out Tryz.underlying41 rfl (by rw [HZ.out.2.2.2]; exact Tryz.size41) ?_; refine Hid.out ?_)
 unfold Hid
 go_wp2_with fail
 refine HC2.out.mono ?_
 rintro e w4 ⟨rfl, hM, hK⟩
 have H4 : Hid (Hw w4 c (lay xs c.d.sv ys) z ys ∧ Keeps (· = c.g) w w4) := ⟨HW2.out.1.lay_v ys HZ.out.2.2.1 hK hM, ((HZ.out.2.1.trans HW2.out.2.2 fun _ _ h => h).mono fun _ _ h => h.elim).trans hK fun _ _ h => h⟩
 clear hM hK HC2
 go_wp2
 go_ret
 exact ⟨rfl, H4.out.1, H4.out.2⟩
end Go.Proofs.YtofjbkoojimmhaaGreat
