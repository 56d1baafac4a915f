import Derived.Test.YtglhfijgnfignaaGreatHf
namespace Go.Proofs.YtglhfijgnfignaaGreat
open Go.RowKit Go.Shelf
open Mq
set_option linter.unusedVariables false
set_option maxRecDepth 6000
set_option linter.unusedSimpArgs false
theorem lay_at (xs : List UInt32) (p : Nat) (ys : List UInt32) (h : p + ys.length ≤ xs.length) (i : Nat) : (lay xs p ys)[i]? = if i < p then xs[i]? else if i < p + ys.length then ys[i - p]? else xs[i]? := by
 unfold lay
 have hp : (xs.take p).length = p := by simp; omega
 by_cases h1 : i < p
 ·
  rw [if_pos h1, List.append_assoc, List.getElem?_append_left (by omega), List.getElem?_take, if_pos h1]
 ·
  rw [if_neg h1]
  by_cases h2 : i < p + ys.length
  ·
   rw [if_pos h2, List.getElem?_append_left (by simp; omega), List.getElem?_append_right (by omega), hp]
  ·
   rw [if_neg h2, List.getElem?_append_right (by simp; omega), List.getElem?_drop]
   congr 1
   simp
   omega
theorem win_at (xs : List UInt32) (a n i : Nat) : ((xs.drop a).take n)[i]? = if i < n then xs[a + i]? else none := by
 rw [List.getElem?_take, List.getElem?_drop]
theorem win_off (xs : List UInt32) (p : Nat) (ys : List UInt32) (h : p + ys.length ≤ xs.length) (a n : Nat) (hd : a + n ≤ p ∨ p + ys.length ≤ a) : ((lay xs p ys).drop a).take n = (xs.drop a).take n := by
 refine List.ext_getElem? fun i => ?_
 rw [win_at, win_at]
 split
 ·
  rw [lay_at xs p ys h]
  split
  ·
   rfl
  ·
   split
   ·
    omega
   ·
    rfl
 ·
  rfl
theorem win_in (xs : List UInt32) (p : Nat) (ys : List UInt32) (h : p + ys.length ≤ xs.length) (n : Nat) (hn : n = ys.length) : ((lay xs p ys).drop p).take n = ys := by
 subst hn
 refine List.ext_getElem? fun i => ?_
 rw [win_at]
 split
 ·
  rw [lay_at xs p ys h, if_neg (by omega), if_pos (by omega)]
  congr 1
  omega
 ·
  exact (List.getElem?_eq_none (by omega)).symm
structure Sta where
 s : UInt32
 r : UInt32
 t : UInt32
 q : UInt32
 o : UInt32
def Sta.ws (z : Sta) : List UInt32 := [z.s, z.r, z.t, z.q, z.o]
def Sta.v (z : Sta) : Value := stv z.s.toNat z.r.toNat z.t.toNat z.q.toNat z.o.toNat
def Sta.tv (z : Sta) : Value := tov z.s.toNat z.r.toNat z.t.toNat z.q.toNat z.o.toNat
structure Cns where
 fr : Int
 n : Nat
 p : Nat
 W : Nat
 E : Nat
 b : Nat
 g : Nat
 a : Nat
 act : Int
 d : Wrd
structure Ok (c : Cns) (z : Sta) : Prop where
 s : (z.s.toNat : Int) ≤ 3
 r : (z.r.toNat : Int) ≤ c.d.rs
 t : (z.t.toNat : Int) ≤ 6
 q : (z.t.toNat : Int) = 0 → (z.q.toNat : Int) = 0
 o : (z.o.toNat : Int) ≤ c.d.ou
 two : (z.s.toNat : Int) = 2 → ¬ c.act = 0 ∧ (z.r.toNat : Int) < c.d.rs
structure Hw (w : World) (c : Cns) (xs : List UInt32) (z : Sta) (v : List UInt32) : Prop where
 wds : Wds w c.W c.E c.fr c.n c.p c.d
 mm : Mm w c.b c.g xs
 fr : ((xs.length / 16 : Nat) : Int) = c.fr
 lo : c.d.sv + 17 ≤ c.d.st
 hi : c.d.st + 5 ≤ xs.length
 st : (xs.drop c.d.st).take 5 = z.ws
 sv : (xs.drop c.d.sv).take 17 = v
 ok : Ok c z
 care : (c.act = 0 ∧ c.d.fh = .func (.func 139) #[] #[] ∧ c.d.fa = .func (.func 140) #[] #[]) ∨ (¬ c.act = 0 ∧ c.d.fh = .func (.func 141) #[] #[] ∧ c.d.fa = .func (.func 142) #[] #[.pointer (some ⟨c.a, 0, none⟩)] ∧ Blk w c.a [.int .i64 c.act] 3 ∧ c.a ≠ c.g)
 gW : c.W ≠ c.g
 gE : c.E ≠ c.g
 rb : c.d.rs ≤ 4294967295
theorem Hw.kept {w w' : World} {c : Cns} {xs : List UInt32} {z : Sta} {v : List UInt32} (h : Hw w c xs z v) (k : Keeps (fun _ => False) w w') : Hw w' c xs z v :=
 ⟨h.wds.kept k (fun h => h) fun h => h, h.mm.kept k (fun h => h) fun h => h, h.fr, h.lo, h.hi, h.st, h.sv, h.ok, h.care.imp id fun ⟨a, b, c, d, e⟩ => ⟨a, b, c, d.kept k fun h => h, e⟩, h.gW, h.gE, h.rb⟩
theorem Hw.laid {w w' : World} {c : Cns} {xs xs' : List UInt32} {z z' : Sta} {v v' : List UInt32} (h : Hw w c xs z v) (k : Keeps (· = c.g) w w') (hm : Mm w' c.b c.g xs') (hl : xs'.length = xs.length) (hs : (xs'.drop c.d.st).take 5 = z'.ws) (hv : (xs'.drop c.d.sv).take 17 = v') (ho : Ok c z') : Hw w' c xs' z' v' :=
 ⟨h.wds.kept k h.gW h.gE, hm, by rw [hl]; exact h.fr, h.lo, by rw [hl]; exact h.hi, hs, hv, ho, h.care.imp id fun ⟨a, b, c, d, e⟩ => ⟨a, b, c, d.kept k e, e⟩, h.gW, h.gE, h.rb⟩
def Low (c : Cns) (B : Nat) : Prop := c.W < B ∧ c.E < B ∧ c.b < B ∧ c.g < B ∧ (¬ c.act = 0 → c.a < B)
theorem Hw.one {w : World} {c : Cns} {xs : List UInt32} {z : Sta} {v : List UInt32} (h : Hw w c xs z v) : c.d.fh.oneCell' = true ∧ c.d.fa.oneCell' = true := by
 rcases h.care with ⟨_, e1, e2⟩ | ⟨_, e1, e2, _⟩ <;> rw [e1, e2] <;> exact ⟨rfl, rfl⟩
theorem Hw.all {w : World} {c : Cns} {xs : List UInt32} {z : Sta} {v : List UInt32} (h : Hw w c xs z v) : c.d.vs.toArray.all (·.oneCell') = true := by
 unfold Wrd.vs; simp [h.one.1, h.one.2]; exact ⟨rfl, rfl, rfl, rfl, rfl⟩
theorem Hw.find {w : World} {c : Cns} {xs : List UInt32} {z : Sta} {v : List UInt32} (h : Hw w c xs z v) :
  Calls Tryz.prog 67 #[.pointer (some ⟨c.W, 0, none⟩), .pointer (some ⟨c.b, 0, none⟩), .int .i64 c.p] w fun e w' => e = .returned (.tuple #[c.d.v, .int .i64 0]) ∧ Keeps (fun _ => False) w w' :=
 find_any c.fr c.E c.n c.W c.b c.g c.p c.d xs w h.wds h.mm h.fr h.one.1 h.one.2
def Sta.vs (z : Sta) : List Value := stvs z.s z.r z.t z.q z.o
theorem one_new (w1 : World) (l : List Value) (hl : l.length = 7) :
  Blk (w1.alloc (.cells #[.int .i64 0, .int .i64 0, .int .u32 0, .int .u32 0, .int .u32 0, .nilFunc, .nilFunc] 149)) w1.heap.size [.int .i64 0, .int .i64 0, .int .u32 0, .int .u32 0, .int .u32 0, .nilFunc, .nilFunc] 149 ∧
  Blk ((w1.alloc (.cells #[.int .i64 0, .int .i64 0, .int .u32 0, .int .u32 0, .int .u32 0, .nilFunc, .nilFunc] 149)).setRow w1.heap.size l.toArray) w1.heap.size l 149 ∧
  Keeps (fun _ => False) w1 ((w1.alloc (.cells #[.int .i64 0, .int .i64 0, .int .u32 0, .int .u32 0, .int .u32 0, .nilFunc, .nilFunc] 149)).setRow w1.heap.size l.toArray) :=
 ⟨Blk.new w1 _ 149, (Blk.new w1 _ 149).setRow _, ((Keeps.refl _ w1).alloc _).setRow _ _ fun h => absurd h (Nat.lt_irrefl _)⟩
theorem Hw.lay_v {w w' : World} {c : Cns} {xs : List UInt32} {z : Sta} {v : List UInt32} (h : Hw w c xs z v) (ys : List UInt32) (hy : ys.length = 17) (k : Keeps (· = c.g) w w') (hm : Mm w' c.b c.g (lay xs c.d.sv ys)) : Hw w' c (lay xs c.d.sv ys) z ys :=
 h.laid k hm (lay_length _ _ _ (by have := h.hi; have := h.lo; omega)) (by rw [win_off _ _ _ (by have := h.hi; have := h.lo; omega) _ _ (.inr (by have := h.lo; omega))]; exact h.st) (win_in _ _ _ (by have := h.hi; have := h.lo; omega) _ hy.symm) h.ok
def Left (c : Cns) (w : World) (e : Ending) (r : Value) (xs : List UInt32) (z : Sta) (v : List UInt32) (w' : World) : Prop := e = .returned r ∧ Hw w' c xs z v ∧ Keeps (· = c.g) w w'
end Go.Proofs.YtglhfijgnfignaaGreat
