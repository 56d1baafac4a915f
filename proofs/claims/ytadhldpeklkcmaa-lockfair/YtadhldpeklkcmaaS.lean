import Derived.Test.YtadhldpeklkcmaaQ
namespace Go.Proofs.Ytadhldpeklkcmaa
open Go.RowKit
set_option linter.unusedVariables false

/-- Several of them are others now. -/
theorem Sep.updM {w w' : World} {N : Nat} {F F' : Nat → Nat → Prop} (h : Sep w N F) (P : Nat → Prop) (hi : ∀ i, P i → ∀ k, F' i k → F i k ∨ w.heap.size ≤ k) (hl : ∀ i, P i → ∀ k, F' i k → k < w'.heap.size)
    (hd : ∀ i j k, P i → P j → F' i k → F' j k → i = j) (ho : ∀ j, ¬ P j → ∀ k, F' j k → F j k) (hs : w.heap.size ≤ w'.heap.size) (hN : N ≤ w.heap.size) : Sep w' N F' := by
  refine ⟨?_, ?_, ?_⟩
  · intro a b k ha hb
    by_cases ea : P a
    · by_cases eb : P b
      · exact hd a b k ea eb ha hb
      · have h2 := ho b eb k hb
        rcases hi a ea k ha with h1 | h1
        · exact h.one _ _ k h1 h2
        · have := h.lt _ _ h2; omega
    · have h1 := ho a ea k ha
      by_cases eb : P b
      · rcases hi b eb k hb with h2 | h2
        · exact h.one _ _ k h1 h2
        · have := h.lt _ _ h1; omega
      · exact h.one _ _ k h1 (ho b eb k hb)
  · intro a k ha
    by_cases ea : P a
    · exact hl a ea k ha
    · have := h.lt _ _ (ho a ea k ha); omega
  · intro a k ha
    by_cases ea : P a
    · rcases hi a ea k ha with h1 | h1
      · exact h.ge _ _ h1
      · omega
    · exact h.ge _ _ (ho a ea k ha)

/-- A chain that is known: the chain, its locks' row; which locks (as numbers of rows), the places of its tickets, whether it has asked, the place that stands there. -/
structure Ck where
  X : Chn
  lv : Value
  lk : List Nat
  pl : List Nat
  ask : Bool
  plc : Int

def Ck.held (C : Ck) : Nat := if C.ask then C.pl.length - 1 else C.pl.length
def Ck.vs (C : Ck) : List Value := [.pointer (some ⟨C.X.b, 0, none⟩), C.lv, .int .i64 (C.held : Nat), .bool C.ask, .int .i64 C.plc]
def lkI (l : List Nat) : List Int := l.map fun (r : Nat) => 2 * (r : Int)
def plW (l : List Nat) : List UInt32 := l.map fun n => UInt32.ofNat n
def Ck.stN (C : Ck) : Nat := if C.ask then 2 else if C.pl.length = C.lk.length then 0 else 1

structure Ck.Ok (C : Ck) (w : World) : Prop where
  ch : C.X.In w
  row : w.ownsRow 0 3 1 C.lv C.lk.length (ivs (lkI C.lk))
  lk : C.X.lk = lkI C.lk
  tk : C.X.tk = plW C.pl
  st : C.X.st = C.stN
  up : C.lk.Pairwise (· < ·)
  top : ∀ r ∈ C.lk, r < 5
  len : C.pl.length ≤ C.lk.length
  pos : C.ask = true → 0 < C.pl.length ∧ C.plc = (C.pl.getD (C.pl.length - 1) 0 : Nat)

theorem Ck.Ok.kept {C : Ck} {S : Nat → Prop} {w w' : World} (h : C.Ok w) (k : Keeps S w w') (h1 : ∀ x, C.X.F x → ¬ S x) (h2 : ∀ x, RF C.lv x → ¬ S x) : C.Ok w' :=
  ⟨h.ch.kept k h1, owns_kept h.row k h2, h.lk, h.tk, h.st, h.up, h.top, h.len, h.pos⟩

def kvs (Cs : List Ck) : List Value := Cs.flatMap Ck.vs
theorem kvs_length (Cs : List Ck) : (kvs Cs).length = Cs.length * 5 := by
  induction Cs with
  | nil => rfl
  | cons a l ih => simp only [kvs, List.flatMap_cons, List.length_append] at *; rw [ih]; simp [Ck.vs]; omega
theorem kvs_append (a b : List Ck) : kvs (a ++ b) = kvs a ++ kvs b := by simp [kvs]
theorem kvs_get (Cs : List Ck) (i j : Nat) (C : Ck) (hC : Cs[i]? = some C) (hj : j < 5) : (kvs Cs)[i * 5 + j]? = C.vs[j]? := by
  induction Cs generalizing i with
  | nil => simp at hC
  | cons a l ih =>
    have e : kvs (a :: l) = a.vs ++ kvs l := by simp [kvs]
    rw [e]
    cases i with
    | zero =>
      simp at hC
      subst hC
      rw [List.getElem?_append_left (by simp [Ck.vs]; omega)]
      simp
    | succ i =>
      rw [List.getElem?_append_right (by simp [Ck.vs]; omega)]
      have e2 : (i + 1) * 5 + j - a.vs.length = i * 5 + j := by simp [Ck.vs]; omega
      rw [e2]
      exact ih i (by simpa using hC)
theorem kvs_set (Cs : List Ck) (i j : Nat) (C D : Ck) (v : Value) (hC : Cs[i]? = some C) (hj : j < 5) (hD : D.vs = C.vs.set j v) : (kvs Cs).set (i * 5 + j) v = kvs (Cs.set i D) := by
  induction Cs generalizing i with
  | nil => simp at hC
  | cons a l ih =>
    have e : ∀ (a : Ck) l, kvs (a :: l) = a.vs ++ kvs l := by intro a l; simp [kvs]
    rw [e]
    cases i with
    | zero =>
      simp at hC
      subst hC
      rw [List.set_append_left _ _ (by simp [Ck.vs]; omega), List.set_cons_zero, e, hD]
      simp
    | succ i =>
      rw [List.set_append_right _ _ (by simp [Ck.vs]; omega), List.set_cons_succ, e]
      have e2 : (i + 1) * 5 + j - a.vs.length = i * 5 + j := by simp [Ck.vs]; omega
      rw [e2, ih i (by simpa using hC)]

/-- The blocks: three things, and of each known one its chain and its locks' row. -/
def FK (a b c : Nat → Prop) (Cs : List Ck) (key k : Nat) : Prop :=
  (key = 0 ∧ a k) ∨ (key = 1 ∧ b k) ∨ (key = 2 ∧ c k) ∨ ∃ i C, Cs[i]? = some C ∧ ((key = 2 * i + 3 ∧ C.X.F k) ∨ (key = 2 * i + 4 ∧ RF C.lv k))

theorem fk0 {a b c : Nat → Prop} {Cs : List Ck} {k : Nat} (h : a k) : FK a b c Cs 0 k := .inl ⟨rfl, h⟩
theorem fk1 {a b c : Nat → Prop} {Cs : List Ck} {k : Nat} (h : b k) : FK a b c Cs 1 k := .inr (.inl ⟨rfl, h⟩)
theorem fk2 {a b c : Nat → Prop} {Cs : List Ck} {k : Nat} (h : c k) : FK a b c Cs 2 k := .inr (.inr (.inl ⟨rfl, h⟩))
theorem fkX {a b c : Nat → Prop} {Cs : List Ck} {k i : Nat} {C : Ck} (hC : Cs[i]? = some C) (h : C.X.F k) : FK a b c Cs (2 * i + 3) k := .inr (.inr (.inr ⟨i, C, hC, .inl ⟨rfl, h⟩⟩))
theorem fkL {a b c : Nat → Prop} {Cs : List Ck} {k i : Nat} {C : Ck} (hC : Cs[i]? = some C) (h : RF C.lv k) : FK a b c Cs (2 * i + 4) k := .inr (.inr (.inr ⟨i, C, hC, .inr ⟨rfl, h⟩⟩))

end Go.Proofs.Ytadhldpeklkcmaa
