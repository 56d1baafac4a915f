import Derived.Test.YtadhldpeklkcmaaF
namespace Go.Proofs.Ytadhldpeklkcmaa
open Go.RowKit
set_option linter.unusedVariables false

/-- A chain: its block, the rows of its locks and tickets, what they hold, its stage. -/
structure Chn where
  b : Nat
  vl : Value
  vt : Value
  lk : List Int
  tk : List UInt32
  st : Nat

/-- Its blocks. -/
def Chn.F (X : Chn) (k : Nat) : Prop := k = X.b ∨ X.vl.ownBlock = some k ∨ X.vt.ownBlock = some k

/-- What stages there may be. -/
def StOk (n m st : Nat) : Prop := (st = 0 ∧ m = n) ∨ (st = 1 ∧ m < n) ∨ (st = 2 ∧ 0 < m ∧ m ≤ n)

structure Chn.In (X : Chn) (w : World) : Prop where
  blk : Blk w X.b [X.vl, X.vt, .int .i64 (X.st : Int)] 112
  lrow : w.ownsRow 0 3 1 X.vl X.lk.length (ivs X.lk)
  trow : w.ownsRow 0 26 1 X.vt X.tk.length (wvs X.tk)
  nl : X.vl.ownBlock ≠ some X.b
  nt : X.vt.ownBlock ≠ some X.b
  ne : ∀ k, X.vl.ownBlock = some k → X.vt.ownBlock ≠ some k
  small : X.lk.length ≤ 4294967296
  top : ∀ z ∈ X.lk, z ≤ 9223372036854775807
  wf : StOk X.lk.length X.tk.length X.st

theorem owns_lt {w : World} {e : TypeId} {size n g : Nat} {v : Value} {vs : List Value} (h : w.ownsRow 0 e size v n vs) (hg : v.ownBlock = some g) : g < w.heap.size := by
  rcases h.2 with ⟨rfl, _⟩ | ⟨g', cap, cur, rfl, _, hgg, _⟩
  · simp [Value.ownBlock] at hg
  · simp [Value.ownBlock] at hg
    subst hg
    exact (Array.getElem?_eq_some_iff.1 hgg).1

theorem owns_slice {w : World} {e : TypeId} {size n : Nat} {v : Value} {vs : List Value} (h : w.ownsRow 0 e size v n vs) : ∃ a c, v = .slice a n c ∧ n ≤ c ∧ c ≤ maxLen := by
  rcases h.2 with ⟨rfl, rfl⟩ | ⟨g', cap, cur, rfl, _, _, h1, h2, _⟩
  · exact ⟨none, 0, rfl, Nat.le_refl _, Nat.zero_le _⟩
  · exact ⟨_, cap, rfl, h1, h2⟩

theorem owns_cell {w : World} {e : TypeId} {n c : Nat} {a : Option Addr} {vs : List Value} (h : w.ownsRow 0 e 1 (.slice a n c) n vs) {i : Nat} {v : Value} (hv : vs[i]? = some v) : ∃ g, a = some ⟨g, 0, none⟩ ∧ w.cell? ⟨g, i, none⟩ = some v := by
  have hlt := (List.getElem?_eq_some_iff.1 hv).1
  have hl := h.1
  rcases h.2 with ⟨h1, h2⟩ | ⟨g', cap, cur, h0, _, hg, h1, h2, h3, h4⟩
  · omega
  · cases h0
    refine ⟨g', rfl, ?_⟩
    have hB : Blk w g' cur.toList e := by unfold Blk; simpa using hg
    refine hB.cell ?_
    rw [← h4, List.getElem?_take] at hv
    split at hv
    · exact hv
    · cases hv

theorem Chn.In.lt {X : Chn} {w : World} (h : X.In w) {k : Nat} (hk : X.F k) : k < w.heap.size := by
  rcases hk with rfl | hk | hk
  · exact h.blk.lt
  · exact owns_lt h.lrow hk
  · exact owns_lt h.trow hk

theorem Chn.In.kept {X : Chn} {S : Nat → Prop} {w w' : World} (h : X.In w) (k : Keeps S w w') (hn : ∀ x, X.F x → ¬ S x) : X.In w' :=
  ⟨h.blk.kept k (hn _ (.inl rfl)), owns_kept h.lrow k fun x hx => hn x (.inr (.inl hx)), owns_kept h.trow k fun x hx => hn x (.inr (.inr hx)), h.nl, h.nt, h.ne, h.small, h.top, h.wf⟩
theorem Chn.In.grown {X : Chn} {w w' : World} (h : X.In w) (k : Keeps (fun _ => False) w w') : X.In w' := h.kept k fun _ _ e => e

/-- What a step of a chain leaves. -/
structure StepR where
  tk : List UInt32
  st : Nat
  xs : List UInt32
  did : Bool
  e : Nat

def settledN (lk : List Int) (tk : List UInt32) : Nat := if tk.length = lk.length then 0 else 1

def askP (lk : List Int) (tk : List UInt32) (st : Nat) (xs : List UInt32) : StepR :=
  if tkE xs (lk.getD tk.length 0) = 0 then ⟨tk ++ [tkT xs (lk.getD tk.length 0)], 2, tkX xs (lk.getD tk.length 0), true, 0⟩ else ⟨tk, st, xs, false, tkE xs (lk.getD tk.length 0)⟩
def lookP (lk : List Int) (tk : List UInt32) (st : Nat) (xs : List UInt32) : StepR :=
  if mnB xs (lk.getD (tk.length - 1) 0) (tk.getD (tk.length - 1) 0) = true then ⟨tk, settledN lk tk, xs, true, 0⟩ else ⟨tk, st, xs, false, okE xs (lk.getD (tk.length - 1) 0)⟩
def stepP (lk : List Int) (tk : List UInt32) (st : Nat) (xs : List UInt32) : StepR :=
  if st = 1 then askP lk tk st xs else if st = 2 then lookP lk tk st xs else ⟨tk, st, xs, false, 0⟩
def backP (lk : List Int) (tk : List UInt32) (st : Nat) (xs : List UInt32) : StepR :=
  if st = 2 then ⟨tk, st, xs, false, 170⟩
  else if tk.length = 0 then ⟨tk, st, xs, true, 0⟩
  else if frE xs (lk.getD (tk.length - 1) 0) (tk.getD (tk.length - 1) 0) = 0 then ⟨tk.take (tk.length - 1), 1, frX xs (lk.getD (tk.length - 1) 0) (tk.getD (tk.length - 1) 0), tk.length - 1 == 0, 0⟩
  else ⟨tk, st, xs, false, frE xs (lk.getD (tk.length - 1) 0) (tk.getD (tk.length - 1) 0)⟩

/-- Behind a call of a chain over a memory. -/
def CallP (X : Chn) (mb g : Nat) (r : StepR) (w : World) (e : Ending) (w' : World) : Prop :=
  e = .returned (.tuple #[.bool r.did, .int .i64 (r.e : Int)]) ∧ ∃ vt, Chn.In ⟨X.b, X.vl, vt, X.lk, r.tk, r.st⟩ w' ∧ Mm w' mb g r.xs ∧ Keeps (fun k => X.F k ∨ k = g) w w' ∧ (vt.ownBlock = X.vt.ownBlock ∨ ∃ k, vt.ownBlock = some k ∧ w.heap.size ≤ k)

set_option maxHeartbeats 400000 in
theorem settled_any (b nl cl nt ct : Nat) (al at' : Option Addr) (s : Value) (w : World) (h : Blk w b [.slice al nl cl, .slice at' nt ct, s] 112) :
    Calls Try.prog 57 #[.pointer (some ⟨b, 0, none⟩)] w fun e w' => e = .returned (.int .i64 (if nt = nl then 0 else 1)) ∧ Keeps (fun _ => False) w w' := by
  have c0 := h.cell (i := 0) rfl
  have c1 := h.cell (i := 1) rfl
  clear h
  by_cases hn : nt = nl
  · rw [if_pos hn]
    go_enter Try.func57, Try.ntmps57
    go_wp2
    go_quiet (fail)
    go_wp2
    go_ret
    exact ⟨rfl, (Keeps.refl _ _).drewN _⟩
  · rw [if_neg hn]
    go_enter Try.func57, Try.ntmps57
    go_wp2
    go_quiet (fail)
    go_wp2
    go_ret
    exact ⟨rfl, (Keeps.refl _ _).drewN _⟩

end Go.Proofs.Ytadhldpeklkcmaa
