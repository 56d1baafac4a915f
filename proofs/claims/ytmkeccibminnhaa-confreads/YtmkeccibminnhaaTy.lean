import Derived.Test.YtmkeccibminnhaaWalkF
namespace Go.Proofs.Ytmkeccibminnhaa
open Go.RowKit
set_option linter.unusedVariables false

abbrev I64 (k : Int) : Prop := -9223372036854775808 ≤ k ∧ k ≤ 9223372036854775807

structure Win where
  p : Int
  u : Int
  s : Int
deriving DecidableEq
structure Rgn where
  page : Int
  pages : Int
  frame : Int
  rights : Int
deriving DecidableEq
structure Prt where
  ch : Int
  src : Bool
deriving DecidableEq
structure Chn where
  kind : Int
  words : Int
  depth : Int
deriving DecidableEq
/-- A core as it lies in the memory: where its windows are, and they. -/
structure Core where
  a : Option Addr
  c : Nat
  ws : List Win
structure Par where
  name : ByteArray
  entry : Int
  action : Int
  restarts : Int
  inputs : Int
  outputs : Int
  ra : Option Addr
  rc : Nat
  rs : List Rgn
  pa : Option Addr
  pc : Nat
  ps : List Prt
structure Cfg where
  frames : Int
  major : Int
  kernel : Int
  room : Int
  ca : Option Addr
  cc : Nat
  cs : List Core
  pa : Option Addr
  pc : Nat
  ps : List Par
  ha : Option Addr
  hc : Nat
  hs : List Chn

abbrev Win.vs (x : Win) : List Value := [.int .i64 x.p, .int .i64 x.u, .int .i64 x.s]
abbrev Win.v (x : Win) : Value := .agg #[.int .i64 x.p, .int .i64 x.u, .int .i64 x.s]
abbrev Rgn.vs (x : Rgn) : List Value := [.int .i64 x.page, .int .i64 x.pages, .int .i64 x.frame, .int .i64 x.rights]
abbrev Rgn.v (x : Rgn) : Value := .agg #[.int .i64 x.page, .int .i64 x.pages, .int .i64 x.frame, .int .i64 x.rights]
abbrev Prt.vs (x : Prt) : List Value := [.int .i64 x.ch, .bool x.src]
abbrev Prt.v (x : Prt) : Value := .agg #[.int .i64 x.ch, .bool x.src]
abbrev Chn.vs (x : Chn) : List Value := [.int .i64 x.kind, .int .i64 x.words, .int .i64 x.depth]
abbrev Chn.v (x : Chn) : Value := .agg #[.int .i64 x.kind, .int .i64 x.words, .int .i64 x.depth]
abbrev Core.vs (x : Core) : List Value := [.slice x.a x.ws.length x.c]
abbrev Core.v (x : Core) : Value := .slice x.a x.ws.length x.c
abbrev Par.vs (x : Par) : List Value := [.string x.name, .int .i64 x.entry, .int .i64 x.action, .int .i64 x.restarts, .int .i64 x.inputs, .int .i64 x.outputs, .slice x.ra x.rs.length x.rc, .slice x.pa x.ps.length x.pc]
abbrev Par.v (x : Par) : Value := .agg #[.string x.name, .int .i64 x.entry, .int .i64 x.action, .int .i64 x.restarts, .int .i64 x.inputs, .int .i64 x.outputs, .slice x.ra x.rs.length x.rc, .slice x.pa x.ps.length x.pc]
abbrev Cfg.v (x : Cfg) : Value := .agg #[.int .i64 x.frames, .int .i64 x.major, .int .i64 x.kernel, .int .i64 x.room, .slice x.ca x.cs.length x.cc, .slice x.pa x.ps.length x.pc, .slice x.ha x.hs.length x.hc]
abbrev Cfg.vs (x : Cfg) : List Value := [.int .i64 x.frames, .int .i64 x.major, .int .i64 x.kernel, .int .i64 x.room, .slice x.ca x.cs.length x.cc, .slice x.pa x.ps.length x.pc, .slice x.ha x.hs.length x.hc]

def Win.Fine (x : Win) : Prop := I64 x.p ∧ I64 x.u ∧ I64 x.s
def Rgn.Fine (x : Rgn) : Prop := I64 x.page ∧ I64 x.pages ∧ I64 x.frame ∧ I64 x.rights
def Prt.Fine (x : Prt) : Prop := I64 x.ch
def Chn.Fine (x : Chn) : Prop := I64 x.kind ∧ I64 x.words ∧ I64 x.depth

/-- Things of so many cells each can be read at this address, one behind another. -/
def SegA {α : Type} (cells : α → List Value) (k : Nat) (w : World) (a : Option Addr) (xs : List α) : Prop :=
  xs = [] ∨ ∃ g o, a = some ⟨g, o, none⟩ ∧ ∀ j x, xs[j]? = some x → ∀ i v, (cells x)[i]? = some v → w.cell? ⟨g, o + j * k + i, none⟩ = some v

section
variable {α : Type} {cells : α → List Value} {k : Nat} {w w' : World} {a : Option Addr} {xs : List α}
theorem SegA.kept {S : Nat → Prop} (h : SegA cells k w a xs) (hK : Keeps S w w') (hn : xs ≠ [] → ∀ x, a = some x → ¬ S x.block) : SegA cells k w' a xs := by
  rcases h with h | ⟨g, o, ha, hc⟩
  · exact .inl h
  · refine .inr ⟨g, o, ha, fun j x hj i v hv => ?_⟩
    have h1 := hc j x hj i v hv
    rw [World.cell?_of_block (w := w) (hK.block g (World.block_lt_of_cell? w _ h1) (hn (fun e => by rw [e] at hj; simp at hj) _ ha))]
    exact h1
theorem SegA.below {B : Nat} (h : SegA cells k w a xs) (hK : Below B w w') (hn : xs ≠ [] → ∀ x, a = some x → x.block < B) : SegA cells k w' a xs := by
  rcases h with h | ⟨g, o, ha, hc⟩
  · exact .inl h
  · refine .inr ⟨g, o, ha, fun j x hj i v hv => ?_⟩
    rw [World.cell?_of_block (w := w) (hK.block g (hn (fun e => by rw [e] at hj; simp at hj) _ ha))]
    exact hc j x hj i v hv
theorem SegA.at (h : SegA cells k w a xs) {j : Nat} {x : α} (hj : xs[j]? = some x) : ∃ g o, a = some ⟨g, o, none⟩ ∧ ∀ i v, (cells x)[i]? = some v → w.cell? ⟨g, o + j * k + i, none⟩ = some v := by
  rcases h with h | ⟨g, o, ha, hc⟩
  · rw [h] at hj; simp at hj
  · exact ⟨g, o, ha, fun i v => hc j x hj i v⟩
end

/-! ### The form -/
def nb (n : Int) : List UInt8 := lowB 4 (n % 4294967296).toNat
def wN (n : Int) : Bool := decide (n < 0) || decide (4294967295 < n)
def nbs (ns : List Int) : List UInt8 := ns.flatMap nb
def wNs (ns : List Int) : Bool := ns.any wN
def listB {α : Type} (e : α → List UInt8) (xs : List α) : List UInt8 := if 255 < xs.length then [] else lowB 1 xs.length ++ xs.flatMap e
def listW {α : Type} (d : α → Bool) (xs : List α) : Bool := decide (255 < xs.length) || xs.any d

abbrev inc (p : Int) : Int := IntKind.i64.wrap (p + 1)
def Win.ns (x : Win) : List Int := [inc x.p, x.u, x.s]
def Rgn.ns (x : Rgn) : List Int := [x.page, x.pages, x.frame, x.rights]
def Chn.ns (x : Chn) : List Int := [x.kind, x.words, x.depth]
def Win.e (x : Win) : List UInt8 := nbs x.ns
def Rgn.e (x : Rgn) : List UInt8 := nbs x.ns
def Chn.e (x : Chn) : List UInt8 := nbs x.ns
def Prt.e (x : Prt) : List UInt8 := nbs [x.ch] ++ lowB 1 (if x.src then 1 else 0)
def Win.d (x : Win) : Bool := wNs x.ns
def Rgn.d (x : Rgn) : Bool := wNs x.ns
def Chn.d (x : Chn) : Bool := wNs x.ns
def Prt.d (x : Prt) : Bool := wNs [x.ch]
def Core.e (x : Core) : List UInt8 := listB Win.e x.ws
def Core.d (x : Core) : Bool := listW Win.d x.ws
def nameB (s : ByteArray) : List UInt8 := if 255 < s.size then [] else lowB 4 s.size ++ s.data.toList
def nameW (s : ByteArray) : Bool := decide (255 < s.size)
def Par.ns (x : Par) : List Int := [x.entry, x.action, x.restarts, x.inputs, x.outputs]
def Par.e (x : Par) : List UInt8 := nameB x.name ++ (nbs x.ns ++ (listB Rgn.e x.rs ++ listB Prt.e x.ps))
def Par.d (x : Par) : Bool := nameW x.name || (wNs x.ns || (listW Rgn.d x.rs || listW Prt.d x.ps))
def Cfg.ns (x : Cfg) : List Int := [x.frames, x.major, x.kernel, x.room]
def Cfg.e (x : Cfg) : List UInt8 := nbs x.ns ++ (listB Core.e x.cs ++ (listB Par.e x.ps ++ listB Chn.e x.hs))
def Cfg.d (x : Cfg) : Bool := wNs x.ns || (listW Core.d x.cs || (listW Par.d x.ps || listW Chn.d x.hs))

theorem nb_length (n : Int) : (nb n).length = 4 := by simp [nb, lowB]
theorem nbs_length (ns : List Int) : (nbs ns).length = 4 * ns.length := by
  induction ns with
  | nil => rfl
  | cons n ns ih => simp only [nbs, List.flatMap_cons, List.length_append, nb_length, List.length_cons] at *; omega
theorem flat_le {α : Type} (e : α → List UInt8) (m : Nat) (h : ∀ x, (e x).length ≤ m) (xs : List α) : (xs.flatMap e).length ≤ xs.length * m := by
  induction xs with
  | nil => simp
  | cons x xs ih => simp only [List.flatMap_cons, List.length_append, List.length_cons]; have := h x; rw [Nat.add_mul]; omega
theorem listB_le {α : Type} (e : α → List UInt8) (m : Nat) (h : ∀ x, (e x).length ≤ m) (xs : List α) : (listB e xs).length ≤ 1 + 255 * m := by
  unfold listB
  split
  · simp
  · have h1 := flat_le e m h xs
    have h2 : xs.length * m ≤ 255 * m := Nat.mul_le_mul_right _ (by omega)
    have : (lowB 1 xs.length).length = 1 := by simp [lowB]
    rw [List.length_append]; omega
theorem Win.e_le (x : Win) : x.e.length ≤ 12 := by unfold Win.e; rw [nbs_length]; exact Nat.le_refl _
theorem Rgn.e_le (x : Rgn) : x.e.length ≤ 16 := by unfold Rgn.e; rw [nbs_length]; exact Nat.le_refl _
theorem Chn.e_le (x : Chn) : x.e.length ≤ 12 := by unfold Chn.e; rw [nbs_length]; exact Nat.le_refl _
theorem lowB_len (k N : Nat) : (lowB k N).length = k := by simp [lowB]
theorem Prt.e_le (x : Prt) : x.e.length ≤ 5 := by unfold Prt.e; rw [List.length_append, nbs_length, lowB_len]; exact Nat.le_refl _
theorem Core.e_le (x : Core) : x.e.length ≤ 3061 := listB_le _ 12 Win.e_le _
theorem nameB_le (s : ByteArray) : (nameB s).length ≤ 259 := by
  unfold nameB
  split
  · simp
  · have : s.data.toList.length = s.size := rfl
    simp only [List.length_append, this, lowB, List.length_map, List.length_range]; omega
theorem Par.e_le (x : Par) : x.e.length ≤ 5637 := by
  have h1 := nameB_le x.name
  have h2 := listB_le _ 16 Rgn.e_le x.rs
  have h3 := listB_le _ 5 Prt.e_le x.ps
  simp only [Par.e, List.length_append, nbs_length, Par.ns, List.length_cons, List.length_nil]; omega
theorem Cfg.e_le (x : Cfg) : x.e.length ≤ 2221069 := by
  have h1 := listB_le _ _ Core.e_le x.cs
  have h2 := listB_le _ _ Par.e_le x.ps
  have h3 := listB_le _ _ Chn.e_le x.hs
  simp only [Cfg.e, List.length_append, nbs_length, Cfg.ns, List.length_cons, List.length_nil]; omega
end Go.Proofs.Ytmkeccibminnhaa
