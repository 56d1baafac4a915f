import Derived.Test.YtljhdijledclhaaBg
import Derived.Test.YtljhdijledclhaaSf
import Derived.Test.YtljhdijledclhaaWc
import Derived.Test.YtljhdijledclhaaWd
import Derived.Test.YtljhdijledclhaaWe
import Derived.Test.YtljhdijledclhaaWf
import Derived.Test.YtljhdijledclhaaWg
import Derived.Test.YtljhdijledclhaaWh
import Derived.Test.YtljhdijledclhaaMm
import Derived.Test.YtljhdijledclhaaMn
import Derived.Test.YtljhdijledclhaaIb
import Derived.Test.YtljhdijledclhaaIc
namespace Go.Proofs.Ytljhdijledclhaa
open Go.RowKit
set_option linter.unusedVariables false

/-- A call of the script. -/
structure Oc where
  k : Int
  who : Int
  oth : Int
  a : Int
  b : Int
  c : Int
  W : UInt32
  pw : Option Addr
  ws : List UInt32
  cw : Nat
instance : Inhabited Oc := ⟨⟨0, 0, 0, 0, 0, 0, 0, none, [], 0⟩⟩
def Oc.cells (x : Oc) : Array Value := #[.int .i64 x.k, .int .i64 x.who, .int .i64 x.oth, .int .i64 x.a, .int .i64 x.b, .int .i64 x.c, .int .u32 (x.W.toNat : Int), .slice x.pw x.ws.length x.cw]
structure Oc.Ok (x : Oc) (w : World) : Prop where
  who : in64 x.who
  oth : in64 x.oth
  a : in64 x.a
  b : in64 x.b
  c : in64 x.c
  l : x.ws.length ≤ maxLen
  pw : SegW w x.pw x.ws

/-- What a call of the play leaves. -/
def Went (w0 : World) (X T : Nat) (e : Ending) (w' : World) : Prop := e = .returned (.bool true) ∧ Game w0 w' X T

section
variable {w0 w : World} {X T : Nat} {x : Oc}
theorem call8 (h : Game w0 w X T) (hx : x.Ok w0) (hl : x.ws.length ≤ 4294967000) (hk : x.k = 1 ∨ x.k = 2 ∨ x.k = 10) : Calls Try.prog 8 #[.pointer (some ⟨X, 0, none⟩), .agg x.cells] w (Went w0 X (T + 2)) := by
  obtain ⟨k, who, oth, a, b, c, W, pw, ws, cw⟩ := x
  have h1 := hx.who
  have h2 := hx.pw
  dsimp only at h1 h2 hl hk
  unfold Oc.cells
  rcases hk with rfl | rfl | rfl
  · exact (makes_1 who oth a b c _ _ w0 w X T h).mono fun e w' h' => ⟨h'.1, h'.2.mono (by omega)⟩
  · exact (makes_2 who oth a b c _ pw ws cw w0 w X T h h2 hl).mono fun e w' h' => ⟨h'.1, h'.2.mono (by omega)⟩
  · exact (makes_10 who oth a b c _ _ w0 w X T h h1).mono fun e w' h' => ⟨h'.1, h'.2.mono (by omega)⟩
theorem call9 (h : Game w0 w X T) (hx : x.Ok w0) : Calls Try.prog 9 #[.pointer (some ⟨X, 0, none⟩), .agg x.cells] w (Went w0 X (T + 2)) :=
  (differs_any _ _ _ _ _ _ _ _ w0 w X T h hx.who hx.oth hx.c).mono fun e w' h' => ⟨h'.1, h'.2.mono (by omega)⟩
theorem call10 (h : Game w0 w X T) : Calls Try.prog 10 #[.pointer (some ⟨X, 0, none⟩)] w (Went w0 X (T + 2)) :=
  (nobody_any w0 w X T h).mono fun e w' h' => ⟨h'.1, h'.2.mono (by omega)⟩
theorem call11 (h : Game w0 w X T) (hx : x.Ok w0) (hT : T ≤ 8589934592) : Calls Try.prog 11 #[.pointer (some ⟨X, 0, none⟩), .agg x.cells] w (Went w0 X (T + 2)) := by
  obtain ⟨k, who, oth, a, b, c, W, pw, ws, cw⟩ := x
  have h1 := hx.who
  have h2 := hx.oth
  have h3 := hx.c
  dsimp only at h1 h2 h3
  unfold Oc.cells
  by_cases hk : k = 13
  · subst hk
    exact (iterators_13 who oth a b c _ _ w0 w X T h h1 h2 hT).mono fun e w' h' => ⟨h'.1, h'.2.mono (by omega)⟩
  · exact (iterators_14 k who oth a b c _ _ w0 w X T h (by simpa using hk) h3 hT).mono fun e w' h' => ⟨h'.1, h'.2.mono (by omega)⟩
theorem call12 (h : Game w0 w X T) (hx : x.Ok w0) (hl : x.ws.length ≤ 4294967000) (hT : T ≤ 8589934592) : Calls Try.prog 12 #[.pointer (some ⟨X, 0, none⟩), .agg x.cells] w (Went w0 X (T + 2)) := by
  obtain ⟨k, who, oth, a, b, c, W, pw, ws, cw⟩ := x
  have h1 := hx.who
  have h3 := hx.a
  have h4 := hx.b
  have h5 := hx.c
  have h6 := hx.pw
  dsimp only at h1 h3 h4 h5 h6 hl
  unfold Oc.cells
  by_cases k3 : k = 3
  · subst k3; exact works_3 who oth a b c _ _ w0 w X T h h1 h3
  by_cases k4 : k = 4
  · subst k4; exact works_4 who oth a b c W _ w0 w X T h h1 h3 h4 h5
  by_cases k5 : k = 5
  · subst k5; exact works_5 who oth a b c _ _ w0 w X T h h1 h3 h4 hT
  by_cases k6 : k = 6
  · subst k6; exact works_6 who oth a b c _ pw ws cw w0 w X T h h1 h3 h6 hl
  by_cases k7 : k = 7
  · subst k7; exact works_7 who oth a b c W _ w0 w X T h h1 h3 h4 h5
  by_cases k8 : k = 8
  · subst k8; exact works_8 who oth a b c W _ w0 w X T h h1 h3 h4 h5
  by_cases k9 : k = 9
  · subst k9; exact works_9 who oth a b c _ _ w0 w X T h h1 h3 h4 hT
  exact works_x k who oth a b c _ _ w0 w X T h h1 (by simpa using k3) (by simpa using k4) (by simpa using k5) (by simpa using k6) (by simpa using k7) (by simpa using k8) (by simpa using k9)
end

/-- How many pairs there are. -/
theorem Game.many {w0 w : World} {X T : Nat} (h : Game w0 w X T) : ∃ (L lb lc : Nat), L ≤ 12 ∧ w.cell? ⟨X, 0, none⟩ = some (.slice (some ⟨lb, 0, none⟩) L lc) := by
  obtain ⟨P, lb, lc, h1, h2, h3⟩ := h.pairs
  exact ⟨P.length, lb, lc, h2, (h3 w (Keeps.refl _ _)).1⟩

def OcAt (w : World) (g o : Nat) (x : Oc) : Prop := ∀ i v, x.cells.toList[i]? = some v → w.cell? ⟨g, o + i, none⟩ = some v
theorem OcAt.grown {w w' : World} {g o : Nat} {x : Oc} (h : OcAt w g o x) (k : Keeps (fun _ => False) w w') : OcAt w' g o x := fun i v hv => cell_kept (h i v hv) k id
/-- These calls can be read at this address. -/
def SegOc (w : World) (a : Option Addr) (xs : List Oc) : Prop :=
  xs = [] ∨ ∃ g o, a = some ⟨g, o, none⟩ ∧ ∀ j x, xs[j]? = some x → OcAt w g (o + j * 8) x
end Go.Proofs.Ytljhdijledclhaa
