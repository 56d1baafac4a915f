import Derived.Test.YtadhldpeklkcmaaSg
namespace Go.Proofs.Ytadhldpeklkcmaa
open Go.RowKit
set_option linter.unusedVariables false

/-- One call of the script. -/
structure Opr where
  kind : Int
  who : Int
  a : Int
  b : Int
  asked : Bool
  wd : UInt32
  la : Option Addr
  ln : Nat
  lc : Nat
  ta : Option Addr
  tn : Nat
  tc : Nat
def Opr.vs (o : Opr) : List Value := [.int .i64 o.kind, .int .i64 o.who, .int .i64 o.a, .int .i64 o.b, .bool o.asked, .int .u32 (o.wd.toNat : Int), .slice o.la o.ln o.lc, .slice o.ta o.tn o.tc]

/-- What a call leaves. -/
def PlayP (p : Pst) (N : Nat) (w : World) (e : Ending) (w' : World) : Prop :=
  e = .returned (.bool true) ∧ ∃ p' : Pst, p'.Ok N w' ∧ p'.Same ∧ p'.WB = p.WB ∧ p'.Xs.length ≤ p.Xs.length + 1 ∧ p.Xs.length ≤ p'.Xs.length ∧ p'.es.length ≤ p.es.length + 2 ∧ Keeps (fun k => N ≤ k) w w'

theorem Pst.Ok.drew {p : Pst} {N : Nat} {w : World} (h : p.Ok N w) : p.Ok N w.drew := h.same (Keeps.refl _ _).drew
theorem Pst.Ok.geF {p : Pst} {N : Nat} {w : World} (h : p.Ok N w) {c k : Nat} (hk : p.F c k) : N ≤ k := h.sep.ge c k hk

/-- The call's struct in its block. -/
theorem box_op (o : Opr) (w : World) : Keeps (fun _ => False) w (w.alloc (.cells o.vs.toArray 30)) ∧ Blk (w.alloc (.cells o.vs.toArray 30)) w.heap.size o.vs 30 :=
  ⟨(Keeps.refl _ _).alloc _, by have := Blk.new w o.vs.toArray 30; simpa using this⟩
end Go.Proofs.Ytadhldpeklkcmaa
