import Derived.Test.YtmkeccibminnhaaTy
namespace Go.Proofs.Ytmkeccibminnhaa
open Go.RowKit
set_option linter.unusedVariables false

structure PPar where
  name : ByteArray
  entry : Int
  action : Int
  restarts : Int
  inputs : Int
  outputs : Int
  rs : List Rgn
  ps : List Prt
structure PCfg where
  frames : Int
  major : Int
  kernel : Int
  room : Int
  cs : List (List Win)
  ps : List PPar
  hs : List Chn
def Par.pure (x : Par) : PPar := ⟨x.name, x.entry, x.action, x.restarts, x.inputs, x.outputs, x.rs, x.ps⟩
def Cfg.pure (x : Cfg) : PCfg := ⟨x.frames, x.major, x.kernel, x.room, x.cs.map Core.ws, x.ps.map Par.pure, x.hs⟩

abbrev Rs (α : Type) := Except Nat (α × Nat)
def rdNum (B : List UInt8) (p : Nat) : Rs Int := if B.length < p + 4 then .error p else .ok (((highN ((B.drop p).take 4) : Nat) : Int), p + 4)
def rdU8 (B : List UInt8) (p : Nat) : Rs Nat := if B.length < p + 1 then .error p else .ok (highN ((B.drop p).take 1), p + 1)
def rdText (B : List UInt8) (p : Nat) : Rs ByteArray := if txtE B p 0 255 = 0 then .ok (⟨(txtV B p 0 255).toArray⟩, txtP B p 0 255) else .error p
def rdSrc (B : List UInt8) (p : Nat) : Rs Bool := (rdU8 B p).bind fun r => if 1 < r.1 then .error p else .ok (r.1 == 1, r.2)
def rdMany {α : Type} (f : Nat → Rs α) : Nat → Nat → Rs (List α)
  | 0, p => .ok ([], p)
  | n + 1, p => (rdMany f n p).bind fun r => (f r.2).bind fun s => .ok (r.1 ++ [s.1], s.2)
def rdList {α : Type} (B : List UInt8) (f : Nat → Rs α) (p : Nat) : Rs (List α) := (rdU8 B p).bind fun r => rdMany f r.1 r.2
def rdWin (B : List UInt8) (p : Nat) : Rs Win := (rdNum B p).bind fun a => (rdNum B a.2).bind fun b => (rdNum B b.2).bind fun c => .ok (⟨a.1 - 1, b.1, c.1⟩, c.2)
def rdRgn (B : List UInt8) (p : Nat) : Rs Rgn := (rdNum B p).bind fun a => (rdNum B a.2).bind fun b => (rdNum B b.2).bind fun c => (rdNum B c.2).bind fun d => .ok (⟨a.1, b.1, c.1, d.1⟩, d.2)
def rdChn (B : List UInt8) (p : Nat) : Rs Chn := (rdNum B p).bind fun a => (rdNum B a.2).bind fun b => (rdNum B b.2).bind fun c => .ok (⟨a.1, b.1, c.1⟩, c.2)
def rdPrt (B : List UInt8) (p : Nat) : Rs Prt := (rdNum B p).bind fun a => (rdSrc B a.2).bind fun b => .ok (⟨a.1, b.1⟩, b.2)
def rdCore (B : List UInt8) (p : Nat) : Rs (List Win) := rdList B (rdWin B) p
def rdPar (B : List UInt8) (p : Nat) : Rs PPar := (rdText B p).bind fun s => (rdNum B s.2).bind fun a => (rdNum B a.2).bind fun b => (rdNum B b.2).bind fun c => (rdNum B c.2).bind fun d => (rdNum B d.2).bind fun e =>
  (rdList B (rdRgn B) e.2).bind fun r => (rdList B (rdPrt B) r.2).bind fun q => .ok (⟨s.1, a.1, b.1, c.1, d.1, e.1, r.1, q.1⟩, q.2)
def rdCfg (B : List UInt8) (p : Nat) : Rs PCfg := (rdNum B p).bind fun a => (rdNum B a.2).bind fun b => (rdNum B b.2).bind fun c => (rdNum B c.2).bind fun d =>
  (rdList B (rdCore B) d.2).bind fun x => (rdList B (rdPar B) x.2).bind fun y => (rdList B (rdChn B) y.2).bind fun z => .ok (⟨a.1, b.1, c.1, d.1, x.1, y.1, z.1⟩, z.2)

theorem bind_ok {α β : Type} {r : Rs β} {x : Rs α} {f : α × Nat → Rs β} {v : α × Nat} (hC : r = x.bind f) (h : x = .ok v) : r = f v := by rw [hC, h]; rfl
theorem bind_err {α β : Type} {r : Rs β} {x : Rs α} {f : α × Nat → Rs β} {q : Nat} (hC : r = x.bind f) (h : x = .error q) : r = .error q := by rw [hC, h]; rfl
end Go.Proofs.Ytmkeccibminnhaa
