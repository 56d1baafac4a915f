import Derived.Test.YthegceijlfflfaaGreatCn
import Derived.Test.YthegceijlfflfaaGreatJWalkF
namespace Go.Proofs.YthegceijlfflfaaGreat
open Go.RowKit
set_option linter.unusedVariables false
def nb (n : Int) : List UInt8 := lowB 4 (n % 4294967296).toNat
def wN (n : Int) : Bool := decide (n < 0) || decide (4294967295 < n)
def nbs (ns : List Int) : List UInt8 := ns.flatMap nb
def wNs (ns : List Int) : Bool := ns.any wN
def listB {α : Type} (e : α → List UInt8) (xs : List α) : List UInt8 := if 255 < xs.length then [] else lowB 1 xs.length ++ xs.flatMap e
def listW {α : Type} (d : α → Bool) (xs : List α) : Bool := decide (255 < xs.length) || xs.any d
abbrev inc (p : Int) : Int := IntKind.i64.wrap (p + 1)
def Win.ns (x : Win) : List Int := [inc x.p, x.u, x.s]
def Rgn.ns (x : Rgn) : List Int := [x.page, x.pages, x.frame, x.rights]
def Chn.ns (x : Chn) : List Int := [x.kind, x.words, x.depth]
def Win.e (x : Win) : List UInt8 := nbs x.ns
def Rgn.e (x : Rgn) : List UInt8 := nbs x.ns
def Chn.e (x : Chn) : List UInt8 := nbs x.ns
def Prt.e (x : Prt) : List UInt8 := nbs [x.ch] ++ lowB 1 (if x.src then 1 else 0)
def Win.d (x : Win) : Bool := wNs x.ns
def Rgn.d (x : Rgn) : Bool := wNs x.ns
def Chn.d (x : Chn) : Bool := wNs x.ns
def Prt.d (x : Prt) : Bool := wNs [x.ch]
def Core.e (x : Core) : List UInt8 := listB Win.e x.ws
def Core.d (x : Core) : Bool := listW Win.d x.ws
def nameBy (s : ByteArray) : List UInt8 := if 255 < s.size then [] else lowB 4 s.size ++ s.data.toList
def nameW (s : ByteArray) : Bool := decide (255 < s.size)
def Par.e (x : Par) : List UInt8 := nameBy x.name ++ (nbs x.ns ++ (listB Rgn.e x.rs ++ listB Prt.e x.ps))
def Par.d (x : Par) : Bool := nameW x.name || (wNs x.ns || (listW Rgn.d x.rs || listW Prt.d x.ps))
def Cfg.e (x : Cfg) : List UInt8 := nbs x.ns ++ (listB Core.e x.cs ++ (listB Par.e x.ps ++ listB Chn.e x.hs))
def Cfg.d (x : Cfg) : Bool := wNs x.ns || (listW Core.d x.cs || (listW Par.d x.ps || listW Chn.d x.hs))
theorem nb_length (n : Int) : (nb n).length = 4 := by simp [nb, lowB]
theorem nbs_length (ns : List Int) : (nbs ns).length = 4 * ns.length := by
 induction ns with
 | nil => rfl
 | cons n ns ih => simp only [nbs, List.flatMap_cons, List.length_append, nb_length, List.length_cons] at *; omega
theorem flat_le {α : Type} (e : α → List UInt8) (m : Nat) (h : ∀ x, (e x).length ≤ m) (xs : List α) : (xs.flatMap e).length ≤ xs.length * m := by
 induction xs with
 | nil => simp
 | cons x xs ih => simp only [List.flatMap_cons, List.length_append, List.length_cons]; have := h x; rw [Nat.add_mul]; omega
theorem listB_le {α : Type} (e : α → List UInt8) (m : Nat) (h : ∀ x, (e x).length ≤ m) (xs : List α) : (listB e xs).length ≤ 1 + 255 * m := by
 unfold listB
 split
 ·
  simp
 ·
  have h1 := flat_le e m h xs
  have h2 : xs.length * m ≤ 255 * m := Nat.mul_le_mul_right _ (by omega)
  have : (lowB 1 xs.length).length = 1 := by simp [lowB]
  rw [List.length_append]; omega
theorem Win.e_le (x : Win) : x.e.length ≤ 12 := by unfold Win.e; rw [nbs_length]; exact Nat.le_refl _
theorem Rgn.e_le (x : Rgn) : x.e.length ≤ 16 := by unfold Rgn.e; rw [nbs_length]; exact Nat.le_refl _
theorem Chn.e_le (x : Chn) : x.e.length ≤ 12 := by unfold Chn.e; rw [nbs_length]; exact Nat.le_refl _
theorem lowB_len (k N : Nat) : (lowB k N).length = k := by simp [lowB]
theorem Prt.e_le (x : Prt) : x.e.length ≤ 5 := by unfold Prt.e; rw [List.length_append, nbs_length, lowB_len]; exact Nat.le_refl _
theorem Core.e_le (x : Core) : x.e.length ≤ 3061 := listB_le _ 12 Win.e_le _
theorem nameB_le (s : ByteArray) : (nameBy s).length ≤ 259 := by
 unfold nameBy
 split
 ·
  simp
 ·
  have : s.data.toList.length = s.size := rfl
  simp only [List.length_append, this, lowB, List.length_map, List.length_range]; omega
theorem Par.e_le (x : Par) : x.e.length ≤ 5637 := by
 have h1 := nameB_le x.name
 have h2 := listB_le _ 16 Rgn.e_le x.rs
 have h3 := listB_le _ 5 Prt.e_le x.ps
 simp only [Par.e, List.length_append, nbs_length, Par.ns, List.length_cons, List.length_nil]; omega
theorem Cfg.e_le (x : Cfg) : x.e.length ≤ 2221069 := by
 have h1 := listB_le _ _ Core.e_le x.cs
 have h2 := listB_le _ _ Par.e_le x.ps
 have h3 := listB_le _ _ Chn.e_le x.hs
 simp only [Cfg.e, List.length_append, nbs_length, Cfg.ns, List.length_cons, List.length_nil]; omega
end Go.Proofs.YthegceijlfflfaaGreat
namespace Go.Proofs.YthegceijlfflfaaGreat
open Go.RowKit
set_option linter.unusedVariables false
structure PPar where
 name : ByteArray
 entry : Int
 action : Int
 restarts : Int
 inputs : Int
 outputs : Int
 rs : List Rgn
 ps : List Prt
structure PCfg where
 frames : Int
 major : Int
 kernel : Int
 room : Int
 cs : List (List Win)
 ps : List PPar
 hs : List Chn
def Par.pure (x : Par) : PPar := ⟨x.name, x.entry, x.action, x.restarts, x.inputs, x.outputs, x.rs, x.ps⟩
def Cfg.pure (x : Cfg) : PCfg := ⟨x.frames, x.major, x.kernel, x.room, x.cs.map Core.ws, x.ps.map Par.pure, x.hs⟩
abbrev Rs (α : Type) := Except Nat (α × Nat)
def rdNum (B : List UInt8) (p : Nat) : Rs Int := if B.length < p + 4 then .error p else .ok (((highN ((B.drop p).take 4) : Nat) : Int), p + 4)
def rdU8 (B : List UInt8) (p : Nat) : Rs Nat := if B.length < p + 1 then .error p else .ok (highN ((B.drop p).take 1), p + 1)
def rdText (B : List UInt8) (p : Nat) : Rs ByteArray := if txtE B p 0 255 = 0 then .ok (⟨(txtV B p 0 255).toArray⟩, txtP B p 0 255) else .error p
def rdSrc (B : List UInt8) (p : Nat) : Rs Bool := (rdU8 B p).bind fun r => if 1 < r.1 then .error p else .ok (r.1 == 1, r.2)
def rdMany {α : Type} (f : Nat → Rs α) : Nat → Nat → Rs (List α)
 | 0, p => .ok ([], p)
 | n + 1, p => (rdMany f n p).bind fun r => (f r.2).bind fun s => .ok (r.1 ++ [s.1], s.2)
def rdList {α : Type} (B : List UInt8) (f : Nat → Rs α) (p : Nat) : Rs (List α) := (rdU8 B p).bind fun r => rdMany f r.1 r.2
def rdWin (B : List UInt8) (p : Nat) : Rs Win := (rdNum B p).bind fun a => (rdNum B a.2).bind fun b => (rdNum B b.2).bind fun c => .ok (⟨a.1 - 1, b.1, c.1⟩, c.2)
def rdRgn (B : List UInt8) (p : Nat) : Rs Rgn := (rdNum B p).bind fun a => (rdNum B a.2).bind fun b => (rdNum B b.2).bind fun c => (rdNum B c.2).bind fun d => .ok (⟨a.1, b.1, c.1, d.1⟩, d.2)
def rdChn (B : List UInt8) (p : Nat) : Rs Chn := (rdNum B p).bind fun a => (rdNum B a.2).bind fun b => (rdNum B b.2).bind fun c => .ok (⟨a.1, b.1, c.1⟩, c.2)
def rdPrt (B : List UInt8) (p : Nat) : Rs Prt := (rdNum B p).bind fun a => (rdSrc B a.2).bind fun b => .ok (⟨a.1, b.1⟩, b.2)
def rdCore (B : List UInt8) (p : Nat) : Rs (List Win) := rdList B (rdWin B) p
def rdPar (B : List UInt8) (p : Nat) : Rs PPar := (rdText B p).bind fun s => (rdNum B s.2).bind fun a => (rdNum B a.2).bind fun b => (rdNum B b.2).bind fun c => (rdNum B c.2).bind fun d => (rdNum B d.2).bind fun e =>
 (rdList B (rdRgn B) e.2).bind fun r => (rdList B (rdPrt B) r.2).bind fun q => .ok (⟨s.1, a.1, b.1, c.1, d.1, e.1, r.1, q.1⟩, q.2)
def rdCfg (B : List UInt8) (p : Nat) : Rs PCfg := (rdNum B p).bind fun a => (rdNum B a.2).bind fun b => (rdNum B b.2).bind fun c => (rdNum B c.2).bind fun d =>
 (rdList B (rdCore B) d.2).bind fun x => (rdList B (rdPar B) x.2).bind fun y => (rdList B (rdChn B) y.2).bind fun z => .ok (⟨a.1, b.1, c.1, d.1, x.1, y.1, z.1⟩, z.2)
theorem bind_ok {α β : Type} {r : Rs β} {x : Rs α} {f : α × Nat → Rs β} {v : α × Nat} (hC : r = x.bind f) (h : x = .ok v) : r = f v := by rw [hC, h]; rfl
theorem bind_err {α β : Type} {r : Rs β} {x : Rs α} {f : α × Nat → Rs β} {q : Nat} (hC : r = x.bind f) (h : x = .error q) : r = .error q := by rw [hC, h]; rfl
end Go.Proofs.YthegceijlfflfaaGreat
