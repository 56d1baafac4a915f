import Derived.Test.YtmkeccibminnhabWalkD
namespace Go.Proofs.Ytmkeccibminnhab
open Go.RowKit
set_option maxRecDepth 6000

/-- A reader in block b, of the bytes xs (in block g), at p, with the fault er. -/
structure Rd (w : World) (b g : Nat) (xs : List UInt8) (p : Nat) (er : Int) : Prop where
  ne : g ≠ b
  blk : Blk w b [.slice (some ⟨g, 0, none⟩) xs.length xs.length, .int .i64 p, .int .i64 er] 124
  bytes : Blk w g (bvs xs) 5
  len : xs.length ≤ maxLen
  le : p ≤ xs.length

theorem Rd.kept {S : Nat → Prop} {w w' : World} {b g p : Nat} {er : Int} {xs : List UInt8} (h : Rd w b g xs p er) (k : Keeps S w w') (hb : ¬ S b) (hg : ¬ S g) : Rd w' b g xs p er :=
  ⟨h.ne, h.blk.kept k hb, h.bytes.kept k hg, h.len, h.le⟩

theorem Rd.set {w : World} {b g p : Nat} {er : Int} {xs : List UInt8} (h : Rd w b g xs p er) (p' : Nat) (er' : Int) (hp : p' ≤ xs.length) :
    Rd ((w.setCell ⟨b, 1, none⟩ (.int .i64 p')).setCell ⟨b, 2, none⟩ (.int .i64 er')) b g xs p' er' :=
  ⟨h.ne, (h.blk.setCell 1 (.int .i64 p')).setCell 2 (.int .i64 er'), (h.bytes.setCell_ne (a := ⟨b, 1, none⟩) h.ne _).setCell_ne (a := ⟨b, 2, none⟩) h.ne _, h.len, hp⟩
theorem Rd.go {w : World} {b g p : Nat} {er : Int} {xs : List UInt8} (h : Rd w b g xs p er) (p' : Nat) (hp : p' ≤ xs.length) :
    Rd (w.setCell ⟨b, 1, none⟩ (.int .i64 p')) b g xs p' er :=
  ⟨h.ne, h.blk.setCell 1 (.int .i64 p'), h.bytes.setCell_ne (a := ⟨b, 1, none⟩) h.ne _, h.len, hp⟩

def numV (xs : List UInt8) (p : Nat) (er : Int) (n : Nat) : Nat := if er ≠ 0 then 0 else if xs.length < p + n then 0 else highN ((xs.drop p).take n)
def numP (xs : List UInt8) (p : Nat) (er : Int) (n : Nat) : Nat := if er ≠ 0 then p else if xs.length < p + n then p else p + n
def numE (xs : List UInt8) (p : Nat) (er : Int) (n : Nat) : Int := if er ≠ 0 then er else if xs.length < p + n then 12 else 0

theorem numV_lt (xs : List UInt8) (p : Nat) (er : Int) (n : Nat) : numV xs p er n < 256 ^ n := by
  have h0 : 0 < 256 ^ n := Nat.pow_pos (by omega)
  unfold numV
  split
  · exact h0
  · split
    · exact h0
    · refine Nat.lt_of_lt_of_le (highN_lt _) (Nat.pow_le_pow_right (by omega) ?_)
      rw [List.length_take]
      exact Nat.min_le_left _ _

end Go.Proofs.Ytmkeccibminnhab
