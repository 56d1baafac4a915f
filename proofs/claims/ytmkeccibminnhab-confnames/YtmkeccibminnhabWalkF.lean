import Derived.Test.YtmkeccibminnhabWalkE
import Derived.Laws.BytesString
namespace Go.Proofs.Ytmkeccibminnhab
open Go.RowKit
set_option maxRecDepth 6000

section
variable {P : Program} {w : World}
theorem wpList_convert_run {ops : Array Oper} {rest : List Oper} {o : Oper} {a : Act} {Q : Exit → Act → World → Prop} (hgd : o.guard = none) (s : Operand) (t k : TypeId)
    (ho : o.op = .convert t k s) (vs v' : Value) (w' : World) (hs : a.eval s = vs)
    (hr : (convert t k vs).run P w = .ok v' w') (h : wpList P ops Q rest (a.put o.dst v') w') : wpList P ops Q (o :: rest) a w :=
  wpList_plain hgd fun _ hK => by
    unfold Oper.wp execOp
    simp only [ho, hs, Sem.run_bind, hr, Result.andThen_ok, Sem.run_pure]
    exact hK _ _ h

theorem foldl_push (xs : List UInt8) : ∀ s : ByteArray, (xs.map fun x => (x.toNat : Int)).foldl (fun r n => r.push (UInt8.ofNat n.toNat)) s = ⟨s.data ++ xs.toArray⟩ := by
  induction xs with
  | nil => intro s; simp
  | cons x r ih =>
    intro s
    simp only [List.map_cons, List.foldl_cons]
    rw [ih]
    have : UInt8.ofNat ((x.toNat : Int)).toNat = x := by simp
    rw [this]
    simp [ByteArray.push]

theorem run_text_of (src dst e : TypeId) (hs : P.underlying src = some (.slice e)) (he : P.underlying e = some (.int .u8)) (hd : P.underlying dst = some .string)
    (g o c : Nat) (l : List Value) (t : TypeId) (hg : Blk w g l t) (xs : List UInt8) (hx : xs = [] ∨ (l.drop o).take xs.length = bvs xs) :
    (convert src dst (.slice (some ⟨g, o, none⟩) xs.length c)).run P w = .ok (.string ⟨xs.toArray⟩) w := by
  rw [run_convert_bytes_string w src dst e _ _ _ hs he hd]
  have hb : bvs xs = (xs.map fun x => (x.toNat : Int)).map (Value.int .u8) := by simp [bvs]
  have hl := run_loadCells_list (P := P) w ⟨g, o, none⟩ (bvs xs) (by
    intro j v hj
    rcases hx with hx | hx
    · subst hx; simp [bvs] at hj
    · rw [← hx, List.getElem?_take] at hj
      split at hj
      · rw [List.getElem?_drop] at hj
        rw [addr_add]
        exact hg.cell hj
      · cases hj)
  rw [bvs_length, hb] at hl
  rw [run_bytesToString w _ _ _ _ hl, foldl_push]
  simp [ByteArray.empty, ByteArray.emptyWithCapacity]
  rfl
end

/-- What Text answers, and where it leaves the reader. -/
def txtN (xs : List UInt8) (p : Nat) : Nat := highN ((xs.drop p).take 4)
def txtE (xs : List UInt8) (p : Nat) (er most : Int) : Int :=
  if er ≠ 0 then er else if xs.length < p + 4 then 12 else if max most 0 < (txtN xs p : Int) then 14 else if xs.length < p + 4 + txtN xs p then 12 else 0
def txtOk (xs : List UInt8) (p : Nat) (er most : Int) : Prop := er = 0 ∧ p + 4 ≤ xs.length ∧ ¬ max most 0 < (txtN xs p : Int) ∧ p + 4 + txtN xs p ≤ xs.length
def txtV (xs : List UInt8) (p : Nat) (er most : Int) : List UInt8 := if txtE xs p er most = 0 then (xs.drop (p + 4)).take (txtN xs p) else []
def txtP (xs : List UInt8) (p : Nat) (er most : Int) : Nat := if txtE xs p er most = 0 then p + 4 + txtN xs p else p

def endE (xs : List UInt8) (p : Nat) (er : Int) : Int := if er ≠ 0 then er else if p < xs.length then 13 else 0
end Go.Proofs.Ytmkeccibminnhab
