import Derived.Test.YtfcgpjojjehkiaaN
namespace Go.Proofs.Ytfcgpjojjehkiaa
open Go.RowKit
set_option linter.unusedVariables false

def wn (xs : List UInt32) (b : Bx) : List UInt32 := win xs b.p.toNat (b.h + b.n.toNat)
def rtB (xs : List UInt32) (b : Bx) : Bool := rightB b.h b.n.toNat (wn xs b)
abbrev Bx.tk (b : Bx) (N : Nat) : Int := tkE false N b.p b.h b.n
def takesE (N : Nat) : List Bx → Int
  | [] => 0
  | b :: bs => if b.tk N ≠ 0 then b.tk N else takesE N bs
def okAt (xs : List UInt32) (bs : List Bx) (i : Nat) : Bool := rtB xs (bs.getD i default) && !((bs.take i).any (bs.getD i default).meets)
def formB (xs : List UInt32) (bs : List Bx) : Bool := (List.range bs.length).all (okAt xs bs)
def laE (xs : List UInt32) (bs : List Bx) : Int := if takesE xs.length bs ≠ 0 then takesE xs.length bs else if formB xs bs then 0 else 191

theorem takesE_at {N : Nat} {bs : List Bx} {j : Nat} {b : Bx} (h : ∀ i c, i < j → bs[i]? = some c → c.tk N = 0) (hb : bs[j]? = some b) (he : b.tk N ≠ 0) : takesE N bs = b.tk N := by
  induction bs generalizing j with
  | nil => simp at hb
  | cons c bs ih =>
    unfold takesE
    cases j with
    | zero =>
      simp at hb
      subst hb
      rw [if_pos he]
    | succ j =>
      have h0 := h 0 c (by omega) rfl
      rw [if_neg (by simpa using h0)]
      exact ih (j := j) (fun i d hi hd => h (i + 1) d (by omega) (by simpa using hd)) (by simpa using hb)
theorem takesE_all {N : Nat} {bs : List Bx} (h : ∀ b ∈ bs, b.tk N = 0) : takesE N bs = 0 := by
  induction bs with
  | nil => rfl
  | cons c bs ih =>
    unfold takesE
    rw [if_neg (by simpa using h c (by simp))]
    exact ih fun b hb => h b (by simp [hb])
theorem takesE_zero {N : Nat} {bs : List Bx} (h : takesE N bs = 0) : ∀ b ∈ bs, b.tk N = 0 := by
  induction bs with
  | nil => intro b hb; cases hb
  | cons c bs ih =>
    unfold takesE at h
    by_cases h0 : c.tk N = 0
    · rw [if_neg (by simpa using h0)] at h
      intro b hb
      rcases List.mem_cons.1 hb with rfl | hb
      · exact h0
      · exact ih h b hb
    · rw [if_pos h0] at h; exact absurd h h0
theorem tk_fine {N : Nat} {b : Bx} (h : b.tk N = 0) (hN : N ≤ 16384) (hh : b.h = 2 ∨ b.h = 3) : b.Fine := by
  obtain ⟨-, h1, h2, h3, h4⟩ := tkE_ok h
  exact ⟨h3, by omega, hh, h1, h2⟩
theorem tk_len {xs : List UInt32} {b : Bx} (h : b.tk xs.length = 0) : (wn xs b).length = b.h + b.n.toNat := by
  obtain ⟨-, h1, h2, h3, h4⟩ := tkE_ok h
  exact win_length _ _ _ (by omega)

theorem Try.info22 : (Try.prog.info? 22).map (fun i => (i.zero, i.size, i.bytes)) = some (some (.slice none 0 0), 1, 24) := by kernel_rfl
theorem run_make_rows {w : World} (n : Nat) (hn : n ≤ 1000) :
    (Instr.makeSlice 90 (.int .i64 n) (.int .i64 n)).run Try.prog w = .ok (.slice (some ⟨w.heap.size, 0, none⟩) n n) (w.alloc (.cells (List.replicate n (Value.slice none 0 0)).toArray 22)) := by
  obtain ⟨i0, hi, hz0, hz1, hz2⟩ := info_parts Try.info22
  have h := run_make (P := Try.prog) w 90 22 i0 _ Try.underlying90 hi hz0 .i64 .i64 n n (by omega) (by omega) (by rw [hz2]; omega) (by omega)
  rw [hz1, Nat.mul_one, Int.toNat_natCast] at h
  have e : madeCells (Value.slice none 0 0).cells n = (List.replicate n (Value.slice none 0 0)).toArray := by
    apply Array.ext'
    apply List.ext_getElem?
    intro i
    have hm : i % 1 = 0 := by omega
    simp [madeCells, List.getElem?_replicate]
    by_cases hi : i < n
    · simp [hi, Value.cells, hm]
    · simp [hi]
  rw [e] at h
  exact h

/-- While the boxes' words are taken. -/
structure Taken (w : World) (H : Nat) (xs : List UInt32) (bs : List Bx) (j : Nat) : Prop where
  row : ∃ hv, Blk w H hv 22 ∧ hv.length = bs.length ∧ ∀ i b, i < j → bs[i]? = some b → b.tk xs.length = 0 ∧ ∃ B, H < B ∧ hv[i]? = some (.slice (some ⟨B, 0, none⟩) (wn xs b).length (wn xs b).length) ∧ Blk w B (wvs (wn xs b)) 34

theorem Taken.kept {w w' : World} {H : Nat} {xs : List UInt32} {bs : List Bx} {j : Nat} (h : Taken w H xs bs j) (k : Keeps (fun _ => False) w w') : Taken w' H xs bs j := by
  obtain ⟨hv, h1, h2, h3⟩ := h.row
  refine ⟨hv, h1.kept k fun e => e, h2, fun i b hi hb => ?_⟩
  obtain ⟨q1, B, q2, q3, q4⟩ := h3 i b hi hb
  exact ⟨q1, B, q2, q3, q4.kept k fun e => e⟩

theorem Taken.put {w : World} {H : Nat} {xs : List UInt32} {bs : List Bx} {j B : Nat} {b : Bx} (h : Taken w H xs bs j) (hb : bs[j]? = some b) (ht : b.tk xs.length = 0) (hB : Blk w B (wvs (wn xs b)) 34) (hne : H < B) :
    Taken (w.setCell ⟨H, j, none⟩ (.slice (some ⟨B, 0, none⟩) (wn xs b).length (wn xs b).length)) H xs bs (j + 1) := by
  obtain ⟨hv, h1, h2, h3⟩ := h.row
  have hj : j < bs.length := (List.getElem?_eq_some_iff.1 hb).1
  refine ⟨hv.set j (.slice (some ⟨B, 0, none⟩) (wn xs b).length (wn xs b).length), h1.setCell j _, by rw [List.length_set]; exact h2, fun i c hi hc => ?_⟩
  by_cases e : i = j
  · subst e
    rw [hb] at hc
    obtain rfl := Option.some.inj hc
    exact ⟨ht, B, hne, by rw [List.getElem?_set_self (by omega)], hB.setCell_ne (by show B ≠ H; omega) _⟩
  · obtain ⟨q1, B', q2, q3, q4⟩ := h3 i c (by omega) hc
    exact ⟨q1, B', q2, by rw [List.getElem?_set_ne (by omega)]; exact q3, q4.setCell_ne (by show B' ≠ H; omega) _⟩

theorem Taken.cell {w : World} {H : Nat} {xs : List UInt32} {bs : List Bx} {j : Nat} (h : Taken w H xs bs j) {i : Nat} (hi : i < bs.length) : (∃ v, w.cell? ⟨H, i, none⟩ = some v) ∧ w.frozen? ⟨H, i, none⟩ = false := by
  obtain ⟨hv, h1, h2, h3⟩ := h.row
  exact ⟨⟨hv[i]'(by omega), h1.cell (List.getElem?_eq_getElem _)⟩, h1.frozen i⟩

end Go.Proofs.Ytfcgpjojjehkiaa
