import Derived.Test.YtekijhhpldnmnaaTt
namespace Go.Proofs.Ytekijhhpldnmnaa
open Go.RowKit
set_option linter.unusedVariables false
set_option linter.unusedSimpArgs false

/-- What the document's Deliver answers. -/
def NxD (w : World) (D M : Nat) (X : List UInt32) (E : Int) (e : Ending) (w' : World) : Prop :=
  ∃ D' c', e = .returned (.tuple #[.slice (some ⟨D', 0, none⟩) M c', .int .i64 E]) ∧ (D' = D ∨ w.heap.size ≤ D') ∧ Blk w' D' (wvs X) 52 ∧ Keeps (fun _ => False) w w'

section
variable {xs : List UInt32} {p : Int} {n d : Nat} {ports : List Int}
theorem dl_base (hf : fitE false n d = 0) (hk : ¬ 4 < ports.length) : dlE false xs p n d ports = if inM xs 1 n d p = false then 51 else if ports.all (inM xs 3 n d) = false then 51 else if rtM xs 1 n d p = false then 201 else if ports.all (rtM xs 3 n d) = false then 201 else 0 := by
  unfold dlE; rw [if_neg (fun e => e hf), if_neg hk]
theorem dl_in (hf : fitE false n d = 0) (hk : ¬ 4 < ports.length) (hi : ¬ (0 ≤ p ∧ p + (rsz 1 n d : Int) ≤ xs.length)) : dlE false xs p n d ports = 51 := by
  rw [dl_base hf hk, if_pos (show inM xs 1 n d p = false from decide_eq_false hi)]
theorem dl_pin (hf : fitE false n d = 0) (hk : ¬ 4 < ports.length) (hi : 0 ≤ p ∧ p + (rsz 1 n d : Int) ≤ xs.length) {q : Int} (hq : q ∈ ports) (hn : ¬ (0 ≤ q ∧ q + (rsz 3 n d : Int) ≤ xs.length)) : dlE false xs p n d ports = 51 := by
  rw [dl_base hf hk, if_neg (by rw [show inM xs 1 n d p = true from decide_eq_true hi]; decide), if_pos]
  cases hx : ports.all (inM xs 3 n d) with
  | false => rfl
  | true => exact absurd (of_decide_eq_true (List.all_eq_true.1 hx q hq)) hn
theorem rt_iff {h : Nat} {q : Int} (hf : fitE false n d = 0) (hi : 0 ≤ q ∧ q + (rsz h n d : Int) ≤ xs.length) : lkE false xs q h n d = if rtM xs h n d q = true then 0 else 201 := by
  obtain ⟨q', rfl⟩ : ∃ k : Nat, q = k := ⟨q.toNat, by omega⟩
  exact lkE_in hf (by omega)
theorem dl_all (hn : ∀ q ∈ ports, 0 ≤ q ∧ q + (rsz 3 n d : Int) ≤ xs.length) : ports.all (inM xs 3 n d) = true := List.all_eq_true.2 fun q hq => decide_eq_true (hn q hq)
theorem dl_st (hf : fitE false n d = 0) (hk : ¬ 4 < ports.length) (hi : 0 ≤ p ∧ p + (rsz 1 n d : Int) ≤ xs.length) (hn : ∀ q ∈ ports, 0 ≤ q ∧ q + (rsz 3 n d : Int) ≤ xs.length) (hl : lkE false xs p 1 n d ≠ 0) : dlE false xs p n d ports = lkE false xs p 1 n d := by
  rw [dl_base hf hk, if_neg (by rw [show inM xs 1 n d p = true from decide_eq_true hi]; decide), if_neg (by rw [dl_all hn]; decide)]
  rw [rt_iff hf hi] at hl ⊢
  cases hx : rtM xs 1 n d p with
  | false => rfl
  | true => rw [hx] at hl; exact absurd rfl hl
theorem dl_s1 (hf : fitE false n d = 0) (hi : 0 ≤ p ∧ p + (rsz 1 n d : Int) ≤ xs.length) (hl : lkE false xs p 1 n d = 0) : rtM xs 1 n d p = true := by
  rw [rt_iff hf hi] at hl
  cases hx : rtM xs 1 n d p with
  | false => rw [hx] at hl; exact absurd hl (by decide)
  | true => rfl
theorem dl_po (hf : fitE false n d = 0) (hk : ¬ 4 < ports.length) (hi : 0 ≤ p ∧ p + (rsz 1 n d : Int) ≤ xs.length) (hn : ∀ q ∈ ports, 0 ≤ q ∧ q + (rsz 3 n d : Int) ≤ xs.length) (hl : lkE false xs p 1 n d = 0) {q : Int} (hq : q ∈ ports) (hl3 : lkE false xs q 3 n d ≠ 0) : dlE false xs p n d ports = lkE false xs q 3 n d := by
  rw [dl_base hf hk, if_neg (by rw [show inM xs 1 n d p = true from decide_eq_true hi]; decide), if_neg (by rw [dl_all hn]; decide), if_neg (by rw [dl_s1 hf hi hl]; decide)]
  rw [rt_iff hf (hn q hq)] at hl3 ⊢
  cases hx : rtM xs 3 n d q with
  | true => rw [hx] at hl3; exact absurd rfl hl3
  | false =>
    rw [if_pos]
    · rfl
    · cases hy : ports.all (rtM xs 3 n d) with
      | false => rfl
      | true => have := List.all_eq_true.1 hy q hq; rw [hx] at this; cases this
theorem dl_ok (hf : fitE false n d = 0) (hk : ¬ 4 < ports.length) (hi : 0 ≤ p ∧ p + (rsz 1 n d : Int) ≤ xs.length) (hn : ∀ q ∈ ports, 0 ≤ q ∧ q + (rsz 3 n d : Int) ≤ xs.length) (hl : lkE false xs p 1 n d = 0) (hl3 : ∀ q ∈ ports, lkE false xs q 3 n d = 0) : dlE false xs p n d ports = 0 := by
  rw [dl_base hf hk, if_neg (by rw [show inM xs 1 n d p = true from decide_eq_true hi]; decide), if_neg (by rw [dl_all hn]; decide), if_neg (by rw [dl_s1 hf hi hl]; decide), if_neg]
  have : ports.all (rtM xs 3 n d) = true := List.all_eq_true.2 fun q hq => by
    have h := hl3 q hq
    rw [rt_iff hf (hn q hq)] at h
    cases hx : rtM xs 3 n d q with
    | true => rfl
    | false => rw [hx] at h; exact absurd h (by decide)
  rw [this]; decide
theorem dlF_no {E : Int} (h1 : dlE false xs p n d ports = E) (h2 : E ≠ 0) : dlF false xs p n d ports = xs := by unfold dlF; rw [if_neg (by rw [h1]; exact h2)]
theorem dlF_yes (h1 : dlE false xs p n d ports = 0) : dlF false xs p n d ports = dlX xs p n d ports := by unfold dlF; rw [if_pos h1]
end

/-- Rows of messages, whose own block is not below a bound. -/
def MsT (lo : Nat) (S : Nat → Prop) (w : World) (v : Value) (ms : List (List UInt32)) : Prop := MsS S w v ms ∧ ∀ b, blkO v = some b → lo ≤ b
theorem msT_app {lo : Nat} {S : Nat → Prop} {w : World} {v : Value} {ms : List (List UInt32)} (h : MsT lo S w v ms) (hlo : lo ≤ w.heap.size) (m : List UInt32) (B : Nat) (hB : Blk w B (wvs m) 52) (hS : S B) (hl : ms.length ≤ 1000) :
    ∃ v' W', (∀ ty, (Builtin.append_ #[43, 43] ty #[v, .slice (some ⟨w.heap.size, 0, none⟩) 1 1]).run Try.prog (w.alloc (.cells #[.slice (some ⟨B, 0, none⟩) m.length m.length] 22)) = .ok v' W') ∧ MsT lo S W' v' (ms ++ [m]) ∧ Keeps (fun k => some k = blkO v) w W' := by
  obtain ⟨⟨vals, h1, h3, h4⟩, h5⟩ := h
  obtain ⟨v', W', r1, r2, r3, r4⟩ := append_row22 (w := w) (.slice (some ⟨B, 0, none⟩) m.length m.length) rfl v vals h1 (by omega)
  have hne : ∀ (b : Nat) l, Blk w b l 52 → ¬ some b = blkO v := fun b l hb e => by
    obtain ⟨l2, hl2⟩ := h1.blk e.symm
    exact hb.ne hl2 (by decide) rfl
  refine ⟨v', W', r1, ⟨⟨vals ++ [.slice (some ⟨B, 0, none⟩) m.length m.length], r2, by simp [h3], fun j x hj => ?_⟩, ?_⟩, r4⟩
  · by_cases hjl : j < ms.length
    · rw [List.getElem?_append_left hjl] at hj
      obtain ⟨C, q1, q2, q3⟩ := h4 j x hj
      exact ⟨C, q1, by rw [List.getElem?_append_left (by omega)]; exact q2, q3.kept r4 (hne C _ q3)⟩
    · have : j = ms.length := by have := (List.getElem?_eq_some_iff.1 hj).1; simp at this; omega
      subst this
      rw [List.getElem?_append_right (Nat.le_refl _), Nat.sub_self] at hj
      cases hj
      exact ⟨B, hS, by rw [List.getElem?_append_right (by omega), h3, Nat.sub_self]; rfl, hB.kept r4 (hne B _ hB)⟩
  · intro b hb
    rcases r3 with r3 | ⟨k, r3, r5⟩
    · exact h5 b (by rw [← r3]; exact hb)
    · rw [r3] at hb; cases hb; omega
theorem MsT.keptR {lo : Nat} {S : Nat → Prop} {w wr : World} {v : Value} {ms : List (List UInt32)} {R : Nat} {l : List Value} (h : MsT lo S w v ms) (hR : Blk w R l 92) (k : Keeps (· = R) w wr) : MsT lo S wr v ms := by
  obtain ⟨⟨vals, h1, h3, h4⟩, h5⟩ := h
  refine ⟨⟨vals, h1.kept k fun b hb e => ?_, h3, fun j m hj => ?_⟩, h5⟩
  · obtain ⟨l2, hl2⟩ := h1.blk hb
    exact hl2.ne hR (by decide) e
  · obtain ⟨B, q1, q2, q3⟩ := h4 j m hj
    exact ⟨B, q1, q2, q3.kept k fun e => q3.ne hR (by decide) e⟩
theorem MsT.grown {lo : Nat} {S : Nat → Prop} {w wr : World} {v : Value} {ms : List (List UInt32)} (h : MsT lo S w v ms) (k : Keeps (fun _ => False) w wr) : MsT lo S wr v ms := ⟨h.1.grown k, h.2⟩
theorem MsR.toT {lo : Nat} {S : Nat → Prop} {w : World} {v : Value} {ms : List (List UInt32)} (h : MsR lo w v ms) (hS : ∀ B, lo ≤ B → S B) : MsT lo S w v ms := by
  obtain ⟨vals, h1, h2, h3, h4⟩ := h
  exact ⟨⟨vals, h1, h3, fun j m hj => by obtain ⟨B, q1, q2, q3⟩ := h4 j m hj; exact ⟨B, hS B q1, q2, q3⟩⟩, h2⟩
theorem bringN_f (d : Nat) (x : Rw) (ms : List (List UInt32)) : (bringN d x ms).f = x.f := by
  unfold bringN
  induction ms generalizing x with
  | nil => rfl
  | cons m t ih =>
    rw [List.foldl_cons, ih]
    unfold Rw.bring
    split <;> rfl

end Go.Proofs.Ytekijhhpldnmnaa
