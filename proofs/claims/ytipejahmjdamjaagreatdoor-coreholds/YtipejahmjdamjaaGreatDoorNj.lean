import Derived.Test.YtipejahmjdamjaaGreatDoorNi
namespace Go.Proofs.YtipejahmjdamjaaGreatDoor
open Go.RowKit Go.Shelf
set_option linter.unusedVariables false
set_option linter.unusedSimpArgs false
set_option maxRecDepth 20000

/-- What a core told, in memory of one's own. -/
structure HO (w : World) (lo hi : Nat) (st : Nat → List Int) (ls : List Tl.Lf) (G gv cap : Nat) (vs : Nat → Value) : Prop where
  four : Ch.Four w G vs st (fun b => lo ≤ b ∧ b < hi)
  row : w.ownsRow 0 64 3 (.slice (some ⟨gv, 0, none⟩) ls.length cap) ls.length (Tl.flatL ls)
  g : lo ≤ G ∧ G < hi
  gv : lo ≤ gv ∧ gv < hi
theorem HO.kept {S : Nat → Prop} {w w' : World} {lo hi : Nat} {st : Nat → List Int} {ls : List Tl.Lf} {G gv cap : Nat} {vs : Nat → Value} (h : HO w lo hi st ls G gv cap vs) (hK : Keeps S w w') (hS : ∀ b, lo ≤ b → b < hi → ¬ S b) : HO w' lo hi st ls G gv cap vs :=
  ⟨h.four.kept hK (hS _ h.g.1 h.g.2) fun b hb => hS b hb.1 hb.2, owns_kept h.row hK fun b hb => by simp [Value.ownBlock] at hb; subst hb; exact hS _ h.gv.1 h.gv.2, h.g, h.gv⟩

def rwOf : Value → Rw | .slice a n c => ⟨a, n, c⟩ | _ => ⟨none, 0, 0⟩
def sel (vs1 vs2 : Nat → Value) (j : Nat) : Value := if j < 4 then vs1 j else vs2 (j - 4)
def es8 (vs1 vs2 : Nat → Value) : List Rw := (List.range 8).map fun j => rwOf (sel vs1 vs2 j)
def stw (st1 st2 : Nat → List Int) (j : Nat) : List Int := if j < 4 then st1 j else st2 (j - 4)
theorem four8 (vs1 vs2 : Nat → Value) : [] ++ Ch.four vs1 ++ Ch.four vs2 = (List.range 8).map (sel vs1 vs2) := rfl
theorem es8_get {vs1 vs2 : Nat → Value} {j : Nat} {e : Rw} (h : (es8 vs1 vs2)[j]? = some e) : j < 8 ∧ e = rwOf (sel vs1 vs2 j) := by
  unfold es8 at h
  rw [List.getElem?_map] at h
  by_cases hj : j < 8
  · rw [List.getElem?_range hj] at h
    exact ⟨hj, (Option.some.inj h).symm⟩
  · rw [List.getElem?_eq_none_iff.2 (by simp; omega)] at h
    simp at h
theorem es8_at (vs1 vs2 : Nat → Value) {j : Nat} (h : j < 8) : (es8 vs1 vs2)[j]? = some (rwOf (sel vs1 vs2 j)) := by
  unfold es8
  rw [List.getElem?_map, List.getElem?_range h]
  rfl

/-- All lists of lines of both. -/
theorem ar8 {w : World} {lo mid hi : Nat} {st1 st2 : Nat → List Int} {ls1 ls2 : List Tl.Lf} {G1 G2 gv1 gv2 cap1 cap2 : Nat} {vs1 vs2 : Nat → Value} (h1 : HO w lo mid st1 ls1 G1 gv1 cap1 vs1) (h2 : HO w mid hi st2 ls2 G2 gv2 cap2 vs2)
    (f1 : ∀ i, i < 4 → (st1 i).length ≤ 2) (f2 : ∀ i, i < 4 → (st2 i).length ≤ 2) {LB c : Nat} (hA : w.ownsRow 0 99 1 (.slice (some ⟨LB, 0, none⟩) 8 c) 8 ((List.range 8).map (sel vs1 vs2))) :
    AR w LB 0 (es8 vs1 vs2) (fun j _ => Ch.flat (stw st1 st2 j)) ∧ (∀ b, AB (es8 vs1 vs2) b → lo ≤ b ∧ b < hi) ∧ ∀ j, j < 8 → ∃ a c, sel vs1 vs2 j = .slice a (stw st1 st2 j).length c := by
  have hrow : ∀ j, j < 8 → w.ownsRow 0 3 1 (sel vs1 vs2 j) (stw st1 st2 j).length (Ch.flat (stw st1 st2 j)) := by
    intro j hj
    unfold sel stw
    by_cases h : j < 4
    · rw [if_pos h, if_pos h]; exact h1.four.row j h
    · rw [if_neg h, if_neg h]; exact h2.four.row (j - 4) (by omega)
  have hsl : ∀ j, j < 8 → ∃ a c, sel vs1 vs2 j = .slice a (stw st1 st2 j).length c := by
    intro j hj
    obtain ⟨a, c, e, _⟩ := own_slice (hrow j hj)
    exact ⟨a, c, e⟩
  have hlv : ∀ j, j < 8 → (rwOf (sel vs1 vs2 j)).lv = sel vs1 vs2 j ∧ (rwOf (sel vs1 vs2 j)).n = (stw st1 st2 j).length := by
    intro j hj
    obtain ⟨a, c, e⟩ := hsl j hj
    rw [e]
    exact ⟨rfl, rfl⟩
  have hlen : ∀ j, j < 8 → (stw st1 st2 j).length ≤ 2 := by
    intro j hj
    unfold stw
    by_cases h : j < 4
    · rw [if_pos h]; exact f1 j h
    · rw [if_neg h]; exact f2 (j - 4) (by omega)
  have hblk : ∀ j b, j < 8 → (sel vs1 vs2 j).ownBlock = some b → (j < 4 → lo ≤ b ∧ b < mid) ∧ (¬ j < 4 → mid ≤ b ∧ b < hi) := by
    intro j b hj hb
    unfold sel at hb
    refine ⟨fun h => ?_, fun h => ?_⟩
    · rw [if_pos h] at hb
      exact (h1.four.own j h b hb).2.1
    · rw [if_neg h] at hb
      exact (h2.four.own (j - 4) (by omega) b hb).2.1
  have hlm : lo ≤ mid ∧ mid ≤ hi := by have := h1.g; have := h2.g; omega
  refine ⟨⟨?_, ?_, ?_, ?_, ?_, ?_⟩, ?_, hsl⟩
  · intro j e he
    obtain ⟨hj, rfl⟩ := es8_get he
    rw [(hlv j hj).1]
    obtain ⟨g, e1, e2⟩ := owns_sliceT hA j (sel vs1 vs2 j) (by rw [List.getElem?_map, List.getElem?_range hj]; rfl)
    injection e1 with e1
    injection e1 with e1
    rw [Nat.zero_add, e1]
    exact e2
  · intro j e he
    obtain ⟨hj, rfl⟩ := es8_get he
    rw [(hlv j hj).1, (hlv j hj).2]
    exact hrow j hj
  · intro j e b he hb
    obtain ⟨hj, rfl⟩ := es8_get he
    rw [(hlv j hj).1] at hb
    intro e2
    exact own_ty (hrow j hj) hA (by decide) hb (by rw [e2]; rfl)
  · intro i j e e2 b he he2 hij hb hb2
    obtain ⟨hi', rfl⟩ := es8_get he
    obtain ⟨hj, rfl⟩ := es8_get he2
    rw [(hlv i hi').1] at hb
    rw [(hlv j hj).1] at hb2
    have q1 := hblk i b hi' hb
    have q2 := hblk j b hj hb2
    by_cases c1 : i < 4
    · by_cases c2 : j < 4
      · unfold sel at hb hb2
        rw [if_pos c1] at hb
        rw [if_pos c2] at hb2
        exact h1.four.apart i c1 j c2 hij b hb hb2
      · have := q1.1 c1
        have := q2.2 c2
        omega
    · by_cases c2 : j < 4
      · have := q1.2 c1
        have := q2.1 c2
        omega
      · unfold sel at hb hb2
        rw [if_neg c1] at hb
        rw [if_neg c2] at hb2
        exact h2.four.apart (i - 4) (by omega) (j - 4) (by omega) (by omega) b hb hb2
  · intro j e he
    obtain ⟨hj, rfl⟩ := es8_get he
    rw [(hlv j hj).2]
    have := hlen j hj
    omega
  · intro j e he
    obtain ⟨hj, rfl⟩ := es8_get he
    rw [(hlv j hj).2]
    have := (hrow j hj).1
    omega
  · rintro b ⟨j, e, he, hb⟩
    obtain ⟨hj, rfl⟩ := es8_get he
    rw [(hlv j hj).1] at hb
    have q := hblk j b hj hb
    by_cases c : j < 4
    · have := q.1 c; omega
    · have := q.2 c; omega

/-- Four lists behind a list of lists. -/
theorem app_rows {w : World} (a0 : Option Addr) (n c0 : Nat) (us : List Value) (hown : w.ownsRow 0 99 1 (.slice a0 n c0) n us) (G : Nat) (vs : Nat → Value) (st : Nat → List Int) (D : Nat → Prop) (h : Ch.Four w G vs st D) (hn : n ≤ 8589934000) :
    ∃ v' W', (∀ ty, (Builtin.append_ #[41, 41] ty #[.slice a0 n c0, .slice (some ⟨G, 0, none⟩) 4 4]).run Tryz.prog w = .ok v' W') ∧ W'.ownsRow 0 99 1 v' (n + 4) (us ++ Ch.four vs) ∧ App (.slice a0 n c0) v' w W' := by
  obtain ⟨v', W', h1, h2, h3⟩ := app_two elemR a0 n c0 us hown ⟨G, 0, none⟩ 4 4 (Ch.four vs) rfl (by omega) (fun j u hj => by rw [addr_add, Nat.zero_add]; exact h.blk.cell hj) (by
    intro u hu
    simp [Ch.four] at hu
    rcases hu with rfl | rfl | rfl | rfl
    · obtain ⟨a, c, e, _⟩ := own_slice (h.row 0 (by omega)); rw [e]; rfl
    · obtain ⟨a, c, e, _⟩ := own_slice (h.row 1 (by omega)); rw [e]; rfl
    · obtain ⟨a, c, e, _⟩ := own_slice (h.row 2 (by omega)); rw [e]; rfl
    · obtain ⟨a, c, e, _⟩ := own_slice (h.row 3 (by omega)); rw [e]; rfl) (by omega)
  exact ⟨v', W', h1, h2, h3.elim (fun h => .inl ⟨by rw [h.1]; exact own_any _ _ _ _ _, h.2⟩) .inr⟩

end Go.Proofs.YtipejahmjdamjaaGreatDoor
