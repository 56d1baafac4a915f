import Derived.Test.YtnkfdmlpjgmckaaAa
namespace Go.Proofs.Ytnkfdmlpjgmckaa
open Go.RowKit
set_option linter.unusedVariables false
set_option maxRecDepth 6000

set_option maxHeartbeats 1000000 in
theorem rshare_any (x : Cfg) (p : Int) (w : World) (N : Nat) (hi : x.In w N) (hN : N ≤ w.heap.size) (ht : tot x.cs x.cs.length ≤ 2147483647) :
    Calls Try.prog 28 #[x.v, .int .i64 p] w (ShP w x p) := by
  obtain ⟨W, hW⟩ : ∃ W, W = x.laid w := ⟨_, rfl⟩
  obtain ⟨C, hC⟩ : ∃ C, C = w.heap.size := ⟨_, rfl⟩
  have HO : Hid (One w x C N W ∧ tot x.cs x.cs.length ≤ 2147483647) := by rw [hW, hC]; exact ⟨One.mk' hi hN, ht⟩
  clear hi hN ht
  unfold Cfg.laid at hW
  go_enter Try.func28, Try.ntmps28
  go_wp2_with fail
  rw [← hW, ← hC]
  clear hW hC
  refine (usable_any x p W N HO.out.1.cin HO.out.1.nn HO.out.2).mono ?_
  rintro e w1 ⟨r, er, rfl, hR, hK⟩
  have HO1 : Hid (One w x C N w1) := HO.out.1.kept hK
  clear hK
  unfold UsR at hR
  by_cases hp : 0 ≤ p ∧ p < x.ps.length
  · rw [if_pos hp] at hR
    by_cases hf : fills x.major x.cs = true
    · rw [if_pos hf] at hR
      obtain ⟨rfl, rfl⟩ := hR
      have hmj : 1 ≤ x.major ∧ x.major ≤ 16384 := by unfold fills at hf; simp at hf; exact hf.1
      obtain ⟨r, hr, _⟩ := shr_some (u := useAll p x.cs x.cs.length) hmj
      have HR : Hid (ShR x p r 0) := by unfold Hid ShR; rw [if_pos hp, if_pos hf]; exact ⟨hr, rfl⟩
      obtain ⟨U, hU⟩ : ∃ U, useAll p x.cs x.cs.length = U := ⟨_, rfl⟩
      rw [hU] at hr ⊢
      have hq : ∀ w, (binOp .quo 59 (.float .f64 (floatOfInt .f64 U)) (.float .f64 (floatOfInt .f64 x.major))).run Try.prog w = .ok (.float .f64 r) w := fun w => run_float_arith w .quo 59 .f64 _ _ r hr
      have c1 := HO1.out.cells.2.1
      clear hp hf hr hU hmj
      go_wp2
      go_ret2
      exact ⟨r, 0, rfl, HR.out, HO1.out.keeps⟩
    · rw [if_neg hf] at hR
      obtain ⟨rfl, rfl⟩ := hR
      have HR : Hid (ShR x p 0 1) := by unfold Hid ShR; rw [if_pos hp, if_neg hf]; exact ⟨rfl, rfl⟩
      clear hp hf
      go_wp2
      go_ret2
      exact ⟨0, 1, rfl, HR.out, HO1.out.keeps⟩
  · rw [if_neg hp] at hR
    obtain ⟨rfl, rfl⟩ := hR
    have HR : Hid (ShR x p 0 142) := by unfold Hid ShR; rw [if_neg hp]; exact ⟨rfl, rfl⟩
    clear hp
    go_wp2
    go_ret2
    exact ⟨0, 142, rfl, HR.out, HO1.out.keeps⟩

/-- The greatest pause between two of the first so many spans, and the one around. -/
def gapL (l : List Spn) (g0 : Int) : Nat → Int
  | 0 => g0
  | 1 => g0
  | j + 2 => max (gapL l g0 (j + 1)) ((l[j + 1]?.getD ⟨0, 0, 0, 0⟩).fr - (l[j]?.getD ⟨0, 0, 0, 0⟩).til)
/-- What Gap tells of a partition's windows. -/
def GpL (l : List Spn) (mj : Int) (r : Int) (e : Int) : Prop :=
  (l = [] ∧ r = mj ∧ e = 0) ∨ ∃ a b, l[0]? = some a ∧ l[l.length - 1]? = some b ∧ ((a.core = b.core ∧ r = gapL l (a.fr + mj - b.til) l.length ∧ e = 0) ∨ (a.core ≠ b.core ∧ r = 0 ∧ e = 1))
def GpR (x : Cfg) (p : Int) (r : Int) (e : Int) : Prop :=
  if 0 ≤ p ∧ p < x.ps.length then if fills x.major x.cs = true then GpL (pickAll p x.cs x.cs.length) x.major r e else r = 0 ∧ e = 1 else r = 0 ∧ e = 142
def GpP (w : World) (x : Cfg) (p : Int) (e : Ending) (w' : World) : Prop := ∃ r er, e = .returned (.tuple #[.int .i64 r, .int .i64 er]) ∧ GpR x p r er ∧ Keeps (fun _ => False) w w'
theorem GpL.unique {l : List Spn} {mj r r' e e' : Int} (h : GpL l mj r e) (h' : GpL l mj r' e') : r = r' ∧ e = e' := by
  rcases h with ⟨rfl, rfl, rfl⟩ | ⟨a, b, h1, h2, h3⟩
  · rcases h' with ⟨_, rfl, rfl⟩ | ⟨a', b', h1', _⟩
    · exact ⟨rfl, rfl⟩
    · simp at h1'
  · rcases h' with ⟨rfl, _⟩ | ⟨a', b', h1', h2', h3'⟩
    · simp at h1
    · rw [h1] at h1'
      rw [h2] at h2'
      cases h1'
      cases h2'
      rcases h3 with ⟨h4, rfl, rfl⟩ | ⟨h4, rfl, rfl⟩ <;> rcases h3' with ⟨h5, rfl, rfl⟩ | ⟨h5, rfl, rfl⟩
      · exact ⟨rfl, rfl⟩
      · exact (h5 h4).elim
      · exact (h4 h5).elim
      · exact ⟨rfl, rfl⟩
theorem GpR.unique {x : Cfg} {p r r' e e' : Int} (h : GpR x p r e) (h' : GpR x p r' e') : r = r' ∧ e = e' := by
  unfold GpR at h h'
  split at h
  · rw [if_pos (by assumption)] at h'
    split at h
    · rw [if_pos (by assumption)] at h'
      exact h.unique h'
    · rw [if_neg (by assumption)] at h'
      exact ⟨by rw [h.1, h'.1], by rw [h.2, h'.2]⟩
  · rw [if_neg (by assumption)] at h'
    exact ⟨by rw [h.1, h'.1], by rw [h.2, h'.2]⟩

/-- The spans stand core by core, and their ends are small. -/
theorem pick_core {p : Int} {k : Nat} {ws : List Win} (j : Nat) {s : Spn} (h : s ∈ pick p k ws j) : s.core = k := by
  induction j with
  | zero => cases h
  | succ j ih =>
    cases hy : ws[j]? with
    | none => simp only [pick, hy] at h; exact ih h
    | some y =>
      by_cases hp : y.p = p
      · rw [pick_in hy hp, List.mem_append] at h
        rcases h with h | h
        · exact ih h
        · simp at h; rw [h]
      · rw [pick_out hy hp] at h; exact ih h
theorem pickAll_core {p : Int} {cs : List Core} (k : Nat) {s : Spn} (h : s ∈ pickAll p cs k) : s.core < k := by
  induction k with
  | zero => cases h
  | succ k ih =>
    cases hX : cs[k]? with
    | none => simp only [pickAll, hX] at h; have := ih h; omega
    | some X =>
      rw [pickAll_succ hX, List.mem_append] at h
      rcases h with h | h
      · have := ih h; omega
      · have := pick_core _ h; omega
theorem pickAll_sorted {p : Int} {cs : List Core} (k : Nat) {i j : Nat} {a b : Spn} (hij : i ≤ j) (ha : (pickAll p cs k)[i]? = some a) (hb : (pickAll p cs k)[j]? = some b) : a.core ≤ b.core := by
  induction k generalizing i j with
  | zero => simp [pickAll] at ha
  | succ k ih =>
    cases hX : cs[k]? with
    | none => simp only [pickAll, hX] at ha hb; exact ih hij ha hb
    | some X =>
      rw [pickAll_succ hX] at ha hb
      by_cases h1 : j < (pickAll p cs k).length
      · rw [List.getElem?_append_left (by omega)] at ha hb
        exact ih hij ha hb
      · rw [List.getElem?_append_right (by omega)] at hb
        have hb' := pick_core _ (List.mem_of_getElem? hb)
        have ha' := List.mem_of_getElem? ha
        rw [List.mem_append] at ha'
        rcases ha' with h | h
        · have := pickAll_core _ h; omega
        · have := pick_core _ h; omega
theorem SpOf.small {p : Int} {cs : List Core} {s : Spn} {u : Int} (h : SpOf p cs s u) (hm : allMay cs = true) : 0 ≤ s.fr ∧ s.fr ≤ 524288 ∧ 0 ≤ s.til ∧ s.til ≤ 524288 := by
  obtain ⟨k, i, X, y, rfl, hX, hy, hp, rfl⟩ := h
  unfold allMay at hm
  rw [List.all_eq_true] at hm
  have hm := may_iff.1 (hm X (List.mem_of_getElem? hX))
  have h1 := beg_bound hm.2.2 i
  have h2 := beg_bound hm.2.2 (i + 1)
  dsimp only
  omega
theorem pickAll_small {p : Int} {cs : List Core} (hm : allMay cs = true) {i : Nat} {s : Spn} (h : (pickAll p cs cs.length)[i]? = some s) : 0 ≤ s.fr ∧ s.fr ≤ 524288 ∧ 0 ≤ s.til ∧ s.til ≤ 524288 := by
  obtain ⟨us, h1, h2, h3⟩ := pickAll_use (p := p) (cs := cs) cs.length (Nat.le_refl _)
  obtain ⟨u, hu⟩ : ∃ u, us[i]? = some u := ⟨_, List.getElem?_eq_getElem (by have := (List.getElem?_eq_some_iff.1 h).1; omega)⟩
  exact (h3 i s u h hu).small hm
end Go.Proofs.Ytnkfdmlpjgmckaa
