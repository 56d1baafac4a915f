import Derived.Test.YtpccdhoaicabcaaRc
import Derived.Test.YtpccdhoaicabcaaApp
namespace Go.Proofs.Ytpccdhoaicabcaa
open Go.RowKit
set_option linter.unusedVariables false
set_option linter.unusedSimpArgs false

theorem lay_over (xs : List UInt32) (p : Nat) (x y : UInt32) (h : p < xs.length) : lay (lay xs p [x]) p [y] = lay xs p [y] := by
  apply List.ext_getElem?
  intro i
  rw [lay_get _ _ _ (by rw [lay_length _ _ _ (by simp; omega)]; simp; omega), lay_get _ _ _ (by simp; omega), lay_get _ _ _ (by simp; omega)]
  simp only [List.length_cons, List.length_nil]
  split
  · rfl
  · rfl
theorem lay_nil (xs : List UInt32) (p : Nat) : lay xs p [] = xs := by simp [lay]

theorem Rn.set {w : World} {b g n : Nat} {xs : List UInt32} (h : Rn w b g n xs) (p : Nat) (x : UInt32) (hp : p < xs.length) : Rn (w.setCell ⟨g, p, none⟩ (.int .u32 (x.toNat : Int))) b g n (lay xs p [x]) := by
  have hl := lay_length xs p [x] (by simp; omega)
  have e : (wvs xs).set p (.int .u32 (x.toNat : Int)) = wvs (lay xs p [x]) := by
    have hlt : p < (wvs xs).length := by rw [wvs_length]; exact hp
    rw [List.set_eq_take_append_cons_drop, if_pos hlt]
    simp [lay, wvs_append, wvs_take, wvs_drop]
    simp [wvs]
  refine ⟨h.ne, ?_, ?_, h.small, by rw [hl]; exact h.len⟩
  · rw [hl]; exact h.blk.setCell_ne h.ne _
  · rw [← e]; exact h.row.setCell p _

/-- The document's memory while tables are laid: t sixteens are done. -/
def tops (f : Nat → Option (Nat × Nat)) (ts : List Int) (t : Nat) : List UInt32 := (List.range t).map (topW f ts)
theorem tops_length (f : Nat → Option (Nat × Nat)) (ts : List Int) (t : Nat) : (tops f ts t).length = t := by simp [tops]
theorem tops_succ (f : Nat → Option (Nat × Nat)) (ts : List Int) (t : Nat) : tops f ts (t + 1) = tops f ts t ++ [topW f ts t] := by simp [tops, List.range_succ]
def rlaid (f : Nat → Option (Nat × Nat)) (ts : List Int) (root : Nat) (xs : List UInt32) (t : Nat) : List UInt32 := lay (layed f ts xs t) (16 * root) (tops f ts t)
/-- The root's entry t written, the table's first i words. -/
def rmid (f : Nat → Option (Nat × Nat)) (ts : List Int) (root : Nat) (xs : List UInt32) (t i : Nat) : List UInt32 :=
  lay (lay (layed f ts xs t) (16 * root) (tops f ts (t + 1))) (16 * (ts.getD (cnt f t) 0).toNat) ((rowL f t).take i)

/-- Frames in n frames, the root none of the tables. -/
structure Lays (f : Nat → Option (Nat × Nat)) (ts : List Int) (root n : Nat) (xs : List UInt32) : Prop where
  len : xs.length = n * 16
  rl : root < n
  ok : ∀ t, t ∈ ts → 0 ≤ t ∧ t < n
  ne : ∀ t, t ∈ ts → t ≠ (root : Int)
  cn : cnt f 16 = ts.length

theorem Lays.tab {f : Nat → Option (Nat × Nat)} {ts : List Int} {root n : Nat} {xs : List UInt32} (h : Lays f ts root n xs) {t : Nat} (ht : t < 16) (hn : needB f t = true) :
    ∃ T : Nat, ts[cnt f t]? = some (T : Int) ∧ ts.getD (cnt f t) 0 = (T : Int) ∧ T < n ∧ T ≠ root := by
  have hC : cnt f t < ts.length := by rw [← h.cn]; exact cnt_lt _ ht hn
  have hm := List.getElem_mem hC
  have h1 := h.ok _ hm
  have h2 := h.ne _ hm
  obtain ⟨T, hT⟩ := Int.eq_ofNat_of_zero_le h1.1
  refine ⟨T, by rw [List.getElem?_eq_getElem hC, hT], by simp [List.getD, hC, hT], by omega, by omega⟩
theorem Lays.layed_len {f : Nat → Option (Nat × Nat)} {ts : List Int} {root n : Nat} {xs : List UInt32} (h : Lays f ts root n xs) : ∀ t, t ≤ 16 → (layed f ts xs t).length = n * 16
  | 0, _ => h.len
  | t + 1, ht => by
    have ih := h.layed_len t (by omega)
    cases hn : needB f t
    · rw [layed_no hn]; exact ih
    · obtain ⟨T, _, hT, hTn, _⟩ := h.tab (by omega) hn
      rw [layed_yes hn, lay_length _ _ _ (by rw [hT, rowL_length, ih]; simp; omega)]; exact ih
theorem Lays.rlaid_len {f : Nat → Option (Nat × Nat)} {ts : List Int} {root n : Nat} {xs : List UInt32} (h : Lays f ts root n xs) (t : Nat) (ht : t ≤ 16) : (rlaid f ts root xs t).length = n * 16 := by
  unfold rlaid
  rw [lay_length _ _ _ (by rw [tops_length, h.layed_len t ht]; have := h.rl; omega), h.layed_len t ht]
theorem rlaid_zero (f : Nat → Option (Nat × Nat)) (ts : List Int) (root : Nat) (xs : List UInt32) : rlaid f ts root xs 0 = xs := by
  unfold rlaid; rw [show tops f ts 0 = [] from rfl, lay_nil]; rfl
theorem rlaid_full (f : Nat → Option (Nat × Nat)) (ts : List Int) (root : Nat) (xs : List UInt32) : rlaid f ts root xs 16 = builtL f ts root xs := rfl
theorem rlaid_word {f : Nat → Option (Nat × Nat)} {ts : List Int} {root n : Nat} {xs : List UInt32} (h : Lays f ts root n xs) {t : Nat} (ht : t < 16) :
    lay (rlaid f ts root xs t) (16 * root + t) [topW f ts t] = lay (layed f ts xs t) (16 * root) (tops f ts (t + 1)) := by
  unfold rlaid
  have := lay_one (layed f ts xs t) (16 * root) (tops f ts t) (topW f ts t) (by rw [tops_length, h.layed_len t (by omega)]; have := h.rl; omega)
  rw [tops_length] at this
  rw [this, tops_succ]
theorem rlaid_no {f : Nat → Option (Nat × Nat)} {ts : List Int} {root n : Nat} {xs : List UInt32} (h : Lays f ts root n xs) {t : Nat} (ht : t < 16) (hn : needB f t = false) :
    lay (rlaid f ts root xs t) (16 * root + t) [0] = rlaid f ts root xs (t + 1) := by
  have := rlaid_word h ht
  rw [topW_no hn] at this
  rw [this]; unfold rlaid; rw [layed_no hn]
theorem rmid_zero {f : Nat → Option (Nat × Nat)} {ts : List Int} {root n : Nat} {xs : List UInt32} (h : Lays f ts root n xs) {t : Nat} (ht : t < 16) (x : UInt32) :
    lay (lay (rlaid f ts root xs t) (16 * root + t) [x]) (16 * root + t) [topW f ts t] = rmid f ts root xs t 0 := by
  rw [lay_over _ _ _ _ (by rw [h.rlaid_len t (by omega)]; have := h.rl; omega), rlaid_word h ht]
  unfold rmid; rw [List.take_zero, lay_nil]
theorem rmid_base_len {f : Nat → Option (Nat × Nat)} {ts : List Int} {root n : Nat} {xs : List UInt32} (h : Lays f ts root n xs) {t : Nat} (ht : t < 16) : (lay (layed f ts xs t) (16 * root) (tops f ts (t + 1))).length = n * 16 := by
  rw [lay_length _ _ _ (by rw [tops_length, h.layed_len t (by omega)]; have := h.rl; omega), h.layed_len t (by omega)]
theorem rmid_len {f : Nat → Option (Nat × Nat)} {ts : List Int} {root n : Nat} {xs : List UInt32} (h : Lays f ts root n xs) {t i : Nat} (ht : t < 16) (hn : needB f t = true) (hi : i ≤ 16) : (rmid f ts root xs t i).length = n * 16 := by
  obtain ⟨T, _, hT, hTn, _⟩ := h.tab ht hn
  unfold rmid
  rw [lay_length _ _ _ (by rw [hT, rmid_base_len h ht, List.length_take, rowL_length]; simp; omega), rmid_base_len h ht]
theorem rowL_get (f : Nat → Option (Nat × Nat)) (t i : Nat) (h : i < 16) : (rowL f t).take (i + 1) = (rowL f t).take i ++ [encO (f (t * 16 + i))] := by
  rw [List.take_add_one]
  congr 1
  simp [rowL, h]
theorem rmid_step {f : Nat → Option (Nat × Nat)} {ts : List Int} {root n : Nat} {xs : List UInt32} (h : Lays f ts root n xs) {t i T : Nat} (ht : t < 16) (hn : needB f t = true) (hi : i < 16) (hT : ts.getD (cnt f t) 0 = (T : Int)) (hTn : T < n) :
    lay (rmid f ts root xs t i) (16 * T + i) [encO (f (t * 16 + i))] = rmid f ts root xs t (i + 1) := by
  unfold rmid
  rw [hT, Int.toNat_natCast, rowL_get f t i hi]
  have hl : ((rowL f t).take i).length = i := by rw [List.length_take, rowL_length]; omega
  have := lay_one (lay (layed f ts xs t) (16 * root) (tops f ts (t + 1))) (16 * T) ((rowL f t).take i) (encO (f (t * 16 + i))) (by rw [hl, rmid_base_len h ht]; omega)
  rw [hl] at this
  exact this
theorem rmid_full {f : Nat → Option (Nat × Nat)} {ts : List Int} {root n : Nat} {xs : List UInt32} (h : Lays f ts root n xs) {t : Nat} (ht : t < 16) (hn : needB f t = true) : rmid f ts root xs t 16 = rlaid f ts root xs (t + 1) := by
  obtain ⟨T, _, hT, hTn, hTr⟩ := h.tab ht hn
  unfold rmid rlaid
  rw [List.take_of_length_le (by rw [rowL_length]; exact Nat.le_refl _), layed_yes hn, hT, Int.toNat_natCast]
  have hr := h.rl
  rw [lay_comm _ _ _ _ _ (by rw [tops_length, h.layed_len t (by omega)]; omega) (by rw [rowL_length, h.layed_len t (by omega)]; omega) (by rw [tops_length, rowL_length]; omega)]

/-- A region's index tells where a page stands. -/
theorem idx_at {rs : List Rgn} {p : Nat} (hm : MayB rs) (h : 0 ≤ idx rs p) : ∃ (i : Nat) (r : Rgn), idx rs p = i ∧ rs[i]? = some r ∧ r.ok ∧ r.page ≤ p ∧ (p : Int) < r.page + r.pages ∧ findL rs p = some ((r.frame + ((p : Int) - r.page)).toNat, r.rights.toNat) := by
  unfold idx at h ⊢
  cases hf : rs.findIdx? (fun r => r.has p) with
  | none => rw [hf] at h; simp at h
  | some i =>
    have h2 := List.findIdx?_eq_some_iff_getElem.1 hf
    obtain ⟨hi, h1, h3⟩ := h2
    have hb := has_bounds (r := rs[i]) (p := p) (by simpa using h1)
    refine ⟨i, rs[i], rfl, List.getElem?_eq_getElem hi, (hm i _ (List.getElem?_eq_getElem hi)).1, hb.1, hb.2, ?_⟩
    unfold findL
    have : rs.find? (fun r => r.has p) = some rs[i] := by
      rw [List.find?_eq_some_iff_getElem]
      exact ⟨by simpa using h1, i, hi, rfl, fun j hj => by simpa using h3 j hj⟩
    rw [this]; rfl

end Go.Proofs.Ytpccdhoaicabcaa
