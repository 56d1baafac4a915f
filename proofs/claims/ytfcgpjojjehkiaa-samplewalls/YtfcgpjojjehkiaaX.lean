import Derived.Test.YtfcgpjojjehkiaaU
namespace Go.Proofs.Ytfcgpjojjehkiaa
open Go.RowKit
set_option linter.unusedVariables false

theorem win_get? (xs : List UInt32) (p m i : Nat) : (win xs p m)[i]? = if i < m then xs[p + i]? else none := by
  unfold win
  rw [List.getElem?_take, List.getElem?_drop]
theorem win_lay_apart (xs : List UInt32) (p : Nat) (ys : List UInt32) (q m : Nat) (h : p + ys.length ≤ xs.length) (ha : p + ys.length ≤ q ∨ q + m ≤ p) : win (lay xs p ys) q m = win xs q m := by
  apply List.ext_getElem?
  intro i
  rw [win_get?, win_get?]
  by_cases hi : i < m
  · rw [if_pos hi, if_pos hi, lay_get? _ _ _ h, if_neg (by omega)]
  · rw [if_neg hi, if_neg hi]
theorem win_lay_in (xs : List UInt32) (p : Nat) (ys : List UInt32) (q m : Nat) (h : q + m ≤ xs.length) (h1 : q ≤ p) (h2 : p + ys.length ≤ q + m) : win (lay xs p ys) q m = lay (win xs q m) (p - q) ys := by
  have hl := win_length xs q m h
  apply List.ext_getElem?
  intro i
  rw [win_get?, lay_get? _ _ _ (by omega), lay_get? _ _ _ (by omega), win_get?]
  by_cases hi : i < m
  · rw [if_pos hi]
    by_cases hc : p ≤ q + i ∧ q + i < p + ys.length
    · rw [if_pos hc, if_pos (by omega)]; congr 1; omega
    · rw [if_neg hc, if_neg (by omega), if_pos hi]
  · rw [if_neg hi, if_neg (by omega), if_neg hi]
theorem lay_all (l ys : List UInt32) (h : ys.length = l.length) : lay l 0 ys = ys := by simp [lay, h]
theorem win_lay_same (xs : List UInt32) (p : Nat) (ys : List UInt32) (h : p + ys.length ≤ xs.length) : win (lay xs p ys) p ys.length = ys := by
  rw [win_lay_in xs p ys p ys.length h (Nat.le_refl _) (Nat.le_refl _), Nat.sub_self, lay_all _ _ (by rw [win_length _ _ _ h])]
theorem lay_win (xs : List UInt32) (p m : Nat) (h : p + m ≤ xs.length) : lay xs p (win xs p m) = xs := by
  have hl := win_length xs p m h
  apply List.ext_getElem?
  intro i
  rw [lay_get? _ _ _ (by omega), hl]
  by_cases hc : p ≤ i ∧ i < p + m
  · rw [if_pos hc, win_get?, if_pos (by omega)]; congr 1; omega
  · rw [if_neg hc]

/-- Two rows of words lie apart. -/
def Apt (p m q k : Nat) : Prop := p + m ≤ q ∨ q + k ≤ p

/-- A step at a place changes the words there alone. -/
structure StepAt (m : Nat) (φ : List UInt32 → List UInt32) (step : List UInt32 → Nat → List UInt32) : Prop where
  len : ∀ ys q, q + m ≤ ys.length → (step ys q).length = ys.length
  loc : ∀ ys q p k, q + m ≤ ys.length → Apt q m p k → win (step ys q) p k = win ys p k
  eff : ∀ ys q, q + m ≤ ys.length → win (step ys q) q m = φ (win ys q m)

variable {m : Nat} {φ : List UInt32 → List UInt32} {step : List UInt32 → Nat → List UInt32}
theorem StepAt.fold_len (h : StepAt m φ step) (qs : List Nat) (xs : List UInt32) (hq : ∀ q ∈ qs, q + m ≤ xs.length) : (qs.foldl step xs).length = xs.length := by
  induction qs generalizing xs with
  | nil => rfl
  | cons q qs ih =>
    have h1 := h.len xs q (hq q (by simp))
    rw [List.foldl_cons, ih _ (fun r hr => by rw [h1]; exact hq r (by simp [hr])), h1]
theorem StepAt.fold_other (h : StepAt m φ step) (qs : List Nat) (xs : List UInt32) (hq : ∀ q ∈ qs, q + m ≤ xs.length) (p k : Nat) (ha : ∀ q ∈ qs, Apt q m p k) : win (qs.foldl step xs) p k = win xs p k := by
  induction qs generalizing xs with
  | nil => rfl
  | cons q qs ih =>
    have h1 := h.len xs q (hq q (by simp))
    rw [List.foldl_cons, ih _ (fun r hr => by rw [h1]; exact hq r (by simp [hr])) (fun r hr => ha r (by simp [hr])), h.loc xs q p k (hq q (by simp)) (ha q (by simp))]
theorem StepAt.fold_at (h : StepAt m φ step) (qs : List Nat) (xs : List UInt32) (hq : ∀ q ∈ qs, q + m ≤ xs.length) (hp : qs.Pairwise fun a b => Apt a m b m) (p : Nat) (hm : p ∈ qs) : win (qs.foldl step xs) p m = φ (win xs p m) := by
  induction qs generalizing xs with
  | nil => cases hm
  | cons q qs ih =>
    have h1 := h.len xs q (hq q (by simp))
    obtain ⟨hp1, hp2⟩ := List.pairwise_cons.1 hp
    have hq2 : ∀ r ∈ qs, r + m ≤ (step xs q).length := fun r hr => by rw [h1]; exact hq r (by simp [hr])
    rw [List.foldl_cons]
    rcases List.mem_cons.1 hm with rfl | hm
    · rw [h.fold_other qs _ hq2 p m (fun r hr => (hp1 r hr).symm), h.eff xs p (hq p (by simp))]
    · rw [ih _ hq2 hp2 hm, h.loc xs q p m (hq q (by simp)) (hp1 p hm)]
/-- Two folds whose steps do alike over the words that lie there at first are alike. -/
theorem StepAt.fold_eq {step' : List UInt32 → Nat → List UInt32} (h : StepAt m φ step) (qs : List Nat) (xs ws : List UInt32) (hl : ws.length = xs.length) (hq : ∀ q ∈ qs, q + m ≤ xs.length) (hp : qs.Pairwise fun a b => Apt a m b m) (hw : ∀ q ∈ qs, win ws q m = win xs q m)
    (he : ∀ ys q, q ∈ qs → ys.length = xs.length → win ys q m = win xs q m → step' ys q = step ys q) : qs.foldl step' ws = qs.foldl step ws := by
  induction qs generalizing ws with
  | nil => rfl
  | cons q qs ih =>
    obtain ⟨hp1, hp2⟩ := List.pairwise_cons.1 hp
    have hq0 : q + m ≤ ws.length := by rw [hl]; exact hq q (by simp)
    rw [List.foldl_cons, List.foldl_cons, he ws q (by simp) hl (hw q (by simp))]
    refine ih _ (by rw [h.len _ _ hq0, hl]) (fun r hr => hq r (by simp [hr])) hp2 (fun r hr => ?_) (fun ys r hr => he ys r (by simp [hr]))
    rw [h.loc ws q r m hq0 (hp1 r hr)]
    exact hw r (by simp [hr])

theorem step_age (m : Nat) (hm : 2 ≤ m) : StepAt m (fun l => lay l 1 [0]) (fun ys q => lay ys (q + 1) [0]) where
  len ys q h := lay_length _ _ _ (by simp; omega)
  loc ys q p k h ha := win_lay_apart _ _ _ _ _ (by simp; omega) (by simp; unfold Apt at ha; omega)
  eff ys q h := by rw [win_lay_in ys (q + 1) [0] q m h (by omega) (by simp; omega)]; congr 1; omega
theorem step_lay (F : List UInt32) : StepAt F.length (fun _ => F) (fun ys q => lay ys q F) where
  len ys q h := lay_length _ _ _ h
  loc ys q p k h ha := win_lay_apart _ _ _ _ _ h ha
  eff ys q h := win_lay_same ys q F h

theorem ageX_eq (xs : List UInt32) (ps : List Bx) : ageX xs ps = (ps.map fun q => q.p.toNat).foldl (fun ys q => lay ys (q + 1) [0]) xs := by
  unfold ageX; rw [List.foldl_map]
theorem briX_eq (xs : List UInt32) (n : Nat) (ms : List UInt32) (ps : List Bx) : briX xs n ms ps = (ps.map fun q => q.p.toNat).foldl (fun ys q => lay ys q (fillW 3 n ms)) xs := by
  unfold briX; rw [List.foldl_map]

/-- The words of a stage that holds this, and of a port. -/
def chS (n : Nat) (st : List UInt32) : List UInt32 := if st = [] then List.replicate (2 + n) 0 else 1 :: UInt32.ofNat st.length :: (st ++ List.replicate (n - st.length) 0)
def chP (n : Nat) (hd : List UInt32) (f : Bool) : List UInt32 := if hd = [] then List.replicate (3 + n) 0 else 1 :: (if f then 1 else 0) :: UInt32.ofNat hd.length :: (hd ++ List.replicate (n - hd.length) 0)
theorem chS_fill {n : Nat} {st : List UInt32} (h : st ≠ []) : chS n st = fillW 2 n st := by unfold chS; rw [if_neg h]; rfl
theorem chP_fill {n : Nat} {hd : List UInt32} (h : hd ≠ []) : chP n hd true = fillW 3 n hd := by unfold chP; rw [if_neg h]; rfl
theorem chS_length {n : Nat} {st : List UInt32} (h : st.length ≤ n) : (chS n st).length = 2 + n := by
  unfold chS
  split
  · simp
  · simp; omega
theorem chP_length {n : Nat} {hd : List UInt32} {f : Bool} (h : hd.length ≤ n) : (chP n hd f).length = 3 + n := by
  unfold chP
  split
  · simp
  · simp; omega
theorem chP_age {n : Nat} {hd : List UInt32} {f : Bool} : lay (chP n hd f) 1 [0] = chP n hd false := by
  unfold chP
  by_cases h : hd = []
  · rw [if_pos h, if_pos h, Nat.add_comm 3 n]; simp [lay, List.replicate_succ]
  · rw [if_neg h, if_neg h]; simp [lay]
theorem ofNat_len {ms : List UInt32} (h : ms.length ≤ 16) : (UInt32.ofNat ms.length).toNat = ms.length := by rw [UInt32.toNat_ofNat']; omega
theorem zeroB_rep (k : Nat) : zeroB (List.replicate k 0) = true := by simp [zeroB, List.all_replicate]
theorem chS_right {n : Nat} {st : List UInt32} (h : st.length ≤ n) (hn : n ≤ 16) : rightB 2 n (chS n st) = true := by
  have hl := ofNat_len (ms := st) (by omega)
  unfold rightB chS
  by_cases h0 : st = []
  · rw [if_pos h0]
    have e : wd (List.replicate (2 + n) 0) 0 = 0 := by simp [wd, Nat.add_comm 2 n, List.replicate_succ]
    rw [if_pos e]; exact zeroB_rep _
  · rw [if_neg h0]
    have h1 : 1 ≤ st.length := by have : st.length ≠ 0 := fun e => h0 (List.eq_nil_of_length_eq_zero e); omega
    have e0 : wd (1 :: UInt32.ofNat st.length :: (st ++ List.replicate (n - st.length) 0)) 0 = 1 := rfl
    have e1 : wd (1 :: UInt32.ofNat st.length :: (st ++ List.replicate (n - st.length) 0)) (2 - 1) = UInt32.ofNat st.length := rfl
    rw [e0, e1, hl, if_neg (by decide), if_neg (by omega), if_neg (by rintro (h | h | h) <;> first | exact h rfl | omega)]
    have e2 : (1 :: UInt32.ofNat st.length :: (st ++ List.replicate (n - st.length) (0 : UInt32))).drop (2 + st.length) = List.replicate (n - st.length) 0 := by
      rw [Nat.add_comm]; simp
    rw [e2]; exact zeroB_rep _
theorem chP_right {n : Nat} {hd : List UInt32} {f : Bool} (h : hd.length ≤ n) (hn : n ≤ 16) : rightB 3 n (chP n hd f) = true := by
  have hl := ofNat_len (ms := hd) (by omega)
  unfold rightB chP
  by_cases h0 : hd = []
  · rw [if_pos h0]
    have e : wd (List.replicate (3 + n) 0) 0 = 0 := by simp [wd, Nat.add_comm 3 n, List.replicate_succ]
    rw [if_pos e]; exact zeroB_rep _
  · rw [if_neg h0]
    have h1 : 1 ≤ hd.length := by have : hd.length ≠ 0 := fun e => h0 (List.eq_nil_of_length_eq_zero e); omega
    have e0 : wd (1 :: (if f then 1 else 0) :: UInt32.ofNat hd.length :: (hd ++ List.replicate (n - hd.length) 0)) 0 = 1 := rfl
    have e1 : wd (1 :: (if f then 1 else 0) :: UInt32.ofNat hd.length :: (hd ++ List.replicate (n - hd.length) 0)) (3 - 1) = UInt32.ofNat hd.length := rfl
    have e3 : wd (1 :: (if f then 1 else 0) :: UInt32.ofNat hd.length :: (hd ++ List.replicate (n - hd.length) 0)) 1 = (if f then 1 else 0) := rfl
    have e4 : (if f then (1 : UInt32) else 0).toNat ≤ 1 := by cases f <;> decide
    rw [e0, e1, e3, hl, if_neg (by decide), if_neg (by omega), if_neg (by rintro (h | h | h) <;> first | exact h rfl | omega)]
    have e2 : (1 :: (if f then 1 else 0) :: UInt32.ofNat hd.length :: (hd ++ List.replicate (n - hd.length) (0 : UInt32))).drop (3 + hd.length) = List.replicate (n - hd.length) 0 := by
      rw [Nat.add_comm]; simp
    rw [e2]; exact zeroB_rep _

end Go.Proofs.Ytfcgpjojjehkiaa
