import Derived.Test.YtfcgpjojjehkiaaAa
namespace Go.Proofs.Ytfcgpjojjehkiaa
open Go.RowKit
set_option linter.unusedVariables false

/-- Where port i lies. -/
def ptAt (n i : Nat) : Nat := 5 + n + i * (3 + n)
/-- A channel of k ports in a memory of seven frames: what its stage and its ports hold. -/
structure Ch (xs : List UInt32) (n k : Nat) (st hd : List UInt32) (f : Bool) : Prop where
  n1 : 1 ≤ n
  n2 : n ≤ 16
  k1 : 1 ≤ k
  k2 : k ≤ 4
  len : xs.length = 112
  stl : st.length ≤ n
  hdl : hd.length ≤ n
  fr : f = true → hd ≠ []
  stg : win xs 3 (2 + n) = chS n st
  pts : ∀ i, i < k → win xs (ptAt n i) (3 + n) = chP n hd f

variable {xs : List UInt32} {n k : Nat} {st hd : List UInt32} {f : Bool}
theorem ptAt_lt (hn : n ≤ 16) {i : Nat} (hi : i < 4) : ptAt n i + (3 + n) ≤ 112 := by
  unfold ptAt
  have : i = 0 ∨ i = 1 ∨ i = 2 ∨ i = 3 := by omega
  rcases this with rfl | rfl | rfl | rfl <;> omega
theorem ptAt_apt {i j : Nat} (hij : i ≠ j) : Apt (ptAt n i) (3 + n) (ptAt n j) (3 + n) := by
  unfold Apt ptAt
  rcases Nat.lt_or_gt_of_ne hij with h | h
  · left
    have := Nat.mul_le_mul_right (3 + n) (show i + 1 ≤ j from h)
    rw [Nat.add_mul] at this
    omega
  · right
    have := Nat.mul_le_mul_right (3 + n) (show j + 1 ≤ i from h)
    rw [Nat.add_mul] at this
    omega
theorem ptAt_stage (i : Nat) : Apt (ptAt n i) (3 + n) 3 (2 + n) := by unfold Apt ptAt; right; omega

theorem Ch.new (n k : Nat) (h1 : 1 ≤ n) (h2 : n ≤ 16) (h3 : 1 ≤ k) (h4 : k ≤ 4) : Ch (List.replicate (7 * 16) 0) n k [] [] false := by
  refine ⟨h1, h2, h3, h4, by simp, by simp, by simp, (fun e => by cases e), ?_, fun i hi => ?_⟩
  · unfold win chS; rw [List.drop_replicate, List.take_replicate, if_pos rfl]; congr 1; omega
  · have := ptAt_lt h2 (i := i) (by omega)
    unfold win chP; rw [List.drop_replicate, List.take_replicate, if_pos rfl]; congr 1; omega

theorem Ch.tkS (h : Ch xs n k st hd f) : tkE false xs.length 3 2 n = 0 := by
  have := h.n1; have := h.n2; have := h.len
  unfold tkE
  rw [if_neg (by simp), if_neg (by omega), if_pos (by omega)]
theorem Ch.tkP (h : Ch xs n k st hd f) {i : Nat} (hi : i < k) : tkE false xs.length (ptAt n i) 3 n = 0 := by
  have := h.n1; have := h.n2; have := h.len; have := h.k2
  have := ptAt_lt h.n2 (i := i) (by omega)
  unfold tkE
  rw [if_neg (by simp), if_neg (by omega), if_pos (by omega)]
theorem Ch.lkS (h : Ch xs n k st hd f) : lkE false xs 3 2 n = 0 := by
  unfold lkE
  rw [if_neg (by simpa using h.tkS), Int.toNat_natCast, show (3 : Int).toNat = 3 from rfl, h.stg, chS_right h.stl h.n2]
  rfl
theorem Ch.lkP (h : Ch xs n k st hd f) {i : Nat} (hi : i < k) : lkE false xs (ptAt n i) 3 n = 0 := by
  unfold lkE
  rw [if_neg (by simpa using h.tkP hi), Int.toNat_natCast, Int.toNat_natCast, h.pts i hi, chP_right h.hdl h.n2]
  rfl
theorem Ch.putE (h : Ch xs n k st hd f) {ms : List UInt32} (h1 : 1 ≤ ms.length) (h2 : ms.length ≤ n) : putE false xs 3 n ms.length = 0 := by
  unfold Go.Proofs.Ytfcgpjojjehkiaa.putE
  rw [if_neg (by simpa using h.tkS), if_neg (by omega), Int.toNat_natCast, show (3 : Int).toNat = 3 from rfl, h.stg, chS_right h.stl h.n2]
  rfl
theorem Ch.put (h : Ch xs n k st hd f) {ms : List UInt32} (h1 : 1 ≤ ms.length) (h2 : ms.length ≤ n) : Ch (putX false xs 3 n ms) n k ms hd f := by
  have hms : ms ≠ [] := fun e => by rw [e] at h1; simp at h1
  have hfl : (fillW 2 n ms).length = 2 + n := fillW_length _ _ _ (by omega) h2
  have hlen := h.len
  have hn2 := h.n2
  have e : putX false xs 3 n ms = lay xs 3 (fillW 2 n ms) := by unfold putX; rw [if_pos (h.putE h1 h2), Int.toNat_natCast]; rfl
  rw [e]
  refine ⟨h.n1, h.n2, h.k1, h.k2, by rw [lay_length _ _ _ (by omega)]; exact hlen, h2, h.hdl, h.fr, ?_, fun i hi => ?_⟩
  · have := win_lay_same xs 3 (fillW 2 n ms) (by omega)
    rw [hfl] at this
    rw [this, chS_fill hms]
  · rw [win_lay_apart _ _ _ _ _ (by omega) (by rw [hfl]; have := ptAt_stage (n := n) i; unfold Apt at this; omega)]
    exact h.pts i hi

theorem wd_win0 {p m : Nat} (hm : 0 < m) : wd xs p = wd (win xs p m) 0 := by rw [win_wd _ _ _ _ hm, Nat.add_zero]
theorem Ch.wS (h : Ch xs n k st hd f) : wd xs 3 = if st = [] then 0 else 1 := by
  rw [wd_win0 (m := 2 + n) (by omega), h.stg]
  unfold chS
  split
  · rw [Nat.add_comm 2 n]; rfl
  · rfl
theorem Ch.stN (h : Ch xs n k st hd f) : stN false xs 3 n = min 1 st.length := by
  unfold Go.Proofs.Ytfcgpjojjehkiaa.stN
  rw [if_pos h.lkS, show (3 : Int).toNat = 3 from rfl, h.wS]
  by_cases e : st = []
  · rw [if_pos e, e]; rfl
  · rw [if_neg e]
    have : st.length ≠ 0 := fun x => e (List.eq_nil_of_length_eq_zero x)
    have : (1 : UInt32).toNat = 1 := rfl
    omega

theorem Ch.wP (h : Ch xs n k st hd f) {i : Nat} (hi : i < k) : (wd xs (ptAt n i) = if hd = [] then 0 else 1) ∧ (hd ≠ [] → wd xs (ptAt n i + 1) = (if f then 1 else 0) ∧ (wd xs (ptAt n i + 2)).toNat = hd.length ∧ win xs (ptAt n i + 3) hd.length = hd) := by
  have hp := h.pts i hi
  have hle := ptAt_lt h.n2 (i := i) (by have := h.k2; omega)
  refine ⟨?_, fun he => ⟨?_, ?_, ?_⟩⟩
  · rw [wd_win0 (m := 3 + n) (by omega), hp]
    unfold chP
    split
    · rw [Nat.add_comm 3 n]; rfl
    · rfl
  · rw [← win_wd xs (ptAt n i) (3 + n) 1 (by omega), hp]; unfold chP; rw [if_neg he]; rfl
  · rw [← win_wd xs (ptAt n i) (3 + n) 2 (by omega), hp]; unfold chP; rw [if_neg he]
    show (UInt32.ofNat hd.length).toNat = _
    exact ofNat_len (by have := h.hdl; have := h.n2; omega)
  · have e : win xs (ptAt n i + 3) hd.length = ((win xs (ptAt n i) (3 + n)).drop 3).take hd.length := by
      unfold win
      rw [List.drop_take, List.drop_drop, List.take_take, show 3 + n - 3 = n by omega, Nat.min_eq_left h.hdl]
    rw [e, hp]; unfold chP; rw [if_neg he]
    simp

theorem Ch.rdT (h : Ch xs n k st hd f) {i : Nat} (hi : i < k) : rdT false xs (ptAt n i) n = decide (hd ≠ []) := by
  unfold Go.Proofs.Ytfcgpjojjehkiaa.rdT
  rw [h.lkP hi, Int.toNat_natCast, (h.wP hi).1]
  by_cases e : hd = []
  · simp [e]
  · simp [e]
theorem Ch.rdF (h : Ch xs n k st hd f) {i : Nat} (hi : i < k) : rdF false xs (ptAt n i) n = f := by
  unfold Go.Proofs.Ytfcgpjojjehkiaa.rdF
  rw [h.rdT hi, Int.toNat_natCast]
  by_cases e : hd = []
  · rw [decide_eq_false (by simpa using e), Bool.false_and]
    cases f
    · rfl
    · exact absurd e (h.fr rfl)
  · rw [decide_eq_true (by simpa using e), ((h.wP hi).2 e).1]
    cases f <;> rfl
theorem Ch.rdM (h : Ch xs n k st hd f) {i : Nat} (hi : i < k) : rdM false xs (ptAt n i) n = hd := by
  unfold Go.Proofs.Ytfcgpjojjehkiaa.rdM
  rw [h.rdT hi, Int.toNat_natCast]
  by_cases e : hd = []
  · simp [e]
  · rw [if_pos (by simpa using e), ((h.wP hi).2 e).2.1, ((h.wP hi).2 e).2.2]

/-- The ports' places. -/
def ptL (n k : Nat) : List Int := (List.range k).map fun i => (ptAt n i : Int)
theorem ptL_length (n k : Nat) : (ptL n k).length = k := by simp [ptL]
theorem ptL_get {n k i : Nat} (h : i < k) : (ptL n k)[i]? = some (ptAt n i : Int) := by simp [ptL, h]

theorem Ch.dlE (h : Ch xs n k st hd f) : dlE false xs 3 n (ptL n k) = 0 := by
  have hk1 := h.k1
  have hk2 := h.k2
  unfold Go.Proofs.Ytfcgpjojjehkiaa.dlE
  rw [if_neg (by simp), ptL_length, if_neg (by omega)]
  unfold laE
  have hbl : (boxes 3 n (ptL n k)).length = k + 1 := by rw [boxes_length, ptL_length]
  have ht : takesE xs.length (boxes 3 n (ptL n k)) = 0 := by
    apply takesE_all
    intro b hb
    rcases List.mem_cons.1 hb with rfl | hb
    · exact h.tkS
    · obtain ⟨q, hq, rfl⟩ := List.mem_map.1 hb
      obtain ⟨i, hi, rfl⟩ := List.mem_map.1 hq
      exact h.tkP (by simpa using hi)
  have hf : formB xs (boxes 3 n (ptL n k)) = true := by
    unfold formB
    rw [List.all_eq_true]
    intro i hi
    rw [List.mem_range, hbl] at hi
    unfold okAt
    cases i with
    | zero =>
      have e : (boxes 3 n (ptL n k)).getD 0 default = ⟨3, 2, n⟩ := rfl
      rw [e]
      have : rtB xs ⟨3, 2, n⟩ = true := by
        unfold rtB wn
        show rightB 2 (n : Int).toNat (win xs (3 : Int).toNat (2 + (n : Int).toNat)) = true
        rw [Int.toNat_natCast, show (3 : Int).toNat = 3 from rfl, h.stg]
        exact chS_right h.stl h.n2
      rw [this]; simp
    | succ i =>
      have hik : i < k := by omega
      have e : (boxes 3 n (ptL n k)).getD (i + 1) default = ⟨ptAt n i, 3, n⟩ := by
        rw [List.getD_eq_getElem?_getD]
        show ((pbx n (ptL n k))[i]?).getD default = _
        unfold pbx
        rw [List.getElem?_map, ptL_get hik]; rfl
      rw [e]
      have hr : rtB xs ⟨ptAt n i, 3, n⟩ = true := by
        unfold rtB wn
        show rightB 3 (n : Int).toNat (win xs (ptAt n i : Int).toNat (3 + (n : Int).toNat)) = true
        rw [Int.toNat_natCast, Int.toNat_natCast, h.pts i hik]
        exact chP_right h.hdl h.n2
      rw [hr, Bool.true_and, Bool.not_eq_true', List.any_eq_false]
      intro b hb
      have hb2 : ∀ b ∈ (boxes 3 n (ptL n k)).take (i + 1), b = ⟨3, 2, n⟩ ∨ ∃ j, j < i ∧ b = ⟨ptAt n j, 3, n⟩ := by
        intro b hb
        have e2 : (boxes 3 n (ptL n k)).take (i + 1) = ⟨3, 2, n⟩ :: (pbx n (ptL n k)).take i := rfl
        rw [e2] at hb
        rcases List.mem_cons.1 hb with rfl | hb
        · exact .inl rfl
        · right
          unfold pbx ptL at hb
          rw [List.map_map, ← List.map_take, List.take_range] at hb
          obtain ⟨j, hj, rfl⟩ := List.mem_map.1 hb
          exact ⟨j, by simp at hj; omega, rfl⟩
      rcases hb2 b hb with rfl | ⟨j, hj, rfl⟩
      · have := ptAt_stage (n := n) i
        unfold Apt at this
        unfold Bx.meets
        simp
        omega
      · have := ptAt_apt (n := n) (i := i) (j := j) (by omega)
        unfold Apt at this
        unfold Bx.meets
        simp
        omega
  rw [if_neg (by simpa using ht), hf]; rfl

theorem ptN (n k : Nat) : (pbx n (ptL n k)).map (fun q => q.p.toNat) = (List.range k).map (ptAt n) := by
  unfold pbx ptL
  rw [List.map_map, List.map_map]
  apply List.map_congr_left
  intro i hi
  simp
theorem ptN_pw (n k : Nat) : ((List.range k).map (ptAt n)).Pairwise fun a b => Apt a (3 + n) b (3 + n) := by
  rw [List.pairwise_map]
  exact List.pairwise_lt_range.imp fun h => ptAt_apt (by omega)

theorem Ch.deliver (h : Ch xs n k st hd f) : Ch (dlX false xs 3 n (ptL n k)) n k [] (if st = [] then hd else st) (decide (st ≠ [])) := by
  have hlen := h.len
  have hn2 := h.n2
  have hq : ∀ q ∈ (List.range k).map (ptAt n), q + (3 + n) ≤ xs.length := by
    intro q hq
    obtain ⟨i, hi, rfl⟩ := List.mem_map.1 hq
    have := ptAt_lt hn2 (i := i) (by have := h.k2; simp at hi; omega)
    omega
  have hap : ∀ q ∈ (List.range k).map (ptAt n), Apt q (3 + n) 3 (2 + n) := by
    intro q hq
    obtain ⟨i, hi, rfl⟩ := List.mem_map.1 hq
    exact ptAt_stage i
  have hmem : ∀ i, i < k → ptAt n i ∈ (List.range k).map (ptAt n) := fun i hi => List.mem_map.2 ⟨i, by simpa using hi, rfl⟩
  unfold dlX
  rw [if_pos h.dlE, show (3 : Int).toNat = 3 from rfl, h.wS]
  by_cases e : st = []
  · rw [if_pos e, if_pos rfl, if_pos e, decide_eq_false (by simpa using e), ageX_eq, ptN]
    have hS := step_age (3 + n) (by omega)
    refine ⟨h.n1, h.n2, h.k1, h.k2, by rw [hS.fold_len _ _ hq]; exact hlen, by simp, h.hdl, (fun e => by cases e), ?_, fun i hi => ?_⟩
    · rw [hS.fold_other _ _ hq _ _ hap, h.stg, e]
    · rw [hS.fold_at _ _ hq (ptN_pw n k) _ (hmem i hi), h.pts i hi, chP_age]
  · rw [if_neg e, if_neg (by decide), if_neg e, decide_eq_true (by simpa using e), briX_eq, ptN, Int.toNat_natCast]
    have hwk : (wd xs 4).toNat = st.length ∧ win xs 5 st.length = st := by
      constructor
      · rw [show (4 : Nat) = 3 + 1 from rfl, ← win_wd xs 3 (2 + n) 1 (by omega), h.stg]; unfold chS; rw [if_neg e]
        show (UInt32.ofNat st.length).toNat = _
        exact ofNat_len (by have := h.stl; omega)
      · have e2 : win xs 5 st.length = ((win xs 3 (2 + n)).drop 2).take st.length := by
          unfold win
          rw [List.drop_take, List.drop_drop, List.take_take, show 2 + n - 2 = n by omega, Nat.min_eq_left h.stl]
        rw [e2, h.stg]; unfold chS; rw [if_neg e]
        simp
    rw [show 3 + 1 = 4 from rfl, show 3 + 2 = 5 from rfl, hwk.1, hwk.2]
    have hfl : (fillW 3 n st).length = 3 + n := fillW_length _ _ _ (by omega) h.stl
    have hS := step_lay (fillW 3 n st)
    rw [hfl] at hS
    have hl2 := hS.fold_len _ _ hq
    obtain ⟨ys, hys⟩ : ∃ ys, ys = ((List.range k).map (ptAt n)).foldl (fun ys q => lay ys q (fillW 3 n st)) xs := ⟨_, rfl⟩
    have hpt : ∀ i, i < k → win ys (ptAt n i) (3 + n) = fillW 3 n st := fun i hi => by rw [hys]; exact hS.fold_at _ _ hq (ptN_pw n k) _ (hmem i hi)
    rw [← hys] at hl2 ⊢
    have hrl : (List.replicate (2 + n) (0 : UInt32)).length = 2 + n := by simp
    refine ⟨h.n1, h.n2, h.k1, h.k2, by rw [lay_length _ _ _ (by rw [hrl]; omega), hl2]; exact hlen, by simp, h.stl, (fun _ => e), ?_, fun i hi => ?_⟩
    · have := win_lay_same ys 3 (List.replicate (2 + n) 0) (by rw [hrl]; omega)
      rw [hrl] at this
      rw [this]; unfold chS; rw [if_pos rfl]
    · rw [win_lay_apart _ _ _ _ _ (by rw [hrl]; omega) (by rw [hrl]; have := ptAt_stage (n := n) i; unfold Apt at this; omega), hpt i hi, chP_fill e]

end Go.Proofs.Ytfcgpjojjehkiaa
