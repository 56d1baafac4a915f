import Derived.Test.YtpccdhoaicabcaaSt
namespace Go.Proofs.Ytpccdhoaicabcaa
set_option linter.unusedVariables false

theorem enc_says (F R : Nat) (hF : F < 1024) (hR : R < 8) : isT (enc F R).toNat = true ∧ frm (enc F R).toNat = F ∧ rts (enc F R).toNat = R := by
  rw [enc_nat F R hF hR]
  have ht : isT (2147483648 + F * 8 + R) = true := by unfold isT; simp; omega
  refine ⟨ht, ?_, ?_⟩
  · unfold frm; rw [if_pos ht]; omega
  · unfold rts; rw [if_pos ht]; omega
theorem zero_says : isT (0 : UInt32).toNat = false := by rfl

theorem cnt_inj {f : Nat → Option (Nat × Nat)} {s t : Nat} (h : s ≠ t) (hs : needB f s = true) (ht : needB f t = true) : cnt f s ≠ cnt f t := by
  rcases Nat.lt_or_gt_of_ne h with h | h
  · have := cnt_lt f h hs; omega
  · have := cnt_lt f h ht; omega

/-- No two tables the same. -/
def Dist (ts : List Int) : Prop := ∀ (i j : Nat) (t u : Int), i ≠ j → ts[i]? = some t → ts[j]? = some u → t ≠ u
theorem tabs_dist {n : Nat} {root : Int} {ts : List Int} (h : TabsOk n root ts) : Dist ts := by
  intro i j t u hij hi hj e
  subst e
  rcases Nat.lt_or_gt_of_ne hij with hl | hl
  · exact (h j t hj).2.2 (List.mem_of_getElem? (show (ts.take j)[i]? = some t by rw [List.getElem?_take, if_pos hl]; exact hi))
  · exact (h i t hi).2.2 (List.mem_of_getElem? (show (ts.take i)[j]? = some t by rw [List.getElem?_take, if_pos hl]; exact hj))

theorem rowL_at (f : Nat → Option (Nat × Nat)) (t i : Nat) (h : i < 16) : (rowL f t)[i]? = some (encO (f (t * 16 + i))) := by simp [rowL, h]
theorem topL_at (f : Nat → Option (Nat × Nat)) (ts : List Int) (t : Nat) (h : t < 16) : (topL f ts)[t]? = some (topW f ts t) := by simp [topL, h]

theorem layed_at {f : Nat → Option (Nat × Nat)} {ts : List Int} {root n : Nat} {xs : List UInt32} (h : Lays f ts root n xs) (hd : Dist ts) {t T i : Nat} (hn : needB f t = true) (hT : ts[cnt f t]? = some (T : Int)) (hTn : T < n) (hi : i < 16) :
    ∀ s, t < s → s ≤ 16 → (layed f ts xs s)[16 * T + i]? = some (encO (f (t * 16 + i)))
  | 0, hs, _ => by omega
  | s + 1, hs, h16 => by
    have hlen := h.layed_len s (by omega)
    by_cases hst : s = t
    · subst hst
      have hg : ts.getD (cnt f s) 0 = (T : Int) := by simp [List.getD, hT]
      rw [layed_yes hn, hg, Int.toNat_natCast, lay_get _ _ _ (by rw [rowL_length, hlen]; omega), rowL_length, if_pos (by omega), show 16 * T + i - 16 * T = i by omega]
      exact rowL_at f s i hi
    · have ih := layed_at h hd hn hT hTn hi s (by omega) (by omega)
      cases hns : needB f s
      · rw [layed_no hns]; exact ih
      · obtain ⟨T', h1, h2, h3, h4⟩ := h.tab (by omega) hns
        have hne : (T : Int) ≠ T' := hd _ _ _ _ (cnt_inj (fun e => hst e.symm) hn hns) hT h1
        have hne' : T ≠ T' := fun e => hne (by rw [e])
        rw [layed_yes hns, h2, Int.toNat_natCast, lay_get _ _ _ (by rw [rowL_length, hlen]; omega), rowL_length, if_neg (by omega)]
        exact ih

theorem built_root {f : Nat → Option (Nat × Nat)} {ts : List Int} {root n : Nat} {xs : List UInt32} (h : Lays f ts root n xs) {t : Nat} (ht : t < 16) : (builtL f ts root xs)[16 * root + t]? = some (topW f ts t) := by
  unfold builtL
  have := h.rl
  rw [lay_get _ _ _ (by rw [topL_length, h.layed_len 16 (Nat.le_refl _)]; omega), topL_length, if_pos (by omega), show 16 * root + t - 16 * root = t by omega]
  exact topL_at f ts t ht
theorem built_tab {f : Nat → Option (Nat × Nat)} {ts : List Int} {root n : Nat} {xs : List UInt32} (h : Lays f ts root n xs) (hd : Dist ts) {t T i : Nat} (ht : t < 16) (hn : needB f t = true) (hT : ts[cnt f t]? = some (T : Int)) (hTn : T < n) (hTr : T ≠ root) (hi : i < 16) :
    (builtL f ts root xs)[16 * T + i]? = some (encO (f (t * 16 + i))) := by
  unfold builtL
  have := h.rl
  rw [lay_get _ _ _ (by rw [topL_length, h.layed_len 16 (Nat.le_refl _)]; omega), topL_length, if_neg (by omega)]
  exact layed_at h hd hn hT hTn hi 16 ht (Nat.le_refl _)

theorem need_none {f : Nat → Option (Nat × Nat)} {t i : Nat} (h : needB f t = false) (hi : i < 16) : f (t * 16 + i) = none := by
  unfold needB at h
  rw [List.any_eq_false] at h
  have := h i (by simpa using hi)
  cases hf : f (t * 16 + i) with
  | none => rfl
  | some x => rw [hf] at this; simp at this

/-- Behind a Build a page has its leaf, or none. -/
theorem built_walk {f : Nat → Option (Nat × Nat)} {ts : List Int} {root n : Nat} {xs : List UInt32} (h : Lays f ts root n xs) (hd : Dist ts) (hn : n ≤ 1024) (hf : ∀ p x, f p = some x → x.1 < n ∧ x.2 < 8) (p : Nat) (hp : p < 256) :
    walkE n (builtL f ts root xs) root p = (if (f p).isSome then 0 else 92) ∧ walkL n (builtL f ts root xs) root p = (match f p with | some x => ⟨p, x.1, x.2⟩ | none => lf0) := by
  have hr : (0 : Int) ≤ (root : Int) ∧ (root : Int) < n := by have := h.rl; omega
  have hpp : (0 : Int) ≤ (p : Int) ∧ (p : Int) < 256 := by omega
  have hpe : p / 16 * 16 + p % 16 = p := by omega
  have hT : walkT n (builtL f ts root xs) root p = (topW f ts (p / 16)).toNat := by
    unfold walkT
    have := built_root h (t := p / 16) (by omega)
    simp only [Int.toNat_natCast, List.getD, this, Option.getD_some]
  cases hnd : needB f (p / 16)
  · have hnone : f p = none := by have := need_none hnd (i := p % 16) (by omega); rwa [hpe] at this
    have ht : nmE n (walkT n (builtL f ts root xs) root p) = 92 := by rw [hT, topW_no hnd]; exact (isT_nm zero_says).1
    obtain ⟨q1, q2⟩ := walk_top hr hpp (by rw [ht]; omega)
    rw [q1, q2, ht, hnone]
    exact ⟨rfl, rfl⟩
  · obtain ⟨T, h1, h2, h3, h4⟩ := h.tab (by omega) hnd
    obtain ⟨e1, e2, e3⟩ := enc_says T 0 (by omega) (by omega)
    have ht : nmE n (walkT n (builtL f ts root xs) root p) = 0 := by
      rw [hT, topW_yes hnd, h2, Int.toNat_natCast]
      exact (in_nm e1 (by rw [e2]; exact h3)).1
    have hB : walkB n (builtL f ts root xs) root p = (encO (f p)).toNat := by
      unfold walkB
      have hfr : frm (walkT n (builtL f ts root xs) root p) = T := by rw [hT, topW_yes hnd, h2, Int.toNat_natCast, e2]
      have := built_tab h hd (by omega) hnd h1 h3 h4 (i := p % 16) (by omega)
      rw [hpe] at this
      simp only [hfr, Int.toNat_natCast, List.getD, this, Option.getD_some]
    have hE := walk_low hr hpp ht
    rw [hB] at hE
    cases hfp : f p with
    | none =>
      rw [hfp] at hE
      have h0 : walkE n (builtL f ts root xs) root p = 92 := by rw [hE]; exact (isT_nm zero_says).1
      refine ⟨by rw [h0]; rfl, ?_⟩
      unfold walkL; rw [if_neg (by omega)]
    | some x =>
      obtain ⟨f1, f2⟩ := hf p x hfp
      rw [hfp] at hE hB
      obtain ⟨g1, g2, g3⟩ := enc_says x.1 x.2 (by omega) f2
      have h0 : walkE n (builtL f ts root xs) root p = 0 := by rw [hE]; exact (in_nm g1 (by show frm (enc x.1 x.2).toNat < n; rw [g2]; exact f1)).1
      refine ⟨by rw [h0]; rfl, ?_⟩
      unfold walkL; rw [if_pos h0, hB]
      show (⟨p, frm (enc x.1 x.2).toNat, rts (enc x.1 x.2).toNat⟩ : Lf) = _
      rw [g2, g3]

/-- Where a region has no frame outside, every page's frame is the memory's. -/
theorem find_in {n : Nat} {rs : List Rgn} (hm : MayB rs) (ho : ¬ Outs n rs) : ∀ p x, findL rs p = some x → x.1 < n ∧ x.2 < 8 := by
  intro p x hx
  have hfit := findL_fit (may_ok hm) p x hx
  refine ⟨?_, hfit.2⟩
  unfold findL at hx
  cases hf : rs.find? fun r => r.has p with
  | none => rw [hf] at hx; simp at hx
  | some r =>
    rw [hf] at hx
    simp only [Option.map_some] at hx
    obtain rfl := Option.some.inj hx
    have hr := List.mem_of_find?_eq_some hf
    obtain ⟨h1, h2, h3, h4, h5, h6, h7⟩ := may_ok hm r hr
    have hb := has_bounds (r := r) (p := p) (by simpa using List.find?_some hf)
    have : ¬ (n : Int) < r.frame + r.pages := fun h => ho ⟨r, hr, h⟩
    simp only
    omega

theorem built_lays {n : Nat} {xs : List UInt32} {root : Nat} {ts : List Int} {rs : List Rgn} (hl : xs.length = n * 16) (ha : Apart n (root : Int) ts) (hc : ts.length = cnt (findL rs) 16) : Lays (findL rs) ts root n xs ∧ Dist ts :=
  ⟨⟨hl, by have := ha.1; omega, fun t ht => by
      obtain ⟨k, hk⟩ := List.mem_iff_getElem?.1 ht
      exact (ha.2 k t hk).1, fun t ht => by
      obtain ⟨k, hk⟩ := List.mem_iff_getElem?.1 ht
      exact (ha.2 k t hk).2.1, hc.symm⟩, tabs_dist ha.2⟩

/-- The tables of the beginning. -/
def rs0 : List Rgn := [⟨14, 4, 2, 3⟩, ⟨255, 1, 9, 4⟩]
def ts0 : List Int := [13, 14, 15]
theorem rs0_may : MayB rs0 := by
  intro i r hi
  match i, hi with
  | 0, hi =>
    simp [rs0] at hi; subst hi
    exact ⟨by decide, fun j o hj => by omega⟩
  | 1, hi =>
    simp [rs0] at hi; subst hi
    refine ⟨by decide, fun j o hj ho => ?_⟩
    obtain rfl : j = 0 := by omega
    simp [rs0] at ho; subst ho
    decide
  | k + 2, hi => simp [rs0] at hi
theorem rs0_in (n : Nat) (h : 20 ≤ n) : ¬ Outs n rs0 := by
  rintro ⟨r, hr, ho⟩
  simp [rs0] at hr
  rcases hr with rfl | rfl
  · simp at ho; omega
  · simp at ho; omega
theorem rs0_cnt : cnt (findL rs0) 16 = 3 := by decide +kernel
theorem ts0_apart (n : Nat) (h : 20 ≤ n) : Apart n 12 ts0 := by
  refine ⟨by omega, fun i t hi => ?_⟩
  match i, hi with
  | 0, hi => simp [ts0] at hi; subst hi; exact ⟨by omega, by omega, by simp⟩
  | 1, hi => simp [ts0] at hi; subst hi; exact ⟨by omega, by omega, by simp [ts0]⟩
  | 2, hi => simp [ts0] at hi; subst hi; exact ⟨by omega, by omega, by simp [ts0]⟩
  | k + 3, hi => simp [ts0] at hi
theorem bld0 {n z : Nat} (h : 20 ≤ n) (hz : BldP n 12 ts0 rs0 z) : z = 0 :=
  bldP_one hz (.inr (.inr (.inr (.inr ⟨⟨by decide, by decide⟩, ⟨rs0_may, rs0_in n h⟩, rs0_cnt.symm, ts0_apart n h, rfl⟩))))
theorem walk0 {n : Nat} (xs : List UInt32) (h : 20 ≤ n) (h2 : n ≤ 1024) (hl : xs.length = n * 16) : walkE n (builtL (findL rs0) ts0 12 xs) 12 16 = 0 ∧ walkL n (builtL (findL rs0) ts0 12 xs) 12 16 = ⟨16, 4, 3⟩ := by
  obtain ⟨h3, h4⟩ := built_lays (root := 12) (ts := ts0) (rs := rs0) hl (ts0_apart n h) rs0_cnt.symm
  have := built_walk h3 h4 h2 (find_in rs0_may (rs0_in n h)) 16 (by omega)
  have hf : findL rs0 16 = some (4, 3) := by decide +kernel
  rw [hf] at this
  exact this

end Go.Proofs.Ytpccdhoaicabcaa
