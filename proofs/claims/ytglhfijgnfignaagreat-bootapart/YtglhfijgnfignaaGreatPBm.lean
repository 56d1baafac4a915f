import Derived.Test.YtglhfijgnfignaaGreatPLa
import Derived.Test.YtglhfijgnfignaaGreatPG
namespace Go.Proofs.YtglhfijgnfignaaGreat
namespace Mq
open Go.RowKit Go.Shelf
set_option linter.unusedVariables false
set_option linter.unusedSimpArgs false
def Outs (n : Nat) (rs : List Rgn) : Prop := ∃ r, r ∈ rs ∧ (n : Int) < r.frame + r.pages
def BldP (n : Nat) (root : Int) (ts : List Int) (rs : List Rgn) (z : Nat) : Prop :=
 ((8 < rs.length ∨ 16 < ts.length) ∧ z = 2) ∨
 ((rs.length ≤ 8 ∧ ts.length ≤ 16) ∧ (¬ MayB rs ∨ Outs n rs) ∧ z = 95) ∨
 ((rs.length ≤ 8 ∧ ts.length ≤ 16) ∧ (MayB rs ∧ ¬ Outs n rs) ∧ ts.length ≠ cnt (findL rs) 16 ∧ z = 94) ∨
 ((rs.length ≤ 8 ∧ ts.length ≤ 16) ∧ (MayB rs ∧ ¬ Outs n rs) ∧ ts.length = cnt (findL rs) 16 ∧ ¬ Apart n root ts ∧ z = 91) ∨
 ((rs.length ≤ 8 ∧ ts.length ≤ 16) ∧ (MayB rs ∧ ¬ Outs n rs) ∧ ts.length = cnt (findL rs) 16 ∧ Apart n root ts ∧ z = 0)
def BldX (root : Int) (ts : List Int) (rs : List Rgn) (xs : List UInt32) (z : Nat) : List UInt32 := if z = 0 then builtL (findL rs) ts root.toNat xs else xs
theorem outs_any {n : Nat} {rs : List Rgn} : (rs.any fun r => decide ((n : Int) < r.frame + r.pages)) = true ↔ Outs n rs := by
 rw [List.any_eq_true]
 constructor
 ·
  rintro ⟨r, h1, h2⟩; exact ⟨r, h1, of_decide_eq_true h2⟩
 ·
  rintro ⟨r, h1, h2⟩; exact ⟨r, h1, decide_eq_true h2⟩
def BldD (w w' : World) (b g n : Nat) (xs : List UInt32) (root : Int) (ts : List Int) (rs : List Rgn) (e : Ending) : Prop :=
 ∃ z : Nat, e = .returned (.int .i64 z) ∧ BldP n root ts rs z ∧ Mn w' b g n (BldX root ts rs xs z) ∧ Keeps (· = g) w w'
theorem bld_no {w w' : World} {b g n : Nat} {xs : List UInt32} {root : Int} {ts : List Int} {rs : List Rgn} (z : Nat) (hz : z ≠ 0) (hp : BldP n root ts rs z) (hM : Mn w b g n xs) (hK : Keeps (fun _ => False) w w') :
  BldD w w' b g n xs root ts rs (.returned (.int .i64 z)) := by
 refine ⟨z, rfl, hp, ?_, hK.mono fun _ _ h => h.elim⟩
 unfold BldX; rw [if_neg hz]; exact hM.grown hK
set_option maxRecDepth 20000 in
set_option maxHeartbeats 2000000 in
theorem build_any (b g n : Nat) (xs : List UInt32) (root : Int) (a2 : Option Addr) (ts : List Int) (c2 : Nat) (a : Option Addr) (rs : List Rgn) (c : Nat) (w : World) (hM : Mn w b g n xs)
  (hl2 : ts.length ≤ c2 ∧ c2 ≤ maxLen) (hs2 : SegI w a2 ts) (hl : rs.length ≤ c ∧ c ≤ maxLen) (hs : SegR w a rs) (hf : ∀ r, r ∈ rs → r.Fine) (ha2 : ∀ x, a2 = some x → x.block ≠ g) (ha : ∀ x, a = some x → x.block ≠ g) :
  Calls Tryz.prog 39 #[.pointer (some ⟨b, 0, none⟩), .int .i64 root, .slice a2 ts.length c2, .slice a rs.length c] w fun e w' => BldD w w' b g n xs root ts rs e := by
 have HP : Hid (Mn w b g n xs ∧ SegI w a2 ts ∧ SegR w a rs ∧ (∀ x, a2 = some x → x.block ≠ g) ∧ (∀ x, a = some x → x.block ≠ g) ∧ (ts.length ≤ c2 ∧ c2 ≤ maxLen) ∧ (rs.length ≤ c ∧ c ≤ maxLen)) := ⟨hM, hs2, hs, ha2, ha, hl2, hl⟩
 have H1 : Hid (Calls _ _ _ _ _) := tables_any a rs c w hl hs hf
 have h2c : (ts.length : Int) ≤ 9223372036854775807 := by unfold maxLen at hl2; omega
 obtain ⟨L2, hL2⟩ : ∃ L, L = ts.length := ⟨_, rfl⟩
 obtain ⟨L, hL⟩ : ∃ L, L = rs.length := ⟨_, rfl⟩
 have HL : Hid (L2 = ts.length ∧ L = rs.length) := ⟨hL2, hL⟩
 rw [← hL] at H1 ⊢
 rw [← hL2] at h2c ⊢
 clear hM hs2 hs ha2 ha hl2 hl hf hL hL2
 by_cases h16 : 16 < L2
 ·
  have h16' : (16 : Int) < L2 := by omega
  have HB : Hid (BldP n root ts rs 2) := .inl ⟨.inr (by rw [← HL.out.1]; exact h16), rfl⟩
  clear h16 H1
  go_enter Tryz.func39, Tryz.ntmps39
  go_wp2
  go_ret
  exact bld_no 2 (by omega) HB.out HP.out.1 (Keeps.refl _ _)
 ·
  have h16' : ¬ (16 : Int) < L2 := by omega
  have h16n : ts.length ≤ 16 := by rw [← HL.out.1]; omega
  have H16 : Hid (ts.length ≤ 16) := h16n
  clear h16 h16n
  go_enter Tryz.func39, Tryz.ntmps39
  go_wp2_with fail
  refine H1.out.mono ?_
  rintro e w1 ⟨⟨m, z, rfl, hT⟩, hK1⟩
  have HK1 : Hid (Keeps (fun _ => False) w w1) := hK1
  have HT : Hid (TabP rs m z) := hT
  clear hT hK1 H1
  by_cases hz : z = 0
  ·
   subst hz
   have hT : rs.length ≤ 8 ∧ MayB rs ∧ m = cnt (findL rs) 16 := by
    rcases HT.out with h | h | h
    ·
     omega
    ·
     omega
    ·
     exact ⟨h.1, h.2.1, h.2.2.1⟩
   have HT' : Hid (rs.length ≤ 8 ∧ MayB rs ∧ m = cnt (findL rs) 16) := hT
   have H2 := lieIn_any b g n xs a rs c w1 (HP.out.1.grown HK1.out) HP.out.2.2.2.2.2.2 (HP.out.2.2.1.grown HK1.out) (may_ok hT.2.1)
   rw [← HL.out.2] at H2
   have hm16 : (m : Int) ≤ 16 := by have := cnt_le (findL rs) 16; omega
   clear HT hT
   cases ho : rs.any fun r => decide ((n : Int) < r.frame + r.pages)
   ·
    rw [ho] at H2
    have H2 : Hid (Calls _ _ _ _ _) := H2
    have HO : Hid (¬ Outs n rs) := fun h => by have := outs_any.2 h; rw [ho] at this; cases this
    clear ho
    go_wp2_with fail
    refine H2.out.mono ?_
    rintro e w2 ⟨rfl, hK2⟩
    have HK2 : Hid (Keeps (fun _ => False) w w2) := HK1.out.trans hK2 fun _ _ h => h
    clear hK2 H2
    by_cases hmm : L2 = m
    ·
     have hmm' : ((L2 : Int) != (m : Int)) = false := by simp; omega
     have HMM : Hid (ts.length = cnt (findL rs) 16) := by show ts.length = _; rw [← HL.out.1, ← HT'.out.2.2]; exact hmm
     have H3 := apart_any b g n xs root a2 ts c2 w2 (HP.out.1.grown HK2.out) HP.out.2.2.2.2.2.1 (HP.out.2.1.grown HK2.out)
     rw [← HL.out.1] at H3
     have H3 : Hid (Calls _ _ _ _ _) := H3
     clear hmm
     go_wp2_with fail
     refine H3.out.mono ?_
     rintro e w3 ⟨⟨y, rfl, hy⟩, hK3⟩
     have HK3 : Hid (Keeps (fun _ => False) w w3) := HK2.out.trans hK3 fun _ _ h => h
     clear hK3 H3
     cases y
     ·
      have HA : Hid (BldP n root ts rs 91) := .inr (.inr (.inr (.inl ⟨⟨HT'.out.1, H16.out⟩, ⟨HT'.out.2.1, HO.out⟩, HMM.out, (fun h => by have := hy.2 h; cases this), rfl⟩)))
      clear hy
      go_wp2
      go_ret
      exact bld_no 91 (by omega) HA.out HP.out.1 HK3.out
     ·
      have HA : Hid (Apart n root ts) := hy.1 rfl
      have HS : Hid (∀ W', Calls _ _ _ W' _) := fun W' => standing_any a L c W'
      clear hy
      go_wp2_with fail
      refine (HS.out _).mono ?_
      rintro e w4 ⟨rfl, hb4, hk4⟩
      have hK4 := HK3.out.trans hk4 fun _ _ h => h
      have hM4 := HP.out.1.grown hK4
      obtain ⟨B, hB⟩ : ∃ B, B = w3.heap.size := ⟨_, rfl⟩
      rw [← hB] at hb4 ⊢
      have hgw := HP.out.1.mm.row.lt
      have hw3 := HK3.out.size
      rw [HL.out.2] at hb4
      obtain ⟨r, hr⟩ := Int.eq_ofNat_of_zero_le HA.out.1.1
      subst hr
      have H5 := lay_any b g n xs r a2 ts c2 B a rs c w4 hM4 (HP.out.2.1.grown hK4) ⟨hb4.cell rfl, HP.out.2.2.2.2.2.2, HP.out.2.2.1.grown hK4, may_ok HT'.out.2.1⟩
       ⟨rfl, hM4.mm.blk.lt, hM4.mm.row.lt, hb4.lt, by omega, hM4.mm.ne, HP.out.2.2.2.2.1, HP.out.2.2.2.1, HP.out.2.2.2.2.2.1, HMM.out.symm, fun t ht => by
        obtain ⟨k, hk⟩ := List.mem_iff_getElem?.1 ht
        exact (HA.out.2 k t hk).1⟩ (by have := HA.out.1; omega)
      rw [← HL.out.1] at H5
      have H5 : Hid (Calls _ _ _ _ _) := H5
      have HK4 : Hid (Keeps (fun _ => False) w w4) := hK4
      clear hb4 hk4 hK4 hM4 hB hgw hw3 HS
      go_wp2_with fail
      refine H5.out.mono ?_
      rintro e w5 ⟨⟨v, rfl⟩, hM5, hK5⟩
      have HM5 : Hid (Mn w5 b g n (builtL (findL rs) ts r xs) ∧ Keeps (· = g) w w5) := ⟨hM5, (HK4.out.mono fun _ _ h => h.elim).trans hK5 fun _ _ h => h⟩
      clear hM5 hK5 H5
      go_wp2
      go_ret
      exact ⟨0, rfl, .inr (.inr (.inr (.inr ⟨⟨HT'.out.1, H16.out⟩, ⟨HT'.out.2.1, HO.out⟩, HMM.out, HA.out, rfl⟩))), HM5.out.1, HM5.out.2⟩
    ·
     have hmm' : ((L2 : Int) != (m : Int)) = true := by rw [bne_iff_ne]; omega
     have HA : Hid (BldP n root ts rs 94) := .inr (.inr (.inl ⟨⟨HT'.out.1, H16.out⟩, ⟨HT'.out.2.1, HO.out⟩, fun h => hmm (by rw [HL.out.1, h, HT'.out.2.2]), rfl⟩))
     clear hmm
     go_wp2
     go_ret
     exact bld_no 94 (by omega) HA.out HP.out.1 HK2.out
   ·
    rw [ho] at H2
    have H2 : Hid (Calls _ _ _ _ _) := H2
    have HA : Hid (BldP n root ts rs 95) := .inr (.inl ⟨⟨HT'.out.1, H16.out⟩, .inr (outs_any.1 ho), rfl⟩)
    clear ho
    go_wp2_with fail
    refine H2.out.mono ?_
    rintro e w2 ⟨rfl, hK2⟩
    have HK2 : Hid (Keeps (fun _ => False) w w2) := HK1.out.trans hK2 fun _ _ h => h
    clear hK2 H2
    go_wp2
    go_ret
    exact bld_no 95 (by omega) HA.out HP.out.1 HK2.out
  ·
   have hz' : ((z : Int) != 0) = true := by rw [bne_iff_ne]; omega
   have HA : Hid (BldP n root ts rs z) := by
    rcases HT.out with ⟨h1, h2, h3⟩ | ⟨h1, h2, h3, h4⟩ | ⟨h1, h2, h3, h4⟩
    ·
     rw [h3]; exact .inl ⟨.inl h1, rfl⟩
    ·
     rw [h4]; exact .inr (.inl ⟨⟨h1, H16.out⟩, .inl h2, rfl⟩)
    ·
     exact absurd h4 hz
   have HZ : Hid (z ≠ 0) := hz
   clear HT hz
   go_wp2
   go_ret
   exact bld_no z HZ.out HA.out HP.out.1 HK1.out
end Mq
end Go.Proofs.YtglhfijgnfignaaGreat
namespace Go.Proofs.YtglhfijgnfignaaGreat
namespace Mq
open Go.RowKit
set_option linter.unusedVariables false
set_option linter.unusedSimpArgs false
structure Lays (f : Nat → Option (Nat × Nat)) (ts : List Int) (root n : Nat) (xs : List UInt32) : Prop where
 len : xs.length = n * 16
 rl : root < n
 ok : ∀ t, t ∈ ts → 0 ≤ t ∧ t < n
 ne : ∀ t, t ∈ ts → t ≠ (root : Int)
 cn : cnt f 16 = ts.length
theorem Lays.tab {f : Nat → Option (Nat × Nat)} {ts : List Int} {root n : Nat} {xs : List UInt32} (h : Lays f ts root n xs) {t : Nat} (ht : t < 16) (hn : needB f t = true) :
  ∃ T : Nat, ts[cnt f t]? = some (T : Int) ∧ ts.getD (cnt f t) 0 = (T : Int) ∧ T < n ∧ T ≠ root := by
 have hC : cnt f t < ts.length := by rw [← h.cn]; exact cnt_lt _ ht hn
 have hm := List.getElem_mem hC
 have h1 := h.ok _ hm
 have h2 := h.ne _ hm
 obtain ⟨T, hT⟩ := Int.eq_ofNat_of_zero_le h1.1
 refine ⟨T, by rw [List.getElem?_eq_getElem hC, hT], by simp [List.getD, hC, hT], by omega, by omega⟩
theorem Lays.layed_len {f : Nat → Option (Nat × Nat)} {ts : List Int} {root n : Nat} {xs : List UInt32} (h : Lays f ts root n xs) : ∀ t, t ≤ 16 → (layed f ts xs t).length = n * 16
 | 0, _ => h.len
 | t + 1, ht => by
  have ih := h.layed_len t (by omega)
  cases hn : needB f t
  ·
   rw [layed_no hn]; exact ih
  ·
   obtain ⟨T, _, hT, hTn, _⟩ := h.tab (by omega) hn
   rw [layed_yes hn, lay_length _ _ _ (by rw [hT, rowL_length, ih]; simp; omega)]; exact ih
theorem enc_says (F R : Nat) (hF : F < 1024) (hR : R < 8) : isT (enc F R).toNat = true ∧ frm (enc F R).toNat = F ∧ rts (enc F R).toNat = R := by
 rw [enc_nat F R hF hR]
 have ht : isT (2147483648 + F * 8 + R) = true := by unfold isT; simp; omega
 refine ⟨ht, ?_, ?_⟩
 ·
  unfold frm; rw [if_pos ht]; omega
 ·
  unfold rts; rw [if_pos ht]; omega
theorem zero_says : isT (0 : UInt32).toNat = false := by rfl
theorem cnt_inj {f : Nat → Option (Nat × Nat)} {s t : Nat} (h : s ≠ t) (hs : needB f s = true) (ht : needB f t = true) : cnt f s ≠ cnt f t := by
 rcases Nat.lt_or_gt_of_ne h with h | h
 ·
  have := cnt_lt f h hs; omega
 ·
  have := cnt_lt f h ht; omega
def Dist (ts : List Int) : Prop := ∀ (i j : Nat) (t u : Int), i ≠ j → ts[i]? = some t → ts[j]? = some u → t ≠ u
theorem tabs_dist {n : Nat} {root : Int} {ts : List Int} (h : TabsOk n root ts) : Dist ts := by
 intro i j t u hij hi hj e
 subst e
 rcases Nat.lt_or_gt_of_ne hij with hl | hl
 ·
  exact (h j t hj).2.2 (List.mem_of_getElem? (show (ts.take j)[i]? = some t by rw [List.getElem?_take, if_pos hl]; exact hi))
 ·
  exact (h i t hi).2.2 (List.mem_of_getElem? (show (ts.take i)[j]? = some t by rw [List.getElem?_take, if_pos hl]; exact hj))
theorem rowL_at (f : Nat → Option (Nat × Nat)) (t i : Nat) (h : i < 16) : (rowL f t)[i]? = some (encO (f (t * 16 + i))) := by simp [rowL, h]
theorem topL_at (f : Nat → Option (Nat × Nat)) (ts : List Int) (t : Nat) (h : t < 16) : (topL f ts)[t]? = some (topW f ts t) := by simp [topL, h]
theorem layed_at {f : Nat → Option (Nat × Nat)} {ts : List Int} {root n : Nat} {xs : List UInt32} (h : Lays f ts root n xs) (hd : Dist ts) {t T i : Nat} (hn : needB f t = true) (hT : ts[cnt f t]? = some (T : Int)) (hTn : T < n) (hi : i < 16) :
  ∀ s, t < s → s ≤ 16 → (layed f ts xs s)[16 * T + i]? = some (encO (f (t * 16 + i)))
 | 0, hs, _ => by omega
 | s + 1, hs, h16 => by
  have hlen := h.layed_len s (by omega)
  by_cases hst : s = t
  ·
   subst hst
   have hg : ts.getD (cnt f s) 0 = (T : Int) := by simp [List.getD, hT]
   rw [layed_yes hn, hg, Int.toNat_natCast, lay_get _ _ _ (by rw [rowL_length, hlen]; omega), rowL_length, if_pos (by omega), show 16 * T + i - 16 * T = i by omega]
   exact rowL_at f s i hi
  ·
   have ih := layed_at h hd hn hT hTn hi s (by omega) (by omega)
   cases hns : needB f s
   ·
    rw [layed_no hns]; exact ih
   ·
    obtain ⟨T', h1, h2, h3, h4⟩ := h.tab (by omega) hns
    have hne : (T : Int) ≠ T' := hd _ _ _ _ (cnt_inj (fun e => hst e.symm) hn hns) hT h1
    have hne' : T ≠ T' := fun e => hne (by rw [e])
    rw [layed_yes hns, h2, Int.toNat_natCast, lay_get _ _ _ (by rw [rowL_length, hlen]; omega), rowL_length, if_neg (by omega)]
    exact ih
theorem built_root {f : Nat → Option (Nat × Nat)} {ts : List Int} {root n : Nat} {xs : List UInt32} (h : Lays f ts root n xs) {t : Nat} (ht : t < 16) : (builtL f ts root xs)[16 * root + t]? = some (topW f ts t) := by
 unfold builtL
 have := h.rl
 rw [lay_get _ _ _ (by rw [topL_length, h.layed_len 16 (Nat.le_refl _)]; omega), topL_length, if_pos (by omega), show 16 * root + t - 16 * root = t by omega]
 exact topL_at f ts t ht
theorem built_tab {f : Nat → Option (Nat × Nat)} {ts : List Int} {root n : Nat} {xs : List UInt32} (h : Lays f ts root n xs) (hd : Dist ts) {t T i : Nat} (ht : t < 16) (hn : needB f t = true) (hT : ts[cnt f t]? = some (T : Int)) (hTn : T < n) (hTr : T ≠ root) (hi : i < 16) :
  (builtL f ts root xs)[16 * T + i]? = some (encO (f (t * 16 + i))) := by
 unfold builtL
 have := h.rl
 rw [lay_get _ _ _ (by rw [topL_length, h.layed_len 16 (Nat.le_refl _)]; omega), topL_length, if_neg (by omega)]
 exact layed_at h hd hn hT hTn hi 16 ht (Nat.le_refl _)
theorem need_none {f : Nat → Option (Nat × Nat)} {t i : Nat} (h : needB f t = false) (hi : i < 16) : f (t * 16 + i) = none := by
 unfold needB at h
 rw [List.any_eq_false] at h
 have := h i (by simpa using hi)
 cases hf : f (t * 16 + i) with
 | none => rfl
 | some x => rw [hf] at this; simp at this
theorem find_in {n : Nat} {rs : List Rgn} (hm : MayB rs) (ho : ¬ Outs n rs) : ∀ p x, findL rs p = some x → x.1 < n ∧ x.2 < 8 := by
 intro p x hx
 have hfit := findL_fit (may_ok hm) p x hx
 refine ⟨?_, hfit.2⟩
 unfold findL at hx
 cases hf : rs.find? fun r => r.has p with
 | none => rw [hf] at hx; simp at hx
 | some r =>
  rw [hf] at hx
  simp only [Option.map_some] at hx
  obtain rfl := Option.some.inj hx
  have hr := List.mem_of_find?_eq_some hf
  obtain ⟨h1, h2, h3, h4, h5, h6, h7⟩ := may_ok hm r hr
  have hb := has_bounds (r := r) (p := p) (by simpa using List.find?_some hf)
  have : ¬ (n : Int) < r.frame + r.pages := fun h => ho ⟨r, hr, h⟩
  simp only
  omega
theorem built_lays {n : Nat} {xs : List UInt32} {root : Nat} {ts : List Int} {rs : List Rgn} (hl : xs.length = n * 16) (ha : Apart n (root : Int) ts) (hc : ts.length = cnt (findL rs) 16) : Lays (findL rs) ts root n xs ∧ Dist ts :=
 ⟨⟨hl, by have := ha.1; omega, fun t ht => by
   obtain ⟨k, hk⟩ := List.mem_iff_getElem?.1 ht
   exact (ha.2 k t hk).1, fun t ht => by
   obtain ⟨k, hk⟩ := List.mem_iff_getElem?.1 ht
   exact (ha.2 k t hk).2.1, hc.symm⟩, tabs_dist ha.2⟩
theorem layed_else {f : Nat → Option (Nat × Nat)} {ts : List Int} {root n : Nat} {xs : List UInt32} (h : Lays f ts root n xs) {i : Nat} (hi : ((i / 16 : Nat) : Int) ∉ ts) : ∀ s, s ≤ 16 → (layed f ts xs s)[i]? = xs[i]?
 | 0, _ => rfl
 | s + 1, h16 => by
  have ih := layed_else h hi s (by omega)
  cases hns : needB f s
  ·
   rw [layed_no hns]; exact ih
  ·
   obtain ⟨T', h1, h2, h3, h4⟩ := h.tab (by omega) hns
   have hne : i / 16 ≠ T' := fun e => hi (by rw [e]; exact List.mem_of_getElem? h1)
   rw [layed_yes hns, h2, Int.toNat_natCast, lay_get _ _ _ (by rw [rowL_length, h.layed_len s (by omega)]; omega), rowL_length, if_neg (by omega)]
   exact ih
theorem built_else {f : Nat → Option (Nat × Nat)} {ts : List Int} {root n : Nat} {xs : List UInt32} (h : Lays f ts root n xs) {i : Nat} (hi : ((i / 16 : Nat) : Int) ∉ ts) (hr : i / 16 ≠ root) : (builtL f ts root xs)[i]? = xs[i]? := by
 unfold builtL
 have := h.rl
 rw [lay_get _ _ _ (by rw [topL_length, h.layed_len 16 (Nat.le_refl _)]; omega), topL_length, if_neg (by omega)]
 exact layed_else h hi 16 (Nat.le_refl _)
end Mq
end Go.Proofs.YtglhfijgnfignaaGreat
