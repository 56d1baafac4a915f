import Derived.Test.YtglhfijgnfignaaGreatPBm
import Derived.Test.YtglhfijgnfignaaGreatTd
import Derived.Test.YtglhfijgnfignaaGreatHq
import Derived.Test.YtglhfijgnfignaaGreatHn
import Derived.StillTailTactics
namespace Go.Proofs.YtglhfijgnfignaaGreat
open Go.RowKit
open Mq
set_option linter.unusedVariables false
set_option linter.unusedSimpArgs false
theorem okB_ok {x : Cfg} (g : Gd x) {r : Rgn} (h : r.okB x.frames = true) : r.ok ∧ r.frame + r.pages ≤ x.frames := by
 unfold Rgn.okB at h
 simp only [Bool.and_eq_true, inR_iff, decide_eq_true_eq] at h
 obtain ⟨⟨h1, h2⟩, ⟨h3, h4⟩, h5, h6, h7, h8⟩ := h
 have := g.frames
 exact ⟨⟨h1, h3, by omega, h5, by omega, by omega, by omega⟩, by omega⟩
theorem GP.ok {x : Cfg} (g : Gd x) {p : Nat} {P : Par} (h : GP x p P) : ∀ r, r ∈ P.rs → r.ok := fun r hr => (okB_ok g (h.rok r hr)).1
theorem GP.fr {x : Cfg} (g : Gd x) {p : Nat} {P : Par} (h : GP x p P) : ∀ r, r ∈ P.rs → r.frame + r.pages ≤ x.frames := fun r hr => (okB_ok g (h.rok r hr)).2
theorem pair_uniq {l : List Rgn} {ro : Rgn → Rn} (h : l.Pairwise fun s r => (ro s).meets (ro r) = false) (q : Int) : ∀ r s, r ∈ l → s ∈ l → (ro r).f ≤ q → q < (ro r).f + (ro r).s → (ro s).f ≤ q → q < (ro s).f + (ro s).s → r = s := by
 intro r s hr hs a1 a2 b1 b2
 obtain ⟨i, hi⟩ := List.mem_iff_getElem?.1 hr
 obtain ⟨j, hj⟩ := List.mem_iff_getElem?.1 hs
 rw [List.pairwise_iff_getElem] at h
 obtain ⟨hi1, hi2⟩ := List.getElem?_eq_some_iff.1 hi
 obtain ⟨hj1, hj2⟩ := List.getElem?_eq_some_iff.1 hj
 rcases Nat.lt_trichotomy i j with e | e | e
 ·
  have := h i j hi1 hj1 e
  rw [hi2, hj2] at this
  unfold Rn.meets at this
  simp only [Bool.and_eq_false_iff, decide_eq_false_iff_not] at this
  omega
 ·
  subst e; rw [← hi2, ← hj2]
 ·
  have := h j i hj1 hi1 e
  rw [hi2, hj2] at this
  unfold Rn.meets at this
  simp only [Bool.and_eq_false_iff, decide_eq_false_iff_not] at this
  omega
theorem GP.fu {x : Cfg} {p : Nat} {P : Par} (h : GP x p P) : FrU P.rs := fun f r s hr hs h1 h2 => by
 obtain ⟨a1, a2⟩ := hasF_iff.1 h1
 obtain ⟨b1, b2⟩ := hasF_iff.1 h2
 exact pair_uniq (ro := Rgn.fr) h.frames (f : Int) r s hr hs a1 a2 b1 b2
theorem GP.pu {x : Cfg} {p : Nat} {P : Par} (h : GP x p P) : PgU P.rs := fun f r s hr hs h1 h2 => by
 obtain ⟨a1, a2⟩ := has_iff.1 h1
 obtain ⟨b1, b2⟩ := has_iff.1 h2
 exact pair_uniq (ro := Rgn.pg) h.pages (f : Int) r s hr hs a1 a2 b1 b2
theorem GP.may {x : Cfg} (g : Gd x) {p : Nat} {P : Par} (h : GP x p P) : MayB P.rs := by
 intro i r hr
 refine ⟨h.ok g r (List.mem_of_getElem? hr), fun j o hj ho => ?_⟩
 have hp := h.pages
 rw [List.pairwise_iff_getElem] at hp
 obtain ⟨hi1, hi2⟩ := List.getElem?_eq_some_iff.1 hr
 obtain ⟨hj1, hj2⟩ := List.getElem?_eq_some_iff.1 ho
 have := hp j i hj1 hi1 hj
 rw [hi2, hj2] at this
 unfold Rn.meets Rgn.pg at this
 simp only [Bool.and_eq_false_iff, decide_eq_false_iff_not] at this
 rintro ⟨m1, m2⟩
 omega
theorem GP.outs {x : Cfg} (g : Gd x) {n : Nat} (hn : (n : Int) = x.frames) {p : Nat} {P : Par} (h : GP x p P) : ¬ Outs n P.rs := by
 rintro ⟨r, hr, hlt⟩
 have := h.fr g r hr
 omega
theorem need_hasT {rs : List Rgn} (ho : ∀ r, r ∈ rs → r.ok) (t : Nat) : needB (findL rs) t = hasT rs t := by
 rw [Bool.eq_iff_iff]
 unfold needB hasT
 rw [List.any_eq_true, List.any_eq_true]
 constructor
 ·
  rintro ⟨i, hi, hs⟩
  obtain ⟨z, hz⟩ := Option.isSome_iff_exists.1 hs
  obtain ⟨r, hr, hp, _⟩ := findL_some hz
  obtain ⟨a1, a2⟩ := has_iff.1 hp
  have hi' : i < 16 := by simpa using hi
  refine ⟨r, hr, ?_⟩
  unfold Rgn.hit
  simp only [Bool.and_eq_true, decide_eq_true_eq]
  omega
 ·
  rintro ⟨r, hr, hh⟩
  obtain ⟨o1, o2, o3, o4, o5, o6, o7⟩ := ho r hr
  unfold Rgn.hit at hh
  simp only [Bool.and_eq_true, decide_eq_true_eq] at hh
  have key : ∃ q : Nat, r.has q = true ∧ t * 16 ≤ q ∧ q < t * 16 + 16 := by
   by_cases e : r.page < t * 16
   ·
    exact ⟨t * 16, has_iff.2 ⟨by omega, by omega⟩, by omega, by omega⟩
   ·
    exact ⟨r.page.toNat, has_iff.2 ⟨by omega, by omega⟩, by omega, by omega⟩
  obtain ⟨q, hq, q1, q2⟩ := key
  refine ⟨q - t * 16, by simp; omega, ?_⟩
  rw [show t * 16 + (q - t * 16) = q by omega]
  cases hf : findL rs q with
  | none => have := findL_none hf r hr; rw [hq] at this; cases this
  | some z => rfl
theorem cnt_cntT {rs : List Rgn} (ho : ∀ r, r ∈ rs → r.ok) (t : Nat) : cnt (findL rs) t = cntT rs t := by
 induction t with
 | zero => rfl
 | succ t ih => rw [cntT_succ, ← ih, ← need_hasT ho]; rfl
def rt (x : Cfg) (i : Nat) : Int := rtAt x (rtB x (16 * x.kernel)) i
def rtN (x : Cfg) (i : Nat) : Nat := (rt x i / 16).toNat
def tbs (x : Cfg) (i : Nat) (P : Par) : List Int := tabL (rt x i) (cntT P.rs 16)
theorem Gd.rtb {x : Cfg} (g : Gd x) : 16 * x.kernel + 2 + 24 * (x.ps.length : Int) ≤ rt x 0 ∧ rt x 0 % 16 = 0 := by
 obtain ⟨hm, h0, h1, h2, h3⟩ := g.fit
 have h4 := chAt_bd hm (chB x (16 * x.kernel)) x.hs.length
 have h5 : 0 ≤ fillN (chE x (16 * x.kernel)) ∧ (chE x (16 * x.kernel) + fillN (chE x (16 * x.kernel))) % 16 = 0 := by unfold fillN; split <;> omega
 have h6 : rt x 0 = chE x (16 * x.kernel) + fillN (chE x (16 * x.kernel)) := rfl
 have h7 : chE x (16 * x.kernel) = chAt x (chB x (16 * x.kernel)) x.hs.length := rfl
 have h8 : chB x (16 * x.kernel) = 16 * x.kernel + 2 + 24 * (x.ps.length : Int) := rfl
 omega
theorem Gd.rt16 {x : Cfg} (g : Gd x) (i : Nat) : rt x i % 16 = 0 := (rtAt_bd x (rtB x (16 * x.kernel)) i).2.2 g.rtb.2
theorem rt_mono (x : Cfg) {i j : Nat} (h : i ≤ j) : rt x i ≤ rt x j := by
 induction j with
 | zero => rw [show i = 0 by omega]; exact Int.le_refl _
 | succ j ih =>
  have hs : rt x (j + 1) = rt x j + rtSz x j := rfl
  have hz : 0 ≤ rtSz x j := by unfold rtSz; split <;> omega
  by_cases e : i = j + 1
  ·
   rw [e]; exact Int.le_refl _
  ·
   have := ih (by omega); omega
theorem rt_succ {x : Cfg} {i : Nat} {P : Par} (hP : x.ps[i]? = some P) : rt x (i + 1) = rt x i + 16 + 16 * (cntT P.rs 16 : Int) := rtAt_succ hP
theorem Gd.rtE {x : Cfg} (g : Gd x) : rt x x.ps.length ≤ 16 * (x.kernel + x.room) := by
 obtain ⟨hm, h0, h1, h2, h3⟩ := g.fit
 have := g.rt16 x.ps.length
 have e : x.endW = rt x x.ps.length / 16 := rfl
 omega
theorem Gd.frame {x : Cfg} (g : Gd x) {i : Nat} {P : Par} (hP : x.ps[i]? = some P) : rt x i / 16 = (rtN x i : Int) ∧ x.kernel ≤ rtN x i ∧ rt x (i + 1) / 16 ≤ x.kernel + x.room ∧ rt x 0 / 16 ≤ rt x i / 16 ∧ 0 ≤ x.kernel := by
 have h1 := g.rtb
 have h2 := g.fit
 have h3 := rt_mono x (show 0 ≤ i by omega)
 have h4 := rt_mono x (show i + 1 ≤ x.ps.length from (List.getElem?_eq_some_iff.1 hP).1)
 have h5 := g.rtE
 unfold rtN
 omega
theorem tbs_mem {x : Cfg} {i : Nat} {P : Par} {t : Int} : t ∈ tbs x i P ↔ ∃ k : Nat, k < cntT P.rs 16 ∧ t = rt x i / 16 + 1 + (k : Int) := by
 unfold tbs tabL
 rw [List.mem_map]
 constructor
 ·
  rintro ⟨k, hk, rfl⟩; exact ⟨k, by simpa using hk, rfl⟩
 ·
  rintro ⟨k, hk, rfl⟩; exact ⟨k, by simpa using hk, rfl⟩
theorem Gd.mem {x : Cfg} (g : Gd x) {i : Nat} {P : Par} (hP : x.ps[i]? = some P) {q : Nat} (h : q = rtN x i ∨ ((q : Nat) : Int) ∈ tbs x i P) : rt x i / 16 ≤ q ∧ (q : Int) < rt x (i + 1) / 16 := by
 have h1 := g.rt16 i
 have h2 := rt_succ hP
 have h3 := (g.frame hP).1
 rcases h with h | h
 ·
  omega
 ·
  obtain ⟨k, hk, e⟩ := tbs_mem.1 h
  omega
theorem Gd.apart {x : Cfg} (g : Gd x) {n : Nat} (hn : (n : Int) = x.frames) {i : Nat} {P : Par} (hP : x.ps[i]? = some P) : Apart n (rtN x i : Int) (tbs x i P) := by
 have h1 := g.rt16 i
 have h2 := rt_succ hP
 have h3 := g.frame hP
 have h4 := g.fit
 refine ⟨by omega, fun j t ht => ?_⟩
 have hj : (tbs x i P).length = cntT P.rs 16 := tabL_length _ _
 have hlt := (List.getElem?_eq_some_iff.1 ht).1
 have e : t = rt x i / 16 + 1 + (j : Int) := by
  unfold tbs tabL at ht
  rw [List.getElem?_map, List.getElem?_range (by omega)] at ht
  exact (Option.some.inj ht).symm
 refine ⟨by omega, by omega, fun hm => ?_⟩
 obtain ⟨k, hk⟩ := List.mem_iff_getElem?.1 hm
 rw [List.getElem?_take] at hk
 split at hk
 ·
  rename_i hkj
  unfold tbs tabL at hk
  rw [List.getElem?_map, List.getElem?_range (by omega)] at hk
  have : t = rt x i / 16 + 1 + (k : Int) := (Option.some.inj hk).symm
  omega
 ·
  cases hk
theorem Gd.tlen {x : Cfg} (g : Gd x) {i : Nat} {P : Par} (hP : x.ps[i]? = some P) : (tbs x i P).length = cnt (findL P.rs) 16 ∧ (tbs x i P).length ≤ 16 := by
 have e : (tbs x i P).length = cntT P.rs 16 := tabL_length _ _
 rw [cnt_cntT ((g.gp i P hP).ok g)]
 exact ⟨e, by rw [e]; exact cntT_le _ _⟩
theorem Gd.lays {x : Cfg} (g : Gd x) {n : Nat} (hn : (n : Int) = x.frames) {i : Nat} {P : Par} (hP : x.ps[i]? = some P) {xs : List UInt32} (hl : xs.length = n * 16) : Lays (findL P.rs) (tbs x i P) (rtN x i) n xs ∧ Dist (tbs x i P) :=
 built_lays hl (g.apart hn hP) (g.tlen hP).1
theorem Gd.far {x : Cfg} (g : Gd x) {i : Nat} {P : Par} (hP : x.ps[i]? = some P) {r : Rgn} (hr : r ∈ P.rs) {f : Nat} (hf : r.hasF f = true) : ¬ (x.kernel ≤ f ∧ (f : Int) < x.kernel + x.room) := by
 have h := g.ker
 unfold Cfg.kerB at h
 simp only [Bool.and_eq_true, Bool.not_eq_true'] at h
 have hh := h.2.2.1
 unfold Cfg.hitB at hh
 rw [List.any_eq_false] at hh
 have h1 := hh P (List.mem_of_getElem? hP)
 rw [Bool.not_eq_true, List.any_eq_false] at h1
 have h2 := h1 r hr
 obtain ⟨a1, a2⟩ := hasF_iff.1 hf
 unfold Rn.meets Rgn.fr at h2
 simp only [Bool.and_eq_true, decide_eq_true_eq] at h2
 rintro ⟨k1, k2⟩
 exact h2 ⟨by omega, by omega⟩
theorem Gd.else {x : Cfg} (g : Gd x) {i j : Nat} {P Q : Par} (hP : x.ps[i]? = some P) (hQ : x.ps[j]? = some Q) (hne : i ≠ j) {r s : Rgn} (hr : r ∈ P.rs) (hs : s ∈ Q.rs) {f : Nat} (h1 : r.hasF f = true) (h2 : s.hasF f = true) : False := by
 obtain ⟨a1, a2⟩ := hasF_iff.1 h1
 obtain ⟨b1, b2⟩ := hasF_iff.1 h2
 rcases Nat.lt_or_gt_of_ne hne with e | e
 ·
  have := (g.gp j Q hQ).ahead P (List.mem_iff_getElem?.2 ⟨i, by rw [List.getElem?_take, if_pos e]; exact hP⟩) r hr s hs
  unfold Rn.meets Rgn.fr at this
  simp only [Bool.and_eq_false_iff, decide_eq_false_iff_not] at this
  omega
 ·
  have := (g.gp i P hP).ahead Q (List.mem_iff_getElem?.2 ⟨j, by rw [List.getElem?_take, if_pos e]; exact hQ⟩) s hs r hr
  unfold Rn.meets Rgn.fr at this
  simp only [Bool.and_eq_false_iff, decide_eq_false_iff_not] at this
  omega
end Go.Proofs.YtglhfijgnfignaaGreat
namespace Go.Proofs.YtglhfijgnfignaaGreat
namespace Mq
open Go.RowKit
set_option linter.unusedVariables false
set_option linter.unusedSimpArgs false
structure Tbl (f : Nat → Option (Nat × Nat)) (ts : List Int) (root : Nat) (xs : List UInt32) : Prop where
 root : ∀ t, t < 16 → xs[16 * root + t]? = some (topW f ts t)
 tab : ∀ (t T i : Nat), t < 16 → needB f t = true → ts[cnt f t]? = some (T : Int) → i < 16 → xs[16 * T + i]? = some (encO (f (t * 16 + i)))
theorem tbl_built {f : Nat → Option (Nat × Nat)} {ts : List Int} {root n : Nat} {xs : List UInt32} (h : Lays f ts root n xs) (hd : Dist ts) : Tbl f ts root (builtL f ts root xs) :=
 ⟨fun t ht => built_root h ht, fun t T i ht hn hT hi => by
  have hm := List.mem_of_getElem? hT
  have h1 := h.ok _ hm
  have h2 := h.ne _ hm
  exact built_tab h hd ht hn hT (by omega) (by omega) hi⟩
theorem Tbl.kept {f : Nat → Option (Nat × Nat)} {ts : List Int} {root : Nat} {xs ys : List UInt32} (h : Tbl f ts root xs) (hk : ∀ i : Nat, (i / 16 = root ∨ ((i / 16 : Nat) : Int) ∈ ts) → ys[i]? = xs[i]?) : Tbl f ts root ys :=
 ⟨fun t ht => by rw [hk _ (.inl (by omega))]; exact h.root t ht, fun t T i ht hn hT hi => by
  rw [hk _ (.inr (by rw [show (16 * T + i) / 16 = T by omega]; exact List.mem_of_getElem? hT))]; exact h.tab t T i ht hn hT hi⟩
theorem tbl_walk {f : Nat → Option (Nat × Nat)} {ts : List Int} {root n : Nat} {xs zs : List UInt32} (h : Lays f ts root n zs) (hb : Tbl f ts root xs) (hn : n ≤ 1024) (hf : ∀ p x, f p = some x → x.1 < n ∧ x.2 < 8) (p : Nat) (hp : p < 256) :
  walkE n xs root p = (if (f p).isSome then 0 else 92) ∧ walkL n xs root p = (match f p with | some x => ⟨p, x.1, x.2⟩ | none => lf0) := by
 have hr : (0 : Int) ≤ (root : Int) ∧ (root : Int) < n := by have := h.rl; omega
 have hpp : (0 : Int) ≤ (p : Int) ∧ (p : Int) < 256 := by omega
 have hpe : p / 16 * 16 + p % 16 = p := by omega
 have hT : walkT n xs root p = (topW f ts (p / 16)).toNat := by
  unfold walkT
  have := hb.root (p / 16) (by omega)
  simp only [Int.toNat_natCast, List.getD, this, Option.getD_some]
 cases hnd : needB f (p / 16)
 ·
  have hnone : f p = none := by have := need_none hnd (i := p % 16) (by omega); rwa [hpe] at this
  have ht : nmE n (walkT n xs root p) = 92 := by rw [hT, topW_no hnd]; exact (isT_nm zero_says).1
  obtain ⟨q1, q2⟩ := walk_top hr hpp (by rw [ht]; omega)
  rw [q1, q2, ht, hnone]
  exact ⟨rfl, rfl⟩
 ·
  obtain ⟨T, h1, h2, h3, h4⟩ := h.tab (by omega) hnd
  obtain ⟨e1, e2, e3⟩ := enc_says T 0 (by omega) (by omega)
  have ht : nmE n (walkT n xs root p) = 0 := by
   rw [hT, topW_yes hnd, h2, Int.toNat_natCast]
   exact (in_nm e1 (by rw [e2]; exact h3)).1
  have hB : walkB n xs root p = (encO (f p)).toNat := by
   unfold walkB
   have hfr : frm (walkT n xs root p) = T := by rw [hT, topW_yes hnd, h2, Int.toNat_natCast, e2]
   have := hb.tab (p / 16) T (p % 16) (by omega) hnd h1 (by omega)
   rw [hpe] at this
   simp only [hfr, Int.toNat_natCast, List.getD, this, Option.getD_some]
  have hE := walk_low hr hpp ht
  rw [hB] at hE
  cases hfp : f p with
  | none =>
   rw [hfp] at hE
   have h0 : walkE n xs root p = 92 := by rw [hE]; exact (isT_nm zero_says).1
   refine ⟨by rw [h0]; rfl, ?_⟩
   unfold walkL; rw [if_neg (by omega)]
  | some x =>
   obtain ⟨f1, f2⟩ := hf p x hfp
   rw [hfp] at hE hB
   obtain ⟨g1, g2, g3⟩ := enc_says x.1 x.2 (by omega) f2
   have h0 : walkE n xs root p = 0 := by rw [hE]; exact (in_nm g1 (by show frm (enc x.1 x.2).toNat < n; rw [g2]; exact f1)).1
   refine ⟨by rw [h0]; rfl, ?_⟩
   unfold walkL; rw [if_pos h0, hB]
   show (⟨p, frm (enc x.1 x.2).toNat, rts (enc x.1 x.2).toNat⟩ : Lf) = _
   rw [g2, g3]
theorem builtL_len {f : Nat → Option (Nat × Nat)} {ts : List Int} {root n : Nat} {xs : List UInt32} (h : Lays f ts root n xs) : (builtL f ts root xs).length = n * 16 := by
 unfold builtL
 have := h.rl
 rw [lay_length _ _ _ (by rw [topL_length, h.layed_len 16 (Nat.le_refl _)]; omega), h.layed_len 16 (Nat.le_refl _)]
end Mq
open Mq
def entW (P : Par) : UInt32 := UInt32.ofNat P.entry.toNat
def stepB (x : Cfg) (i : Nat) (P : Par) (xs : List UInt32) : List UInt32 := lay (lay (builtL (findL P.rs) (tbs x i P) (rtN x i) xs) (stA x i).toNat zw5) (svA x i).toNat (ent (entW P))
def baseL (x : Cfg) (n : Nat) : Nat → List UInt32
 | 0 => List.replicate (n * 16) 0
 | i + 1 => match x.ps[i]? with | some P => stepB x i P (baseL x n i) | none => baseL x n i
structure BaseI (x : Cfg) (n k : Nat) (xs : List UInt32) : Prop where
 len : xs.length = n * 16
 tbl : ∀ p P, p < k → x.ps[p]? = some P → Tbl (findL P.rs) (tbs x p P) (rtN x p) xs
 zero : ∀ p i : Nat, k ≤ p → p < x.ps.length → svA x p ≤ i → (i : Int) < svA x p + 22 → xs[i]? = some 0
theorem zw5_len : zw5.length = 5 := rfl
theorem ent_len (e : UInt32) : (ent e).length = 17 := by simp [ent]
theorem Gd.svb {x : Cfg} (g : Gd x) {i : Nat} (hi : i < x.ps.length) : 0 ≤ svA x i ∧ svA x i + 22 ≤ rt x 0 := by
 have := g.rtb
 have := g.sv (i := i)
 unfold svA at *
 omega
theorem stepB_else {x : Cfg} (g : Gd x) {n : Nat} (hn : (n : Int) = x.frames) {i : Nat} {P : Par} (hP : x.ps[i]? = some P) {xs : List UInt32} (hl : xs.length = n * 16) {j : Nat} (h1 : ¬ (rt x i / 16 ≤ (j / 16 : Nat) ∧ ((j / 16 : Nat) : Int) < rt x (i + 1) / 16)) (h2 : ¬ (svA x i ≤ j ∧ (j : Int) < svA x i + 22)) :
  (stepB x i P xs)[j]? = xs[j]? := by
 obtain ⟨hL, hD⟩ := g.lays hn hP hl
 have hbl := builtL_len hL
 have hb := g.svb (List.getElem?_eq_some_iff.1 hP).1
 have ha := g.at (List.getElem?_eq_some_iff.1 hP).1
 have hss := svA_st x i
 unfold stepB
 rw [lay_get _ _ _ (by rw [ent_len, lay_length _ _ _ (by rw [zw5_len, hbl]; omega), hbl]; omega), ent_len, if_neg (by omega), lay_get _ _ _ (by rw [zw5_len, hbl]; omega), zw5_len, if_neg (by omega)]
 exact built_else hL (fun h => h1 (g.mem hP (.inr h))) (fun h => h1 (g.mem hP (.inl h)))
theorem stepB_len {x : Cfg} (g : Gd x) {n : Nat} (hn : (n : Int) = x.frames) {i : Nat} {P : Par} (hP : x.ps[i]? = some P) {xs : List UInt32} (hl : xs.length = n * 16) : (stepB x i P xs).length = n * 16 := by
 obtain ⟨hL, hD⟩ := g.lays hn hP hl
 have hbl := builtL_len hL
 have ha := g.at (List.getElem?_eq_some_iff.1 hP).1
 have hsv := g.sv (i := i)
 have hss := svA_st x i
 unfold stepB
 rw [lay_length _ _ _ (by rw [ent_len, lay_length _ _ _ (by rw [zw5_len, hbl]; omega), hbl]; omega), lay_length _ _ _ (by rw [zw5_len, hbl]; omega), hbl]
theorem stepB_tbl {x : Cfg} (g : Gd x) {n : Nat} (hn : (n : Int) = x.frames) {i : Nat} {P : Par} (hP : x.ps[i]? = some P) {xs : List UInt32} (hl : xs.length = n * 16) : Tbl (findL P.rs) (tbs x i P) (rtN x i) (stepB x i P xs) := by
 obtain ⟨hL, hD⟩ := g.lays hn hP hl
 have hbl := builtL_len hL
 have hb := g.svb (List.getElem?_eq_some_iff.1 hP).1
 have ha := g.at (List.getElem?_eq_some_iff.1 hP).1
 have hss := svA_st x i
 refine (tbl_built hL hD).kept fun j hj => ?_
 have h1 := g.mem hP hj
 have h2 := rt_mono x (show 0 ≤ i by omega)
 have h3 := g.rt16 i
 unfold stepB
 rw [lay_get _ _ _ (by rw [ent_len, lay_length _ _ _ (by rw [zw5_len, hbl]; omega), hbl]; omega), ent_len, if_neg (by omega), lay_get _ _ _ (by rw [zw5_len, hbl]; omega), zw5_len, if_neg (by omega)]
theorem base_inv {x : Cfg} (g : Gd x) {n : Nat} (hn : (n : Int) = x.frames) : ∀ k, k ≤ x.ps.length → BaseI x n k (baseL x n k)
 | 0, _ => ⟨by simp [baseL], fun p P hp => by omega, fun p i hp hp2 h1 h2 => by
   have := g.at hp2
   have hss := svA_st x p
   show (List.replicate (n * 16) (0 : UInt32))[i]? = _
   rw [List.getElem?_replicate, if_pos (by omega)]⟩
 | k + 1, hk => by
  have ih := base_inv g hn k (by omega)
  obtain ⟨P, hP⟩ : ∃ P, x.ps[k]? = some P := ⟨_, List.getElem?_eq_getElem (by omega)⟩
  have e : baseL x n (k + 1) = stepB x k P (baseL x n k) := by show (match x.ps[k]? with | some P => _ | none => _) = _; rw [hP]
  rw [e]
  have hb := g.svb (i := k) (by omega)
  refine ⟨stepB_len g hn hP ih.len, fun p Q hp hQ => ?_, fun p i hp hp2 h1 h2 => ?_⟩
  ·
   by_cases e : p = k
   ·
    subst e
    rw [hP] at hQ
    obtain rfl := Option.some.inj hQ
    exact stepB_tbl g hn hP ih.len
   ·
    refine (ih.tbl p Q (by omega) hQ).kept fun j hj => ?_
    have m1 := g.mem hQ hj
    have m2 := rt_mono x (show p + 1 ≤ k by omega)
    have m3 := rt_mono x (show 0 ≤ p by omega)
    have m4 := g.rt16 p
    have m5 := g.rt16 k
    exact stepB_else g hn hP ih.len (by omega) (by omega)
  ·
   rw [stepB_else g hn hP ih.len ?_ ?_]
   ·
    exact ih.zero p i (by omega) hp2 h1 h2
   ·
    have := g.svb hp2
    have m3 := rt_mono x (show 0 ≤ k by omega)
    have m4 := g.rt16 k
    omega
   ·
    unfold svA at *
    omega
end Go.Proofs.YtglhfijgnfignaaGreat
namespace Go.Proofs.YtglhfijgnfignaaGreat
open Go.RowKit Go.Shelf
open Mq
set_option linter.unusedVariables false
set_option maxRecDepth 6000
set_option linter.unusedSimpArgs false
theorem win_zero {xs : List UInt32} {a k : Nat} (h : ∀ i, a ≤ i → i < a + k → xs[i]? = some 0) : (xs.drop a).take k = List.replicate k 0 := by
 refine List.ext_getElem? fun i => ?_
 rw [win_at, List.getElem?_replicate]
 split
 ·
  exact h _ (by omega) (by omega)
 ·
  rfl
structure WoE (w : World) (x : Cfg) (n C N b1 d E : Nat) (F : Nat → PP) (T : Nat → List Int) (l : List Value) (W : World) : Prop where
 gd : Gd x
 hn : (n : Int) = x.frames
 one : One w x C N W
 row : Blk W b1 (row5 (fun i => (F i).vs) x.ps.length) 42
 fok : FOK x (16 * x.kernel + 2) (rtB x (16 * x.kernel)) x.ps.length F T
 tr : ∀ i, i < x.ps.length → Row eInt W w.heap.size (F i).tv (T i)
 wd : Blk W d [.int .i64 x.frames, .slice (some ⟨E, 0, none⟩) x.ps.length x.ps.length] 136
 we : Blk W E l 149
 wr : WRw W w.heap.size E x (svA x) (stA x) x.ps.length l
theorem WoE.kept {w : World} {x : Cfg} {n C N b1 d E : Nat} {F : Nat → PP} {T : Nat → List Int} {l : List Value} {W W' : World} (h : WoE w x n C N b1 d E F T l W) (k : Keeps (fun _ => False) W W') : WoE w x n C N b1 d E F T l W' :=
 ⟨h.gd, h.hn, h.one.kept k, h.row.kept k fun h => h, h.fok, fun i hi => (h.tr i hi).kept k fun _ h => h.elim, h.wd.kept k fun h => h, h.we.kept k fun h => h, h.wr.kept k fun _ h => h.elim⟩
theorem segI_of {w : World} {a : Option Addr} {ts : List Int} (h : SegA eInt.vs eInt.k w a ts) : Mq.SegI w a ts := by
 rcases h with h | ⟨g, o, ha, hc⟩
 ·
  exact .inl h
 ·
  refine .inr ⟨g, o, ha, ?_⟩
  intro j t hj
  have := hc j t hj 0 _ rfl
  simpa [eInt] using this
theorem segR_of {w : World} {a : Option Addr} {rs : List Rgn} (h : SegA Rgn.vs 4 w a rs) : SegR w a rs := by
 rcases h with h | ⟨g, o, ha, hc⟩
 ·
  exact .inl h
 ·
  refine .inr ⟨g, o, ha, fun j r hj => ?_⟩
  exact ⟨hc j r hj 0 _ rfl, hc j r hj 1 _ rfl, hc j r hj 2 _ rfl, hc j r hj 3 _ rfl⟩
theorem slice_inj {a a' : Option Addr} {n n' c c' : Nat} (h : Value.slice a n c = Value.slice a' n' c') : a = a' ∧ n = n' ∧ c = c' := by
 cases h; exact ⟨rfl, rfl, rfl⟩
theorem tv_of {w w3 : World} {x : Cfg} {n C N b1 d E j : Nat} {F : Nat → PP} {T : Nat → List Int} {l : List Value} {P : Par} (h : WoE w x n C N b1 d E F T l w3) (hP : x.ps[j]? = some P) :
  (F j).root = (rtN x j : Int) ∧ T j = tbs x j P ∧ ∃ ad cp, (F j).tv = .slice ad (tbs x j P).length cp ∧ ((tbs x j P).length : Int) ≤ cp ∧ (cp : Int) ≤ 9223372036854775807 := by
 have hj := (List.getElem?_eq_some_iff.1 hP).1
 obtain ⟨h1, h2, h3, h4⟩ := h.fok j hj
 obtain ⟨P', hP', hroot, hT⟩ := h4 hj
 rw [hP] at hP'
 obtain rfl := Option.some.inj hP'
 have hT' : T j = tbs x j P := hT
 have hfr := h.gd.frame hP
 refine ⟨by rw [hroot, ← hfr.1]; rfl, hT', ?_⟩
 have hrow := h.tr j hj
 rw [hT'] at hrow
 obtain ⟨ad, cp, htv, hL⟩ := hrow.lst
 have hlen := hL.len
 exact ⟨ad, cp, htv, by omega, by unfold maxLen at hlen; omega⟩
theorem build_yes {w w3 wr : World} {x : Cfg} {n C N b1 d E b g j : Nat} {F : Nat → PP} {T : Nat → List Int} {l : List Value} {P : Par} {xs : List UInt32} (h : WoE w x n C N b1 d E F T l w3) (hg : w3.heap.size = g) (k : Keeps (fun _ => False) w3 wr) (hP : x.ps[j]? = some P) (hM : Mn wr b g n xs)
  {ad : Option Addr} {cp nt : Nat} (htv : (F j).tv = .slice ad nt cp) :
  Calls Tryz.prog 39 #[.pointer (some ⟨b, 0, none⟩), .int .i64 (rtN x j), .slice ad nt cp, .slice P.ra P.rs.length P.rc] wr fun e w' => e = .returned (.int .i64 0) ∧ Mn w' b g n (builtL (findL P.rs) (tbs x j P) (rtN x j) xs) ∧ Keeps (· = g) wr w' := by
 have hj := (List.getElem?_eq_some_iff.1 hP).1
 obtain ⟨hroot', hT', _⟩ := tv_of h hP
 have hrow := h.tr j hj
 rw [hT'] at hrow
 obtain ⟨ad', cp', htv', hL⟩ := hrow.lst
 obtain ⟨rfl, rfl, rfl⟩ := slice_inj (htv'.symm.trans htv)
 have hgp := h.gd.gp j P hP
 have hal : ∀ y, ad' = some y → y.block ≠ g := fun y hy e => by
  have := hrow.lt y.block (by rw [htv', hy]; rfl)
  omega
 have hlen := hL.len
 have hpin := h.one.cin.pin P (List.mem_of_getElem? hP)
 have hrn : P.rs ≠ [] := fun e => by have := hgp.rlen.1; rw [e] at this; simp at this
 have hra : ∀ y, P.ra = some y → y.block ≠ g := fun y hy e => by
  have := hpin.rlo hrn y hy
  have := h.one.nn
  omega
 have hLr := hL.kept k fun _ h => h.elim
 have hpr := hpin.keeps h.one.nn k
 refine (build_any b g n xs (rtN x j) ad' (tbs x j P) cp' P.ra P.rs P.rc wr hM hlen (segI_of hLr.seg) hpr.rlen (segR_of hpr.rseg) hpr.rfine hal hra).mono ?_
 rintro e w' ⟨z, rfl, hz, hm, hk⟩
 have htl := h.gd.tlen hP
 have hap := h.gd.apart h.hn hP
 have hmay := hgp.may h.gd
 have hout := hgp.outs h.gd h.hn
 have hr8 := hgp.rlen.2
 obtain rfl : z = 0 := by
  rcases hz with ⟨h, _⟩ | ⟨_, h, _⟩ | ⟨_, _, h, _⟩ | ⟨_, _, _, h, _⟩ | ⟨_, _, _, _, h⟩
  ·
   omega
  ·
   rcases h with h | h
   ·
    exact absurd hmay h
   ·
    exact absurd h hout
  ·
   exact absurd htl.1 h
  ·
   exact absurd hap h
  ·
   exact h
 have e0 : BldX (rtN x j) (tbs x j P) P.rs xs 0 = builtL (findL P.rs) (tbs x j P) (rtN x j) xs := by unfold BldX; rw [if_pos rfl, Int.toNat_natCast]
 rw [e0] at hm
 exact ⟨rfl, hm, hk⟩
theorem begin_yes {w w3 wr : World} {x : Cfg} {n C N b1 d E b g j : Nat} {F : Nat → PP} {T : Nat → List Int} {l : List Value} {P : Par} (h : WoE w x n C N b1 d E F T l w3) (hg : w3.heap.size = g) (k : Keeps (fun _ => False) w3 wr) (hP : x.ps[j]? = some P) (hM : Mn wr b g n (builtL (findL P.rs) (tbs x j P) (rtN x j) (baseL x n j))) :
  Calls Tryz.prog 40 #[.pointer (some ⟨d, 0, none⟩), .pointer (some ⟨b, 0, none⟩), .int .i64 j] wr fun e w' => e = .returned (.int .i64 0) ∧ Mn w' b g n (baseL x n (j + 1)) ∧ Keeps (· = g) wr w' := by
 have hj := (List.getElem?_eq_some_iff.1 hP).1
 have hI := base_inv h.gd h.hn j (by omega)
 obtain ⟨hLy, hDs⟩ := h.gd.lays h.hn hP hI.len
 have hK := h.kept k
 obtain ⟨dd, a, hd, hi⟩ := hK.wr.each j P hj hP
 have hnum := (h.gd.gp j P hP).num
 have hat := h.gd.at hj
 have hsv := h.gd.sv (i := j)
 have hss := svA_st x j
 have hsb := h.gd.svb hj
 have e1 := hi.sv
 have e2 := hi.st
 have hbl := builtL_len hLy
 have hfr := h.hn
 have hlo : ∀ i : Nat, svA x j ≤ i → (i : Int) < svA x j + 22 → (builtL (findL P.rs) (tbs x j P) (rtN x j) (baseL x n j))[i]? = some 0 := fun i h1 h2 => by
  have m0 := rt_mono x (show 0 ≤ j by omega)
  have m4 := h.gd.rt16 j
  rw [built_else hLy (fun hm => by have := h.gd.mem hP (.inr hm); omega) (fun hm => by have := h.gd.mem hP (.inl hm); omega)]
  exact hI.zero j i (Nat.le_refl _) hj h1 h2
 obtain ⟨c, hc⟩ : ∃ c : Cns, c = ⟨x.frames, x.ps.length, j, d, E, b, g, a, P.action, dd⟩ := ⟨_, rfl⟩
 have hdg : d ≠ g := by have := h.wd.lt; omega
 have hEg : E ≠ g := by have := h.we.lt; omega
 have HW : Hw wr c (builtL (findL P.rs) (tbs x j P) (rtN x j) (baseL x n j)) Sta0 (List.replicate 17 0) := by
  rw [hc]
  refine ⟨⟨hK.wd, ⟨l, hK.we, hK.wr.len, hd⟩, hj⟩, hM.mm, ?_, ?_, ?_, ?_, ?_, ?_, ?_, hdg, hEg, ?_⟩
  ·
   show (((builtL (findL P.rs) (tbs x j P) (rtN x j) (baseL x n j)).length / 16 : Nat) : Int) = x.frames
   rw [hbl]; omega
  ·
   show dd.sv + 17 ≤ dd.st; omega
  ·
   show dd.st + 5 ≤ _
   rw [hbl]; omega
  ·
   exact win_zero fun i a1 a2 => hlo i (by simp only at a1; omega) (by simp only at a2; omega)
  ·
   exact win_zero fun i a1 a2 => hlo i (by simp only at a1; omega) (by simp only at a2; omega)
  ·
   refine ⟨by decide, ?_, by decide, fun _ => rfl, ?_, fun e => absurd e (by decide)⟩
   ·
    show (0 : Int) ≤ dd.rs; rw [hi.rs]; omega
   ·
    show (0 : Int) ≤ dd.ou; rw [hi.ou]; omega
  ·
   rcases hi.care with ⟨a1, a2, a3⟩ | ⟨a1, a2, a3, a4, a5, a6⟩
   ·
    exact .inl ⟨a1, a2, a3⟩
   ·
    refine .inr ⟨a1, a2, a3, a4, fun e => ?_⟩
    have e' : a = g := e
    have q := hM.mm.row
    rw [e'] at a4
    unfold Blk at a4 q
    rw [a4] at q
    simp at q
  ·
   show dd.rs ≤ 4294967295; rw [hi.rs]; omega
 have hcall := bgn_any c _ _ _ wr HW
 rw [hc] at hcall
 refine hcall.mono ?_
 rintro e w' ⟨rfl, hw', hk'⟩
 have hmm := hw'.mm
 have hen : dd.en = entW P := by
  unfold entW
  have := hi.en
  rw [← this, Int.toNat_natCast]
  exact (UInt32.ofNat_toNat).symm
 have eq : lay (lay (builtL (findL P.rs) (tbs x j P) (rtN x j) (baseL x n j)) (dd.st + 0) zw5) dd.sv (ent dd.en) = baseL x n (j + 1) := by
  show _ = (match x.ps[j]? with | some P => _ | none => _)
  rw [hP]
  simp only
  unfold stepB
  rw [show (stA x j).toNat = dd.st + 0 by omega, show (svA x j).toNat = dd.sv by omega, hen]
 have hmm' : Mm w' b g (baseL x n (j + 1)) := by rw [← eq]; exact hmm
 exact ⟨rfl, ⟨hmm', (base_inv h.gd h.hn (j + 1) (by omega)).len⟩, hk'⟩
attribute [local go_sem] Oper.semAt_some
def WoP (x : Cfg) (w : World) (e : Ending) (w' : World) : Prop :=
 Keeps (fun _ => False) w w' ∧ ((¬ Gd x ∧ ∃ z : Int, z ≠ 0 ∧ e = .returned (.tuple #[.pointer none, .int .i64 z])) ∨
  (Gd x ∧ ∃ b g, e = .returned (.tuple #[.pointer (some ⟨b, 0, none⟩), .int .i64 0]) ∧ (w.heap.size ≤ b ∧ w.heap.size ≤ g) ∧ Mn w' b g x.frames.toNat (baseL x x.frames.toNat x.ps.length)))
set_option maxHeartbeats 4000000 in
theorem wo_any (x : Cfg) (w : World) (N : Nat) (hi : x.In w N) (hN : N ≤ w.heap.size) :
  Calls Tryz.prog 19 #[x.v] w (WoP x w) := by
 obtain ⟨W, hW⟩ : ∃ W, W = x.laid w := ⟨_, rfl⟩
 obtain ⟨C, hC⟩ : ∃ C, C = w.heap.size := ⟨_, rfl⟩
 have hO : One w x C N W := by rw [hW, hC]; exact One.mk' hi hN
 have HO : Hid (One w x C N W) := hO
 have HC : Hid (Calls Tryz.prog 35 #[x.v] W (ChkP x W)) := Check_any x W N hO.cin hO.nn
 obtain ⟨q0, q1, q2, q3, q4, q5, q6⟩ := HO.out.cells
 unfold Cfg.laid at hW
 clear hi hN hO
 go_enter Tryz.func19, Tryz.ntmps19
 go_upto_region 1 with fail
 rw [← hW, ← hC]
 clear hW hC
 go_wp2_with fail
 refine HC.out.mono ?_
 rintro e w1 ⟨rfl, hK1⟩
 obtain ⟨W1, hW1⟩ : ∃ W1, W1 = w1.alloc (.cells #[.int .i64 (chk x).a, .int .i64 (chk x).b] 92) := ⟨_, rfl⟩
 have hK2 : Keeps (fun _ => False) W W1 := by rw [hW1]; exact hK1.alloc _
 have HO1 : Hid (One w x C N W1) := HO.out.kept hK2
 clear hK1 hK2 HC q0 q1 q2 q3 q4 q5 q6
 go_upto_region 2 with fail
 rw [← hW1]
 clear hW1
 by_cases hn : (chk x).n = 0
 case neg =>
  have HN : Hid (¬ Gd x ∧ (chk x).n ≠ 0) := ⟨fun g => hn (chk_n.2 g), hn⟩
  go_wp2_with fail
  go_ret2
  exact ⟨HO1.out.keeps, .inl ⟨HN.out.1, _, HN.out.2, rfl⟩⟩
 have HG : Hid (Gd x) := chk_n.1 hn
 have HC : Hid (Calls Tryz.prog 8 #[x.v] W1 (OfP x W1)) := Of_any x W1 N HO1.out.cin HO1.out.nn
 obtain ⟨q0, q1, q2, q3, q4, q5, q6⟩ := HO1.out.cells
 go_wp2_with fail
 refine HC.out.mono ?_
 rintro e w2 ⟨hK2, ⟨hm, _⟩ | ⟨hm, b1, b2, F, G, T, D, rfl, hLD, hF, hG⟩⟩
 ·
  exact absurd hm (by rw [HG.out.fit.1]; decide)
 obtain ⟨Z, hZ⟩ : ∃ Z, Z = rtAt x (rtB x (16 * x.kernel)) x.ps.length / 16 := ⟨_, rfl⟩
 rw [← hZ]
 clear hZ hG hm
 obtain ⟨A, hA⟩ : ∃ A, A = w2.heap.size := ⟨_, rfl⟩
 obtain ⟨W2, hW2⟩ : ∃ W2, W2 = w2.alloc (.cells #[.int .i64 (16 * x.kernel), .slice (some ⟨b1, 0, none⟩) x.ps.length x.ps.length, .slice (some ⟨b2, 0, none⟩) x.hs.length x.hs.length, .int .i64 Z] 37) := ⟨_, rfl⟩
 have hK3 : Keeps (fun _ => False) W1 W2 := by rw [hW2]; exact hK2.alloc _
 have HO2 : Hid (One w x C N W2 ∧ Blk W2 A [.int .i64 (16 * x.kernel), .slice (some ⟨b1, 0, none⟩) x.ps.length x.ps.length, .slice (some ⟨b2, 0, none⟩) x.hs.length x.hs.length, .int .i64 Z] 37 ∧ Blk W2 b1 (row5 (fun i => (F i).vs) x.ps.length) 42 ∧ (∀ i, i < x.ps.length → Row eInt W2 w.heap.size (F i).tv (T i)) ∧ FOK x (16 * x.kernel + 2) (rtB x (16 * x.kernel)) x.ps.length F T) := by
  refine ⟨HO1.out.kept hK3, ?_, ?_, fun i hi => ?_, hF⟩
  ·
   rw [hW2, hA]; exact Blk.new _ _ _
  ·
   rw [hW2]; exact hLD.p.alloc _
  ·
   have hr := ((hLD.tr i hi).1.lower' (lo' := w.heap.size) HO1.out.keeps.size)
   rw [hW2]
   exact hr.kept ((Keeps.refl (fun _ => False) w2).alloc _) fun _ h => h.elim
 clear hK2 hK3 HC q0 q1 q2 q3 q4 q5 q6 hLD hF hn
 go_upto_region 7 with fail
 rw [← hW2, ← hA]
 clear hW2 hA
 have HC : Hid (Calls Tryz.prog 37 #[x.v] W2 (NewP x W2)) := new_any x W2 N HO2.out.1.cin HO2.out.1.nn
 obtain ⟨q0, q1, q2, q3, q4, q5, q6⟩ := HO2.out.1.cells
 go_wp2_with fail
 refine HC.out.mono ?_
 rintro e w3 ⟨hK4, ⟨hm, _⟩ | ⟨_, d, E, l, rfl, hdE, hwd, hwe, hww⟩⟩
 ·
  exact absurd HG.out hm
 obtain ⟨n, hn⟩ : ∃ n : Nat, n = x.frames.toNat := ⟨_, rfl⟩
 have hnf : (n : Int) = x.frames := by have := HG.out.frames; omega
 have HE : Hid (WoE w x n C N b1 d E F T l w3 ∧ Blk w3 A [.int .i64 (16 * x.kernel), .slice (some ⟨b1, 0, none⟩) x.ps.length x.ps.length, .slice (some ⟨b2, 0, none⟩) x.hs.length x.hs.length, .int .i64 Z] 37 ∧ n = x.frames.toNat ∧ 1 ≤ n ∧ n ≤ 1024) :=
  ⟨⟨HG.out, hnf, HO2.out.1.kept hK4, HO2.out.2.2.1.kept hK4 fun h => h, HO2.out.2.2.2.2, fun i hi => (HO2.out.2.2.2.1 i hi).kept hK4 fun _ h => h.elim, hwd, hwe, hww.low HO2.out.1.keeps.size⟩, HO2.out.2.1.kept hK4 fun h => h, hn, by have := HG.out.frames; omega, by have := HG.out.frames; omega⟩
 clear hK4 HC q0 q1 q2 q3 q4 q5 q6 hdE hwd hwe hww hn HO2 HO1
 have HC : Hid (Calls _ _ _ w3 _) := new_in n w3 HE.out.2.2.2.1 HE.out.2.2.2.2
 obtain ⟨q0, q1, q2, q3, q4, q5, q6⟩ := HE.out.1.one.cells
 rw [← hnf] at q0
 clear hnf
 go_wp2_with fail
 refine HC.out.mono ?_
 rintro e w4 ⟨rfl, hm4, hk4⟩
 obtain ⟨g, hg⟩ : ∃ g, g = w3.heap.size := ⟨_, rfl⟩
 rw [← hg] at hm4 ⊢
 have H4 : Hid (Keeps (fun _ => False) w3 w4 ∧ Mn w4 (g + 1) g n (baseL x n 0) ∧ w3.heap.size = g) := ⟨hk4, ⟨hm4, by rw [show baseL x n 0 = List.replicate (n * 16) 0 from rfl, List.length_replicate]⟩, hg.symm⟩
 have a1 := (HE.out.2.1.kept hk4 fun h => h).cell (i := 1) rfl
 obtain ⟨L, hL⟩ : ∃ L, L = x.ps.length := ⟨_, rfl⟩
 have HL : Hid (L = x.ps.length) := hL
 rw [← hL] at a1
 clear hk4 hm4 hg hL HC q0 q1 q2 q3 q4 q5 q6
 have hL8 : (L : Int) ≤ 8 := by have := HG.out.ps.2; have := HL.out; omega
 go_wp2
 clear a1
 go_loopw [50] (fun i wr => ∃ j : Nat, j ≤ L ∧ i = .int .i64 j ∧ Keeps (fun _ => False) w3 wr ∧ Mn wr (g + 1) g n (baseL x n j)) (fun i _ => L - (intOf i).toNat)
 case atStart => exact ⟨0, by omega, rfl, H4.out.1, H4.out.2.1⟩
 case round =>
  obtain ⟨j, hj, rfl, hK, hMn⟩ := hrel
  by_cases hlt : j < L
  ·
   obtain ⟨P, hP⟩ : ∃ P, x.ps[j]? = some P := ⟨_, List.getElem?_eq_getElem (by have := HL.out; omega)⟩
   have hjx : j < x.ps.length := by have := HL.out; omega
   have hE' := HE.out.1.kept hK
   have hsz : g < wr.heap.size := hMn.mm.row.lt
   obtain ⟨hroot, _, ad, cp, htv, hcp1, hcp2⟩ := tv_of HE.out.1 hP
   obtain ⟨nt, hnt⟩ : ∃ nt, nt = (tbs x j P).length := ⟨_, rfl⟩
   rw [← hnt] at htv hcp1
   have HBA : Hid (∀ w', Keeps (fun _ => False) wr w' → Calls Tryz.prog 39 #[.pointer (some ⟨g + 1, 0, none⟩), .int .i64 (rtN x j), .slice ad nt cp, .slice P.ra P.rs.length P.rc] w' fun e w'' => e = .returned (.int .i64 0) ∧ Mn w'' (g + 1) g n (builtL (findL P.rs) (tbs x j P) (rtN x j) (baseL x n j)) ∧ Keeps (· = g) w' w'') :=
    fun w' k => build_yes HE.out.1 H4.out.2.2 (hK.trans k fun _ _ h => h) hP (hMn.grown k) htv
   have r0 := hE'.row.cell (i := j * 5 + 0) (v := .int .i64 (F j).lock) (by rw [row5_get (fun _ => rfl) hjx (by decide)]; rfl)
   have r1 := hE'.row.cell (i := j * 5 + 1) (v := .int .i64 (F j).save) (by rw [row5_get (fun _ => rfl) hjx (by decide)]; rfl)
   have r2 := hE'.row.cell (i := j * 5 + 2) (v := .int .i64 (F j).state) (by rw [row5_get (fun _ => rfl) hjx (by decide)]; rfl)
   have r3 := hE'.row.cell (i := j * 5 + 3) (v := .int .i64 (F j).root) (by rw [row5_get (fun _ => rfl) hjx (by decide)]; rfl)
   have r4 := hE'.row.cell (i := j * 5 + 4) (v := (F j).tv) (by rw [row5_get (fun _ => rfl) hjx (by decide)]; rfl)
   rw [hroot] at r3
   rw [htv] at r4
   rw [Nat.add_zero] at r0
   obtain ⟨q0, q1, q2, q3, q4, q5, q6⟩ := hE'.one.cells
   obtain ⟨gp, op, hpa, hpc⟩ := hE'.one.cin.pseg.at hP
   have p6 := hpc 6 (.slice P.ra P.rs.length P.rc) rfl
   rw [hpa, ← HL.out] at q5
   have hpl := hE'.one.cin.plen
   have hpl1 : (L : Int) ≤ x.pc := by have := HL.out; omega
   have hpl2 : (x.pc : Int) ≤ 9223372036854775807 := by unfold maxLen at hpl; omega
   have hjL : (j : Int) < L := by omega
   obtain ⟨lk, hlk⟩ : ∃ lk, lk = (F j).lock := ⟨_, rfl⟩
   obtain ⟨sv, hsv⟩ : ∃ sv, sv = (F j).save := ⟨_, rfl⟩
   obtain ⟨st, hst⟩ : ∃ st, st = (F j).state := ⟨_, rfl⟩
   obtain ⟨nr, hnr⟩ : ∃ nr, nr = P.rs.length := ⟨_, rfl⟩
   obtain ⟨ro, hro⟩ : ∃ ro, ro = rtN x j := ⟨_, rfl⟩
   rw [← hlk] at r0
   rw [← hsv] at r1
   rw [← hst] at r2
   rw [← hnr] at p6 HBA
   rw [← hro] at r3 HBA
   have HR : Hid (Keeps (fun _ => False) w3 wr ∧ Mn wr (g + 1) g n (baseL x n j) ∧ x.ps[j]? = some P ∧ ro = rtN x j) := ⟨hK, hMn, hP, hro⟩
   have hb1 : b1 < wr.heap.size := hE'.row.lt
   have hCl : C < wr.heap.size := hE'.one.cfg.lt
   have hgp : gp < wr.heap.size := World.block_lt_of_cell? wr _ p6
   clear hE' hK hMn hP htv hroot hlk hsv hst hnt hnr hro hpa hpc hpl hjx q0 q1 q2 q3 q4 q6
   go_upto_region 16 with fail
   obtain ⟨U, hU⟩ : ∃ U, U = wr.heap.size := ⟨_, rfl⟩
   obtain ⟨W6, hW6⟩ : ∃ W6, W6 = wr.alloc (.cells #[.int .i64 lk, .int .i64 sv, .int .i64 st, .int .i64 ro, .slice ad nt cp] 42) := ⟨_, rfl⟩
   have hK6 : Keeps (fun _ => False) wr W6 := by rw [hW6]; exact (Keeps.refl _ wr).alloc _
   have hB6 : Blk W6 U [.int .i64 lk, .int .i64 sv, .int .i64 st, .int .i64 ro, .slice ad nt cp] 42 := by rw [hW6, hU]; exact Blk.new wr _ 42
   have s3 := hB6.cell (i := 3) rfl
   have s4 := hB6.cell (i := 4) rfl
   have q5 := Mq.cell_kept q5 hK6 fun h => h
   have p6 := Mq.cell_kept p6 hK6 fun h => h
   rw [← hW6, ← hU]
   have H6 : Hid (Keeps (fun _ => False) wr W6) := hK6
   clear hK6 hB6 hW6 hU r0 r1 r2 r3 r4 hb1 hCl hgp hsz
   refine region_tailH 11 (by kernel_rfl) ?_
   simp only [List.take_succ_cons, List.take_zero, List.drop_succ_cons, List.drop_zero]
   repeat still_step
   refine wpStill_nil ?_
   go_wp2_with fail
   refine (HBA.out _ (H6.out.drewN 1)).mono ?_
   rintro e w7 ⟨rfl, hm7, hk7⟩
   have HK7 : Hid (Keeps (fun _ => False) w3 w7) := by
    have h1 := HR.out.1.trans (H6.out.drewN 1) fun _ _ h => h
    exact h1.trans hk7 fun k hk e => by have := H4.out.2.2; omega
   have HB7 : Hid (Calls _ _ _ w7 _) := begin_yes HE.out.1 H4.out.2.2 HK7.out HR.out.2.2.1 (by rw [← HR.out.2.2.2]; exact hm7)
   clear hm7 hk7 HBA s3 s4 q5 p6
   go_wp2_with fail
   refine HB7.out.mono ?_
   rintro e w8 ⟨rfl, hm8, hk8⟩
   have H8 : Hid (Keeps (fun _ => False) w3 w8 ∧ Mn w8 (g + 1) g n (baseL x n (j + 1))) := ⟨HK7.out.trans hk8 fun k hk e => by have := H4.out.2.2; omega, hm8⟩
   clear hm8 hk8 HB7
   go_wp2
   go_roundw
   case rel => exact ⟨j + 1, by omega, by go_num, H8.out.1, H8.out.2⟩
   case measure => simp [intOf]; omega
  ·
   obtain rfl : j = L := by omega
   have HR : Hid (Keeps (fun _ => False) w3 wr ∧ Mn wr (g + 1) g n (baseL x n j)) := ⟨hK, hMn⟩
   clear hK hMn
   go_wp2
   go_ret2
   have h4 := HE.out.1
   have hz := h4.one.keeps.size
   have hgz := H4.out.2.2
   refine ⟨h4.one.keeps.trans HR.out.1 fun _ _ h => h, .inr ⟨HG.out, g + 1, g, rfl, ⟨by omega, by omega⟩, ?_⟩⟩
   rw [← HE.out.2.2.1, ← HL.out]
   exact HR.out.2
end Go.Proofs.YtglhfijgnfignaaGreat
