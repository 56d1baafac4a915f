import Derived.Test.YtglhfijgnfignaaGreatTl
namespace Go.Proofs.YtglhfijgnfignaaGreat
open Go.RowKit Go.Shelf
open Mq
set_option linter.unusedVariables false
set_option maxRecDepth 6000
set_option linter.unusedSimpArgs false
attribute [local go_sem] Oper.semAt_some
set_option maxHeartbeats 1000000 in
theorem spaced_no (b root : Nat) (p : Nat) (a2 : Option Addr) (L c2 : Nat) (w : World) (hp : p < 256) (hl : L ≤ p * 16) :
  Calls Tryz.prog 11 #[.pointer (some ⟨b, 0, none⟩), .int .i64 root, .int .i64 p, .bool false, .slice a2 L c2] w fun e w' => e = .returned (.bool true) ∧ Keeps (fun _ => False) w w' := by
 have h1 : (p : Int) < 256 := by omega
 have h2 : (L : Int) ≤ (p : Int) * 16 := by omega
 clear hp hl
 go_enter Tryz.func11, Tryz.ntmps11
 go_wp2
 go_ret
 exact ⟨rfl, Keeps.refl _ _⟩
structure Spc (n : Nat) (xs ws : List UInt32) (root p f : Nat) : Prop where
 ad : ∀ i : Nat, p * 16 ≤ i → i < p * 16 + 16 → addrE n xs root i 0 = 0 ∧ addrV n xs root i 0 = 16 * f + i % 16
 wd : ∀ i : Nat, p * 16 ≤ i → i < p * 16 + 16 → xs[16 * f + i % 16]? = some (ws.getD i 0)
set_option maxHeartbeats 2000000 in
theorem spaced_yes (b g n : Nat) (xs : List UInt32) (root p f : Nat) (a2 : Option Addr) (ws : List UInt32) (c2 : Nat) (w : World) (hM : Mn w b g n xs) (hw : SegW w a2 ws) (hl : ws.length ≤ c2 ∧ c2 ≤ maxLen) (hp : p < 256) (hs : Spc n xs ws root p f) :
  Calls Tryz.prog 11 #[.pointer (some ⟨b, 0, none⟩), .int .i64 root, .int .i64 p, .bool true, .slice a2 ws.length c2] w fun e w' => e = .returned (.bool true) ∧ Keeps (fun _ => False) w w' := by
 obtain ⟨L, hL⟩ : ∃ L, L = ws.length := ⟨_, rfl⟩
 have hc2 : (L : Int) ≤ c2 := by omega
 have hc3 : (c2 : Int) ≤ 9223372036854775807 := by unfold maxLen at hl; omega
 have HS : Hid (Mn w b g n xs ∧ SegW w a2 ws ∧ Spc n xs ws root p f ∧ L = ws.length) := ⟨hM, hw, hs, hL⟩
 have hp' : (p : Int) < 256 := by omega
 rw [← hL]
 clear hM hw hl hp hs hL
 go_enter Tryz.func11, Tryz.ntmps11
 go_wp2
 go_loopw [11] (fun i wr => ∃ j : Nat, j ≤ 16 ∧ i = .int .i64 ((p : Int) * 16 + j) ∧ Keeps (fun _ => False) w wr) (fun i _ => 16 - ((intOf i).toNat - p * 16))
 case atStart => exact ⟨0, by omega, by simp, Keeps.refl _ _⟩
 case round =>
  obtain ⟨j, hj, rfl, hK⟩ := hrel
  by_cases hlt : j < 16
  ·
   obtain ⟨I, hI⟩ : ∃ I : Nat, I = p * 16 + j := ⟨_, rfl⟩
   have hIz : (p : Int) * 16 + (j : Int) = (I : Int) := by omega
   rw [hIz]
   have hI2 : (I : Int) < (p : Int) * 16 + 16 := by omega
   obtain ⟨s1, s2, s3, s4⟩ := HS.out
   have hA := s3.ad I (by omega) (by omega)
   have hW := s3.wd I (by omega) (by omega)
   have HA := address_any b g n xs root I 0 wr (s1.grown hK)
   rw [hA.1, hA.2] at HA
   obtain ⟨hlt2, hget⟩ := List.getElem?_eq_some_iff.1 hW
   have HRd := fun w' (k : Keeps (fun _ => False) wr w') => read_in b g xs (16 * f + I % 16) w' ((s1.grown hK).grown k).mm hlt2
   rw [hget] at HRd
   obtain ⟨V, hV⟩ : ∃ V, V = 16 * f + I % 16 := ⟨_, rfl⟩
   rw [← hV] at HA HRd
   obtain ⟨X, hX⟩ : ∃ X : Nat, X = (ws.getD I 0).toNat := ⟨_, rfl⟩
   rw [← hX] at HRd
   have HA : Hid (Calls _ _ _ wr _) := HA
   have HRd : Hid (∀ w', Keeps (fun _ => False) wr w' → Calls _ _ _ w' _) := HRd
   have hI4 : (I : Int) < 4096 := by omega
   have HI : Hid (Keeps (fun _ => False) w wr ∧ I = p * 16 + j) := ⟨hK, hI⟩
   have hse := s2.kept hK fun _ _ h => h
   by_cases hlw : I < L
   ·
    have hlw' : (I : Int) < L := by omega
    have hIw : I < ws.length := by omega
    obtain ⟨b2, o2, rfl, hcell⟩ : ∃ b2 o2, a2 = some ⟨b2, o2, none⟩ ∧ ∀ j, (h : j < ws.length) → wr.cell? ⟨b2, o2 + j, none⟩ = some (.int .u32 (ws[j].toNat : Int)) := by
     rcases hse with h | h
     ·
      rw [h] at hIw; simp at hIw
     ·
      exact h
    have hc := hcell I hIw
    have hgd : ws[I] = ws.getD I 0 := by simp [List.getD, hIw]
    rw [hgd, ← hX] at hc
    clear hse hcell hgd hX hV hget hlt2 hW hA s1 s2 s3 s4 hI hIz hK hIw hlw
    go_wp2_with fail
    refine HA.out.mono ?_
    rintro e w1 ⟨rfl, hk1⟩
    have HR2 : Hid (Calls _ _ _ w1 _) := HRd.out w1 hk1
    have HK1 : Hid (Keeps (fun _ => False) wr w1) := hk1
    clear hk1 HA HRd hc
    go_wp2_with fail
    refine HR2.out.mono ?_
    rintro e w2 ⟨rfl, hw2⟩
    obtain rfl := hw2.symm
    clear hw2 HR2
    go_wp2
    go_roundw
    case rel => exact ⟨j + 1, by omega, by have := HI.out.2; go_num, HI.out.1.trans HK1.out fun _ _ h => h⟩
    case measure => have := HI.out.2; simp [intOf]; omega
   ·
    have hlw' : ¬ (I : Int) < L := by omega
    have hX0 : X = 0 := by
     rw [hX]
     have : ws[I]? = none := List.getElem?_eq_none (by omega)
     simp [List.getD, this]
    subst hX0
    clear hse hX hV hget hlt2 hW hA s1 s2 s3 s4 hI hIz hK hlw
    go_wp2_with fail
    refine HA.out.mono ?_
    rintro e w1 ⟨rfl, hk1⟩
    have HR2 : Hid (Calls _ _ _ w1 _) := HRd.out w1 hk1
    have HK1 : Hid (Keeps (fun _ => False) wr w1) := hk1
    clear hk1 HA HRd
    go_wp2_with fail
    refine HR2.out.mono ?_
    rintro e w2 ⟨rfl, hw2⟩
    obtain rfl := hw2.symm
    clear hw2 HR2
    go_wp2
    go_roundw
    case rel => exact ⟨j + 1, by omega, by have := HI.out.2; go_num, HI.out.1.trans HK1.out fun _ _ h => h⟩
    case measure => have := HI.out.2; simp [intOf]; omega
  ·
   obtain rfl : j = 16 := by omega
   have HK : Hid (Keeps (fun _ => False) w wr) := hK
   clear hK
   go_wp2
   go_ret
   exact ⟨rfl, HK.out⟩
end Go.Proofs.YtglhfijgnfignaaGreat
namespace Go.Proofs.YtglhfijgnfignaaGreat
open Go.RowKit
open Mq
set_option linter.unusedVariables false
set_option linter.unusedSimpArgs false
theorem base_zero {x : Cfg} (g : Gd x) {n : Nat} (hn : (n : Int) = x.frames) {i : Nat} (hi : i < n * 16) (hf : ¬ (x.kernel ≤ (i / 16 : Nat) ∧ ((i / 16 : Nat) : Int) < x.kernel + x.room)) : ∀ k, k ≤ x.ps.length → (baseL x n k)[i]? = some 0
 | 0, _ => by
  show (List.replicate (n * 16) (0 : UInt32))[i]? = _
  rw [List.getElem?_replicate, if_pos hi]
 | k + 1, hk => by
  have ih := base_zero g hn hi hf k (by omega)
  obtain ⟨P, hP⟩ : ∃ P, x.ps[k]? = some P := ⟨_, List.getElem?_eq_getElem (by omega)⟩
  have e : baseL x n (k + 1) = stepB x k P (baseL x n k) := by show (match x.ps[k]? with | some P => _ | none => _) = _; rw [hP]
  have hfr := g.frame hP
  have hsb := g.svb (i := k) (by omega)
  have hsv := g.sv (i := k)
  have hrE := g.rtE
  have hmo := rt_mono x (show 0 ≤ x.ps.length by omega)
  have h0 := g.rt16 0
  have hk0 : 16 * x.kernel ≤ svA x k := by unfold svA; omega
  rw [e, stepB_else g hn hP (base_inv g hn k (by omega)).len (by omega) (by omega)]
  exact ih
theorem own_else {rs : List Rgn} {ws xs : List UInt32} {i : Nat} (h : pgOf rs (i / 16) = none) : (ownL rs ws xs)[i]? = xs[i]? := by
 rw [ownL_get]
 cases xs[i]? with
 | none => rfl
 | some y => simp [ownW, h]
theorem Gd.pg_none {x : Cfg} (g : Gd x) {i : Nat} {P : Par} (hP : x.ps[i]? = some P) {f : Nat} (hf : x.kernel ≤ f ∧ (f : Int) < x.kernel + x.room) : pgOf P.rs f = none := by
 cases h : pgOf P.rs f with
 | none => rfl
 | some p =>
  obtain ⟨r, hr, hrf, _⟩ := pgOf_some h
  exact absurd hf (g.far hP hr hrf)
def prg (ps : List (List UInt32)) (i : Nat) : List UInt32 := (ps[i]?).getD []
structure BootI (x : Cfg) (n : Nat) (ps : List (List UInt32)) (k : Nat) (xs : List UInt32) : Prop where
 len : xs.length = n * 16
 tbl : ∀ p P, x.ps[p]? = some P → Tbl (findL P.rs) (tbs x p P) (rtN x p) xs
 wd : ∀ p P, x.ps[p]? = some P → ∀ f q m : Nat, m < 16 → pgOf P.rs f = some q → xs[16 * f + m]? = some ((if p < k then prg ps p else []).getD (q * 16 + m) 0)
theorem boot_inv {x : Cfg} (g : Gd x) {n : Nat} (hn : (n : Int) = x.frames) (ps : List (List UInt32)) (hl : ps.length ≤ x.ps.length) : ∀ k, k ≤ ps.length → BootI x n ps k (bootL x n ps k)
 | 0, _ => by
  have hb := base_inv g hn x.ps.length (Nat.le_refl _)
  refine ⟨hb.len, fun p P hP => hb.tbl p P (List.getElem?_eq_some_iff.1 hP).1 hP, fun p P hP f q m hm hq => ?_⟩
  obtain ⟨r, hr, hrf, rfl⟩ := pgOf_some hq
  obtain ⟨a1, a2⟩ := hasF_iff.1 hrf
  have hfr := (g.gp p P hP).fr g r hr
  have e : (16 * f + m) / 16 = f := by omega
  rw [if_neg (by omega)]
  show (baseL x n x.ps.length)[16 * f + m]? = _
  rw [base_zero g hn (by omega) (by rw [e]; exact g.far hP hr hrf) _ (Nat.le_refl _)]
  simp
 | k + 1, hk => by
  have ih := boot_inv g hn ps hl k (by omega)
  obtain ⟨P, hP⟩ : ∃ P, x.ps[k]? = some P := ⟨_, List.getElem?_eq_getElem (by omega)⟩
  obtain ⟨w, hw⟩ : ∃ w, ps[k]? = some w := ⟨_, List.getElem?_eq_getElem (by omega)⟩
  rw [bootL_succ hP hw]
  refine ⟨by rw [ownL_length]; exact ih.len, fun p Q hQ => (ih.tbl p Q hQ).kept fun i hi => ?_, fun p Q hQ f q m hm hq => ?_⟩
  ·
   have h1 := g.mem hQ hi
   have h2 := g.frame hQ
   exact own_else (g.pg_none hP ⟨by omega, by omega⟩)
  ·
   have e1 : (16 * f + m) / 16 = f := by omega
   have e2 : (16 * f + m) % 16 = m := by omega
   by_cases e : p = k
   ·
    subst e
    rw [hP] at hQ
    obtain rfl := Option.some.inj hQ
    rw [ownL_get]
    have hlt : 16 * f + m < (bootL x n ps p).length := by
     obtain ⟨r, hr, hrf, _⟩ := pgOf_some hq
     obtain ⟨a1, a2⟩ := hasF_iff.1 hrf
     have hfr := (g.gp p P hP).fr g r hr
     rw [ih.len]
     omega
    rw [List.getElem?_eq_getElem hlt]
    simp only [Option.map_some, ownW, e1, hq, e2]
    rw [if_pos (by omega)]
    unfold prg
    rw [hw]
    rfl
   ·
    rw [own_else (by
     rw [e1]
     cases h : pgOf P.rs f with
     | none => rfl
     | some q' =>
      obtain ⟨r, hr, hrf, _⟩ := pgOf_some hq
      obtain ⟨r', hr', hrf', _⟩ := pgOf_some h
      exact (g.else hQ hP e hr hr' hrf hrf').elim), ih.wd p Q hQ f q m hm hq]
    by_cases h1 : p < k
    ·
     rw [if_pos h1, if_pos (by omega)]
    ·
     rw [if_neg h1, if_neg (by omega)]
theorem boot_page {x : Cfg} (g : Gd x) {n : Nat} (hn : (n : Int) = x.frames) {ps : List (List UInt32)} {xs : List UInt32} (h : BootI x n ps ps.length xs) {p : Nat} {P : Par} (hP : x.ps[p]? = some P) (a : Nat) (ha : a < 256) :
  walkE n xs (rtN x p) a = (if (findL P.rs a).isSome then 0 else 92) ∧ walkL n xs (rtN x p) a = leafO a (findL P.rs a) ∧ ∀ z, findL P.rs a = some z → Spc n xs (prg ps p) (rtN x p) a z.1 := by
 have hgp := g.gp p P hP
 have hfr := g.frames
 have hL := (g.lays hn hP (xs := xs) h.len).1
 have hin := find_in (hgp.may g) (hgp.outs g hn)
 have hw := tbl_walk hL (h.tbl p P hP) (by omega) hin a ha
 refine ⟨hw.1, ?_, fun z hz => ?_⟩
 ·
  rw [hw.2]; cases findL P.rs a <;> rfl
 ·
  have hz1 := hin a z hz
  have hE : walkE n xs (rtN x p) a = 0 := by rw [hw.1, hz]; rfl
  have hW : walkL n xs (rtN x p) a = ⟨a, z.1, z.2⟩ := by rw [hw.2, hz]
  have key : ∀ i : Nat, a * 16 ≤ i → i < a * 16 + 16 → addrE n xs (rtN x p) i 0 = 0 := fun i h1 h2 => by
   have hdiv : (i : Int) / 16 = (a : Int) := by omega
   have hr := hL.rl
   unfold addrE
   rw [if_neg (by omega), if_neg (by omega), if_neg (by omega), hdiv, hE, if_neg (by simp)]
   have : subR (0 : Int).toNat (walkL n xs (rtN x p) a).rights = true := by unfold subR; simp
   rw [this]; rfl
  refine ⟨fun i h1 h2 => ⟨key i h1 h2, ?_⟩, fun i h1 h2 => ?_⟩
  ·
   unfold addrV
   have hdiv : (i : Int) / 16 = (a : Int) := by omega
   rw [if_pos (key i h1 h2), hdiv, hW, Int.toNat_natCast]
  ·
   have hp := pg_find (hgp.ok g) hgp.fu hz
   rw [h.wd p P hP z.1 a (i % 16) (by omega) hp, show a * 16 + i % 16 = i by omega]
   have hpr : (if p < ps.length then prg ps p else []) = prg ps p := by
    by_cases e : p < ps.length
    ·
     rw [if_pos e]
    ·
     rw [if_neg e]
     unfold prg
     rw [List.getElem?_eq_none (by omega)]
     rfl
   rw [hpr]
theorem boot_gap {x : Cfg} {ps : List (List UInt32)} (hA : AllLie x ps ps.length) {p : Nat} {P : Par} (hP : x.ps[p]? = some P) {a : Nat} (h : findL P.rs a = none) : (prg ps p).length ≤ a * 16 := by
 by_cases e : p < ps.length
 ·
  obtain ⟨w, hw⟩ : ∃ w, ps[p]? = some w := ⟨_, List.getElem?_eq_getElem e⟩
  have hl := hA p P w e hP hw
  have hpr : prg ps p = w := by unfold prg; rw [hw]; rfl
  rw [hpr]
  by_cases hlt : w.length ≤ a * 16
  ·
   exact hlt
  ·
   have := hl.2 (a * 16) (by omega)
   rw [show a * 16 / 16 = a by omega, h] at this
   cases this
 ·
  unfold prg
  rw [List.getElem?_eq_none (by omega)]
  exact Nat.zero_le _
theorem boot_len {x : Cfg} {ps : List (List UInt32)} (hA : AllLie x ps ps.length) {p : Nat} {P : Par} (hP : x.ps[p]? = some P) : (prg ps p).length ≤ 1024 := by
 by_cases e : p < ps.length
 ·
  obtain ⟨w, hw⟩ : ∃ w, ps[p]? = some w := ⟨_, List.getElem?_eq_getElem e⟩
  have hl := hA p P w e hP hw
  have hpr : prg ps p = w := by unfold prg; rw [hw]; rfl
  rw [hpr]; exact hl.1
 ·
  unfold prg
  rw [List.getElem?_eq_none (by omega)]
  exact Nat.zero_le _
end Go.Proofs.YtglhfijgnfignaaGreat
