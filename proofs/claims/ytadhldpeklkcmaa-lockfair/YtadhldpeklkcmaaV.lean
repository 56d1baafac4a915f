import Derived.Test.YtadhldpeklkcmaaU
namespace Go.Proofs.Ytadhldpeklkcmaa
open Go.RowKit
set_option linter.unusedVariables false

def upd (f : Nat → Nat) (r v : Nat) (x : Nat) : Nat := if x = r then v else f x
theorem upd_eq (f : Nat → Nat) (r v : Nat) : upd f r v r = v := if_pos rfl
theorem upd_ne (f : Nat → Nat) (r v x : Nat) (h : x ≠ r) : upd f r v x = f x := if_neg h

/-! ### The locks' words -/

def qOf (A G : Nat → Nat) : List Int := [(A 0 : Int), (G 0 : Int), (A 1 : Int), (G 1 : Int), (A 2 : Int), (G 2 : Int), (A 3 : Int), (G 3 : Int), (A 4 : Int), (G 4 : Int)]
theorem cases5 {r : Nat} (h : r < 5) : r = 0 ∨ r = 1 ∨ r = 2 ∨ r = 3 ∨ r = 4 := by omega
theorem qOf_A (A G : Nat → Nat) {r : Nat} (h : r < 5) : (qOf A G).getD (r * 2) 0 = (A r : Int) := by
  rcases cases5 h with rfl | rfl | rfl | rfl | rfl <;> rfl
theorem qOf_G (A G : Nat → Nat) {r : Nat} (h : r < 5) : (qOf A G).getD (r * 2 + 1) 0 = (G r : Int) := by
  rcases cases5 h with rfl | rfl | rfl | rfl | rfl <;> rfl
theorem qOf_setA (A G : Nat → Nat) {r : Nat} (h : r < 5) : (qOf A G).set (r * 2) ((A r : Int) + 1) = qOf (upd A r (A r + 1)) G := by
  rcases cases5 h with rfl | rfl | rfl | rfl | rfl <;> simp [qOf, upd]
theorem qOf_setG (A G : Nat → Nat) {r : Nat} (h : r < 5) : (qOf A G).set (r * 2 + 1) ((G r : Int) + 1) = qOf A (upd G r (G r + 1)) := by
  rcases cases5 h with rfl | rfl | rfl | rfl | rfl <;> simp [qOf, upd]

theorem lay_set (xs : List UInt32) (p : Nat) (v : UInt32) (h : p < xs.length) : lay xs p [v] = xs.set p v := by
  unfold lay
  rw [List.set_eq_take_append_cons_drop, if_pos h]; simp
theorem getD_set (xs : List UInt32) (p q : Nat) (v : UInt32) (h : p < xs.length) : (xs.set p v).getD q 0 = if q = p then v else xs.getD q 0 := by
  simp only [List.getD, List.getElem?_set]
  by_cases e : p = q
  · subst e; simp [h]
  · rw [if_neg e, if_neg (fun e2 => e e2.symm)]

structure WR (xs : List UInt32) (A G : Nat → Nat) : Prop where
  len : xs.length = 16
  w : ∀ r, r < 5 → xs.getD (2 * r) 0 = UInt32.ofNat (A r) ∧ xs.getD (2 * r + 1) 0 = UInt32.ofNat (G r)

theorem WR.take {xs : List UInt32} {A G : Nat → Nat} (h : WR xs A G) {r : Nat} (hr : r < 5) : WR (lay xs (2 * r) [UInt32.ofNat (A r + 1)]) (upd A r (A r + 1)) G := by
  rw [lay_set _ _ _ (by rw [h.len]; omega)]
  refine ⟨by rw [List.length_set]; exact h.len, fun s hs => ?_⟩
  rw [getD_set _ _ _ _ (by rw [h.len]; omega), getD_set _ _ _ _ (by rw [h.len]; omega)]
  rw [if_neg (show ¬ 2 * s + 1 = 2 * r by omega)]
  by_cases e : s = r
  · subst e; rw [if_pos rfl, upd_eq]; exact ⟨rfl, (h.w s hs).2⟩
  · rw [if_neg (by omega), upd_ne _ _ _ _ e]; exact h.w s hs
theorem WR.free {xs : List UInt32} {A G : Nat → Nat} (h : WR xs A G) {r : Nat} (hr : r < 5) : WR (lay xs (2 * r + 1) [UInt32.ofNat (G r + 1)]) A (upd G r (G r + 1)) := by
  rw [lay_set _ _ _ (by rw [h.len]; omega)]
  refine ⟨by rw [List.length_set]; exact h.len, fun s hs => ?_⟩
  rw [getD_set _ _ _ _ (by rw [h.len]; omega), getD_set _ _ _ _ (by rw [h.len]; omega)]
  rw [if_neg (show ¬ 2 * s = 2 * r + 1 by omega)]
  by_cases e : s = r
  · subst e; rw [if_pos rfl, upd_eq]; exact ⟨(h.w s hs).1, rfl⟩
  · rw [if_neg (by omega), upd_ne _ _ _ _ e]; exact h.w s hs

theorem WR.ok {xs : List UInt32} {A G : Nat → Nat} (h : WR xs A G) {r : Nat} (hr : r < 5) : LkOk xs (2 * (r : Int)) := by
  unfold LkOk; rw [h.len]; omega
theorem WR.nx {xs : List UInt32} {A G : Nat → Nat} (h : WR xs A G) {r : Nat} (hr : r < 5) : nx xs (2 * (r : Int)) = UInt32.ofNat (A r) := by
  unfold Proofs.Ytadhldpeklkcmaa.nx
  rw [show (2 * (r : Int)).toNat = 2 * r by omega]
  exact (h.w r hr).1
theorem WR.tu {xs : List UInt32} {A G : Nat → Nat} (h : WR xs A G) {r : Nat} (hr : r < 5) : tu xs (2 * (r : Int)) = UInt32.ofNat (G r) := by
  unfold Proofs.Ytadhldpeklkcmaa.tu
  rw [show (2 * (r : Int)).toNat = 2 * r by omega]
  exact (h.w r hr).2

theorem ofNat_toNat (n : Nat) : (UInt32.ofNat n).toNat = n % 4294967296 := by simp
theorem ofNat_sub_toNat {a g : Nat} (h1 : g ≤ a) (h2 : a ≤ g + 6) : (UInt32.ofNat a - UInt32.ofNat g).toNat = a - g := by
  rw [UInt32.toNat_sub, ofNat_toNat, ofNat_toNat]; omega
theorem ofNat_succ (n : Nat) : UInt32.ofNat n + 1 = UInt32.ofNat (n + 1) := by
  apply UInt32.toNat_inj.1
  rw [UInt32.toNat_add, ofNat_toNat, ofNat_toNat]; simp
theorem ofNat_near {a b : Nat} (h1 : a ≤ b) (h2 : b ≤ a + 6) (h : UInt32.ofNat a = UInt32.ofNat b) : a = b := by
  have h3 := congrArg UInt32.toNat h
  rw [ofNat_toNat, ofNat_toNat] at h3
  omega

theorem plW_len (l : List Nat) : (plW l).length = l.length := by simp [plW]
theorem plW_get (l : List Nat) {i : Nat} (h : i < l.length) : (plW l).getD i 0 = UInt32.ofNat (l.getD i 0) := by
  simp [plW, List.getD, List.getElem?_eq_getElem h]

/-! ### What a step does -/

section
variable {C : Ck} {w : World} {xs : List UInt32} {A G : Nat → Nat}

theorem step_full (hok : C.Ok w) (ha : C.ask = false) (hl : C.pl.length = C.lk.length) : stepP C.X.lk C.X.tk C.X.st xs = ⟨C.X.tk, C.X.st, xs, false, 0⟩ := by
  have hs : C.X.st = 0 := by rw [hok.st]; unfold Ck.stN; rw [ha, if_neg (by simp), if_pos hl]
  unfold stepP; rw [hs]; simp
theorem step_ask (hok : C.Ok w) (hw : WR xs A G) (ha : C.ask = false) (hl : C.pl.length < C.lk.length) {r : Nat} (hr : C.lk.getD C.pl.length 0 = r) (hr5 : r < 5) (h1 : G r ≤ A r) (h2 : A r ≤ G r + 6) :
    stepP C.X.lk C.X.tk C.X.st xs = ⟨plW (C.pl ++ [A r]), 2, lay xs (2 * r) [UInt32.ofNat (A r + 1)], true, 0⟩ := by
  have hs : C.X.st = 1 := by rw [hok.st]; unfold Ck.stN; rw [ha, if_neg (by simp), if_neg (by omega)]
  have hp : C.X.lk.getD C.X.tk.length 0 = 2 * (r : Int) := by rw [hok.lk, hok.tk, plW_len, lkI_get _ hl, hr]
  have hne : ¬ (nx xs (2 * (r : Int)) - tu xs (2 * (r : Int)) = 0xffffffff) := by
    rw [hw.nx hr5, hw.tu hr5]
    intro e
    have h3 := congrArg UInt32.toNat e
    rw [ofNat_sub_toNat h1 h2] at h3
    have h4 : (0xffffffff : UInt32).toNat = 4294967295 := rfl
    omega
  have he : tkE xs (2 * (r : Int)) = 0 := by unfold tkE; rw [if_pos (hw.ok hr5), if_neg hne]
  have ht : tkT xs (2 * (r : Int)) = UInt32.ofNat (A r) := by unfold tkT; rw [if_pos (hw.ok hr5), if_neg hne, hw.nx hr5]
  have hx : tkX xs (2 * (r : Int)) = lay xs (2 * r) [UInt32.ofNat (A r + 1)] := by
    unfold tkX; rw [if_pos (hw.ok hr5), if_neg hne, hw.nx hr5, ofNat_succ, show (2 * (r : Int)).toNat = 2 * r by omega]
  unfold stepP
  rw [if_pos hs]
  unfold askP
  rw [hp, if_pos he, ht, hx, hok.tk]
  simp [plW]
theorem step_look (hok : C.Ok w) (hw : WR xs A G) (ha : C.ask = true) {r t : Nat} (hr : C.lk.getD (C.pl.length - 1) 0 = r) (ht : C.pl.getD (C.pl.length - 1) 0 = t) (hr5 : r < 5) :
    stepP C.X.lk C.X.tk C.X.st xs = if UInt32.ofNat (G r) = UInt32.ofNat t then ⟨C.X.tk, settledN C.X.lk C.X.tk, xs, true, 0⟩ else ⟨C.X.tk, C.X.st, xs, false, 0⟩ := by
  have hpos := hok.pos ha
  have hlen := hok.len
  have hs : C.X.st = 2 := by rw [hok.st]; unfold Ck.stN; rw [ha, if_pos rfl]
  have hp : C.X.lk.getD (C.X.tk.length - 1) 0 = 2 * (r : Int) := by rw [hok.lk, hok.tk, plW_len, lkI_get _ (by omega), hr]
  have hq : C.X.tk.getD (C.X.tk.length - 1) 0 = UInt32.ofNat t := by rw [hok.tk, plW_len, plW_get _ (by omega), ht]
  have ho : okE xs (2 * (r : Int)) = 0 := by unfold okE; rw [if_pos (hw.ok hr5)]
  have hm : mnB xs (2 * (r : Int)) (UInt32.ofNat t) = (UInt32.ofNat (G r) == UInt32.ofNat t) := by unfold mnB; rw [if_pos (hw.ok hr5), hw.tu hr5]
  unfold stepP
  rw [if_neg (by omega), if_pos hs]
  unfold lookP
  rw [hp, hq, hm, ho]
  by_cases e : UInt32.ofNat (G r) = UInt32.ofNat t
  · rw [if_pos e, if_pos (by rw [e]; simp)]
  · rw [if_neg e, if_neg (by simpa using e)]
theorem back_asked (hok : C.Ok w) (ha : C.ask = true) : backP C.X.lk C.X.tk C.X.st xs = ⟨C.X.tk, C.X.st, xs, false, 170⟩ := by
  have hs : C.X.st = 2 := by rw [hok.st]; unfold Ck.stN; rw [ha, if_pos rfl]
  unfold backP; rw [if_pos hs]
theorem st_ne2 (hok : C.Ok w) (ha : C.ask = false) : ¬ C.X.st = 2 := by
  rw [hok.st]; unfold Ck.stN; rw [ha, if_neg (by simp)]; split <;> omega
theorem back_none (hok : C.Ok w) (ha : C.ask = false) (hl : C.pl.length = 0) : backP C.X.lk C.X.tk C.X.st xs = ⟨C.X.tk, C.X.st, xs, true, 0⟩ := by
  unfold backP; rw [if_neg (st_ne2 hok ha), if_pos (by rw [hok.tk, plW_len]; exact hl)]
theorem back_free (hok : C.Ok w) (hw : WR xs A G) (ha : C.ask = false) {m r : Nat} (hl : C.pl.length = m + 1) (hr : C.lk.getD m 0 = r) (ht : C.pl.getD m 0 = G r) (hr5 : r < 5) (h1 : G r < A r) (h2 : A r ≤ G r + 6) :
    backP C.X.lk C.X.tk C.X.st xs = ⟨plW (C.pl.take m), 1, lay xs (2 * r + 1) [UInt32.ofNat (G r + 1)], m == 0, 0⟩ := by
  have hlen := hok.len
  have htl : C.X.tk.length = m + 1 := by rw [hok.tk, plW_len, hl]
  have hp : C.X.lk.getD m 0 = 2 * (r : Int) := by rw [hok.lk, lkI_get _ (by omega), hr]
  have hq : C.X.tk.getD m 0 = UInt32.ofNat (G r) := by rw [hok.tk, plW_get _ (by omega), ht]
  have hne : ¬ (nx xs (2 * (r : Int)) - tu xs (2 * (r : Int)) = 0 ∨ tu xs (2 * (r : Int)) ≠ UInt32.ofNat (G r)) := by
    rw [hw.nx hr5, hw.tu hr5]
    rintro (e | e)
    · have h3 := congrArg UInt32.toNat e
      rw [ofNat_sub_toNat (by omega) h2] at h3
      have h4 : (0 : UInt32).toNat = 0 := rfl
      omega
    · exact e rfl
  have he : frE xs (2 * (r : Int)) (UInt32.ofNat (G r)) = 0 := by unfold frE; rw [if_pos (hw.ok hr5), if_neg hne]
  have hx : frX xs (2 * (r : Int)) (UInt32.ofNat (G r)) = lay xs (2 * r + 1) [UInt32.ofNat (G r + 1)] := by
    unfold frX; rw [if_pos (hw.ok hr5), if_neg hne, hw.tu hr5, ofNat_succ, show (2 * (r : Int)).toNat = 2 * r by omega]
  unfold backP
  rw [if_neg (st_ne2 hok ha), if_neg (by omega), htl, Nat.add_sub_cancel, hp, hq, if_pos he, hx, hok.tk]
  simp [plW, List.map_take]
end

end Go.Proofs.Ytadhldpeklkcmaa
