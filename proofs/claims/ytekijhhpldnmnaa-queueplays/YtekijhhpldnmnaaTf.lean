import Derived.Test.YtekijhhpldnmnaaTe
namespace Go.Proofs.Ytekijhhpldnmnaa
open Go.RowKit
set_option linter.unusedVariables false
set_option linter.unusedSimpArgs false

theorem win_win {xs : List UInt32} {p m q k : Nat} (h : q + k ≤ m) : win (win xs p m) q k = win xs (p + q) k := by
  apply List.ext_getElem?
  intro i
  rw [win_get? (win xs p m) q k i, win_get? xs (p + q) k i]
  by_cases hi : i < k
  · rw [if_pos hi, if_pos hi, win_get?, if_pos (by omega), Nat.add_assoc]
  · rw [if_neg hi, if_neg hi]
theorem lkE_out {xs : List UInt32} {p n d : Int} {h : Nat} (hf : fitE false n d = 0) (ho : ¬ (0 ≤ p ∧ p + (rsz h n d : Int) ≤ xs.length)) : lkE false xs p h n d = 51 := by
  have ht : tkE false xs.length p h n d = 51 := by
    unfold tkE
    rw [if_neg (fun e => e hf), if_neg ho]
  unfold lkE
  rw [ht, if_pos (by decide)]
theorem lkE_in {xs : List UInt32} {p n d : Nat} {h : Nat} (hf : fitE false n d = 0) (ho : p + rsz h n d ≤ xs.length) : lkE false xs p h n d = if rightB h n d (win xs p (rsz h n d)) = true then 0 else 201 := by
  have ht : tkE false xs.length p h n d = 0 := by
    unfold tkE
    rw [if_neg (fun e => e hf), if_pos ⟨by omega, by omega⟩]
  unfold lkE
  rw [ht, if_neg (fun e => e rfl)]
  rfl
theorem rowB_congr {d mm : Nat} {P Q : Nat → List UInt32} (h : ∀ i, i < d → P i = Q i) : rowB d mm P = rowB d mm Q := by
  unfold rowB
  rw [Bool.eq_iff_iff, List.all_eq_true, List.all_eq_true]
  constructor
  · intro a i hi; have := a i hi; rw [h i (by simpa using hi)] at this; exact this
  · intro a i hi; have := a i hi; rw [← h i (by simpa using hi)] at this; exact this
section
variable {xs : List UInt32} {p h n d : Nat}
theorem plc_at (ho : p + rsz h n d ≤ xs.length) (hF : fstW h (win xs p (rsz h n d)) < d) {i : Nat} (hi : i < d) : plc h n d (win xs p (rsz h n d)) i = win xs (p + h + pos d (fstW h (win xs p (rsz h n d))) i * (1 + n)) (1 + n) := by
  unfold plc
  have hp := pos_lt hF hi
  have e1 := Nat.mul_le_mul hp (Nat.le_refl (1 + n))
  rw [Nat.succ_mul] at e1
  have hr := rsz_nat h n d
  rw [win_win (xs := xs) (p := p) (m := rsz h n d) (q := h + pos d (fstW h (win xs p (rsz h n d))) i * (1 + n)) (k := 1 + n) (by omega), Nat.add_assoc]
theorem right_row (ho : p + rsz h n d ≤ xs.length) {F C : Nat} (eF : fstW h (win xs p (rsz h n d)) = F) (eC : cntW h (win xs p (rsz h n d)) = C) (hF : F < d) (hC : C ≤ d) (hz : C = 0 → F = 0) :
    rightB h n d (win xs p (rsz h n d)) = rowB d C (fun i => win xs (p + h + pos d F i * (1 + n)) (1 + n)) ∧ (rd h n d (win xs p (rsz h n d))).ms = (List.range C).map (fun i => msgO (win xs (p + h + pos d F i * (1 + n)) (1 + n))) := by
  have hp : ∀ i, i < d → plc h n d (win xs p (rsz h n d)) i = win xs (p + h + pos d F i * (1 + n)) (1 + n) := fun i hi => by rw [plc_at ho (by omega) hi, eF]
  constructor
  · rw [← rowB_congr hp]
    unfold rightB
    rw [eF, eC, decide_eq_true hF, decide_eq_true hC, Bool.true_and, Bool.true_and]
    have : (!(decide (C = 0) && !decide (F = 0))) = true := by
      by_cases h0 : C = 0
      · rw [decide_eq_true (hz h0)]; simp
      · rw [decide_eq_false h0]; rfl
    rw [this, Bool.true_and]
    rfl
  · unfold rd
    rw [eC]
    show List.map _ _ = _
    refine List.map_congr_left fun i hi => ?_
    rw [hp i (by have := List.mem_range.1 hi; omega)]
theorem right_no {F C : Nat} (eF : fstW h (win xs p (rsz h n d)) = F) (eC : cntW h (win xs p (rsz h n d)) = C) (hb : ¬ F < d ∨ ¬ C ≤ d ∨ (C = 0 ∧ ¬ F = 0)) : rightB h n d (win xs p (rsz h n d)) = false := by
  unfold rightB
  rw [eF, eC]
  rcases hb with hb | hb | ⟨hb, hb2⟩
  · rw [decide_eq_false hb]; rfl
  · rw [decide_eq_false hb]; simp
  · rw [decide_eq_true hb, decide_eq_false hb2]; simp
end

theorem ret92 {w wr : World} {O lo : Nat} {l : List Value} {v : Value} {ms : List (List UInt32)} (hk : Keeps (fun _ => False) w wr) (hO : Blk wr O l 92) (hl : l.length = 3) (hlo : w.heap.size ≤ O) (hm : MsR lo wr v ms) (v0 v1 v2 : Value) :
    ∃ W, W = ((wr.setCell ⟨O, 0, none⟩ v0).setCell ⟨O, 1, none⟩ v1).setCell ⟨O, 2, none⟩ v2 ∧ Blk W O [v0, v1, v2] 92 ∧ Keeps (fun _ => False) w W ∧ MsR lo W v ms := by
  obtain ⟨W, hW, hB, hk2⟩ := row_set3 hO hl v0 v1 v2
  refine ⟨W, hW, hB, hk.trans hk2 fun b hb e => by omega, ?_⟩
  obtain ⟨vals, q1, q2, q3, q4⟩ := hm
  refine ⟨vals, q1.kept hk2 fun b hb e => ?_, q2, q3, fun i m hi => ?_⟩
  · obtain ⟨l, hl⟩ := q1.blk hb
    exact hl.ne hO (by decide) e
  · obtain ⟨C, s1, s2, s3⟩ := q4 i m hi
    exact ⟨C, s1, s2, s3.kept hk2 fun e => s3.ne hO (by decide) e⟩

theorem MsR.kept92 {w wr : World} {O lo : Nat} {l : List Value} {v : Value} {ms : List (List UInt32)} (hm : MsR lo w v ms) (hO : Blk w O l 92) (hk2 : Keeps (· = O) w wr) : MsR lo wr v ms := by
  obtain ⟨vals, q1, q2, q3, q4⟩ := hm
  refine ⟨vals, q1.kept hk2 fun b hb e => ?_, q2, q3, fun i m hi => ?_⟩
  · obtain ⟨l, hl⟩ := q1.blk hb
    exact hl.ne hO (by decide) e
  · obtain ⟨C, s1, s2, s3⟩ := q4 i m hi
    exact ⟨C, s1, s2, s3.kept hk2 fun e => s3.ne hO (by decide) e⟩
/-- What a read stage or port answers. -/
def RdP (w : World) (E : Int) (r : Rw) (e : Ending) (w' : World) : Prop :=
  (E = 0 ∧ ∃ v, e = .returned (.tuple #[rv3 r.f v r.lost.toNat, .int .i64 0]) ∧ MsR w.heap.size w' v r.ms ∧ Keeps (fun _ => False) w w') ∨
  (E ≠ 0 ∧ e = .returned (.tuple #[.agg #[.int .i64 0, .slice none 0 0, .int .u32 0], .int .i64 E]) ∧ Keeps (fun _ => False) w w')

theorem z3_facts {w : World} {O : Nat} (h : Blk w O zc3.toList 92) : (w.cell? ⟨O, 0, none⟩ = some (.int .i64 0) ∧ w.cell? ⟨O, 1, none⟩ = some (.slice none 0 0) ∧ w.cell? ⟨O, 2, none⟩ = some (.int .u32 0)) ∧ w.frozen? ⟨O, 0, none⟩ = false ∧ w.frozen? ⟨O, 1, none⟩ = false ∧ w.frozen? ⟨O, 2, none⟩ = false :=
  ⟨⟨h.cell rfl, h.cell rfl, h.cell rfl⟩, h.frozen 0, h.frozen 1, h.frozen 2⟩

set_option maxRecDepth 20000 in
set_option maxHeartbeats 2000000 in
theorem stage_out (a : Option Addr) (M c n d : Nat) (p : Int) (w : World) (hm : M ≤ 256) (hn : n ≤ 16) (hd : d ≤ 8) (ho : ¬ (0 ≤ p ∧ p + (rsz 1 n d : Int) ≤ M)) :
    Calls Try.prog 54 #[.slice a M c, .int .i64 p, .int .i64 n, .int .i64 d] w fun e w' => e = .returned (.tuple #[.agg #[.int .i64 0, .slice none 0 0, .int .u32 0], .int .i64 51]) ∧ Keeps (fun _ => False) w w' := by
  obtain ⟨W1, hW1, hK1, hB1, hs1⟩ := zrow3 w
  have hb := Nat.mul_le_mul hd (show 1 + n ≤ 17 by omega)
  have HS : Hid (Calls _ _ _ _ _) := stageWords_any n d W1 hn hd
  have hfit := rfits_any a M c p (rsz 1 n d : Nat) W1 hm ⟨by omega, by rw [rsz_nat]; omega⟩
  rw [decide_eq_false ho] at hfit
  have HF : Hid (Calls _ _ _ _ _) := hfit
  obtain ⟨R, hR⟩ : ∃ R : Int, R = (rsz 1 n d : Nat) := ⟨_, rfl⟩
  rw [← hR] at HS HF
  have HW : Hid (W1 = w.alloc (.cells zc3 92) ∧ Keeps (fun _ => False) w W1 ∧ Blk W1 w.heap.size zc3.toList 92) := ⟨hW1, hK1, hB1⟩
  obtain ⟨O, hO⟩ : ∃ O, O = w.heap.size := ⟨_, rfl⟩
  rw [← hO] at hB1
  have HO : Hid (O = w.heap.size ∧ Blk W1 O zc3.toList 92) := ⟨hO, hB1⟩
  obtain ⟨⟨c0, c1, c2⟩, f0, f1, f2⟩ := z3_facts hB1
  clear hW1 hK1 hB1 hs1 hb hfit hR hO hm hn hd ho
  go_enter Try.func54, Try.ntmps54
  go_wp2_with fail
  rw [← HW.out.1, ← HO.out.1]
  refine HS.out.mono ?_
  rintro e w1 ⟨rfl, rfl⟩
  go_wp2_with fail
  refine HF.out.mono ?_
  rintro e w1 ⟨rfl, rfl⟩
  go_wp2
  obtain ⟨W6, hW6, hB6, hk6, _⟩ := ret92 HW.out.2.1 HO.out.2 rfl (by rw [HO.out.1]; exact Nat.le_refl _) (MsR.nil 0 _) (.int .i64 0) (.slice none 0 0) (.int .u32 0)
  rw [← hW6]
  have d0 := hB6.cell (i := 0) rfl
  have d1 := hB6.cell (i := 1) rfl
  have d2 := hB6.cell (i := 2) rfl
  refine bodyPost_ret (by simp [results, Try.results54, go_sem, d0, d1, d2]; try rfl) rfl ?_
  exact ⟨rfl, hk6⟩

end Go.Proofs.Ytekijhhpldnmnaa
