import Derived.Test.YtekijhhpldnmnaaG
namespace Go.Proofs.Ytekijhhpldnmnaa
open Go.RowKit
set_option linter.unusedVariables false
set_option linter.unusedSimpArgs false

theorem segW_win {w : World} {g : Nat} {l : List UInt32} {t : TypeId} (h : Blk w g (wvs l) t) (q m : Nat) (hf : q + m ≤ l.length) : SegW w (some ⟨g, q, none⟩) (win l q m) := segW_part h q m hf
theorem segW_drop {w : World} {g o : Nat} {l : List UInt32} (h : SegW w (some ⟨g, o, none⟩) l) (k : Nat) : SegW w (some ⟨g, o + k, none⟩) (l.drop k) := by
  by_cases hk : k < l.length
  · refine .inr ⟨g, o + k, rfl, fun j hj => ?_⟩
    rw [List.length_drop] at hj
    rw [Nat.add_assoc, h.wd (j := k + j) (by omega), wd_get (by omega)]
    simp
  · exact .inl (List.drop_eq_nil_of_le (by omega))

section
variable (g o c L : Nat) (pl : List UInt32) (w : World)

set_option maxRecDepth 20000 in
set_option maxHeartbeats 1000000 in
theorem rightPlace_any (fl : Bool) (hs : SegW w (some ⟨g, o, none⟩) pl) (hL : L = pl.length) (h1 : 2 ≤ L) (h2 : L ≤ c) (h3 : c ≤ 139) :
    Calls Try.prog 70 #[.slice (some ⟨g, o, none⟩) L c, .bool fl] w fun e w' => e = .returned (.bool (rpB pl fl)) ∧ w' = w := by
  have c0 := hs.wd (j := 0) (by omega)
  rw [Nat.add_zero] at c0
  have hv2 := (wd pl 0).toNat_lt
  obtain ⟨v, hv⟩ : ∃ v : Nat, v = (wd pl 0).toNat := ⟨_, rfl⟩
  have hl : (L : Int) ≤ 139 := by omega
  have hl0 : 0 < (L : Int) := by omega
  cases fl with
  | false =>
    have HE := empty_any (some ⟨g, o, none⟩) c pl w hs (by omega)
    rw [← hL] at HE
    have HR : Hid (rpB pl false = zeroB pl) := by show _ = _; rfl
    rw [HR.out]
    have HE : Hid (Calls _ _ _ _ _) := HE
    clear c0 hv2 hv hs hL h1 h2 h3
    go_enter Try.func70, Try.ntmps70
    go_wp2_with fail
    refine HE.out.mono ?_
    rintro e w1 ⟨rfl, hw⟩
    obtain rfl := hw.symm
    clear hw HE
    go_wp2
    go_ret
    exact ⟨rfl, rfl⟩
  | true =>
    have hR : rpB pl true = (decide (1 ≤ v) && (decide (v < L) && zeroB (pl.drop (1 + v)))) := by rw [hv, hL]; rfl
    rw [hR]
    rw [← hv] at c0 hv2
    have y1 : (L : Int) % 4294967296 = (L : Int) := by omega
    by_cases q1 : 1 ≤ v
    · by_cases q2 : v < L
      · have HE : Calls Try.prog 73 #[.slice (some ⟨g, if 1 + v < c then o + (1 + v) else o, none⟩) (L - (1 + v)) (c - (1 + v))] w fun e w' => e = .returned (.bool (zeroB (pl.drop (1 + v)))) ∧ w' = w := by
          have hlen : (pl.drop (1 + v)).length = L - (1 + v) := by rw [List.length_drop, hL]
          rw [← hlen]
          refine empty_any _ _ _ w ?_ (by omega)
          by_cases q3 : 1 + v < c
          · rw [if_pos q3]; exact segW_drop hs (1 + v)
          · exact .inl (List.drop_eq_nil_of_le (by omega))
        rw [decide_eq_true q1, decide_eq_true q2, Bool.true_and, Bool.true_and]
        have z1 : 1 ≤ (v : Int) := by omega
        have z2 : (v : Int) < (L : Int) := by omega
        have z3 : (L : Int) ≤ (c : Int) := by omega
        have z4 : (c : Int) ≤ 139 := by omega
        have z5 : (v : Int) + 1 ≤ (L : Int) := by omega
        by_cases q3 : 1 + v < c
        · rw [if_pos q3] at HE
          have z6 : ¬ c = 1 + v := by omega
          have HE : Hid (Calls _ _ _ _ _) := HE
          clear hv2 hv hs hL h1 h2 h3 hR q1 q2 q3
          go_enter Try.func70, Try.ntmps70
          go_wp2_with fail
          refine HE.out.mono ?_
          rintro e w1 ⟨rfl, hw⟩
          obtain rfl := hw.symm
          clear hw HE
          go_wp2
          go_ret
          exact ⟨rfl, rfl⟩
        · rw [if_neg q3] at HE
          have z6 : c = 1 + v := by omega
          have z7 : L = 1 + v := by omega
          have e0 : L - (1 + v) = 0 := by omega
          have e1 : c - (1 + v) = 0 := by omega
          rw [e0, e1] at HE
          have HE : Hid (Calls _ _ _ _ _) := HE
          clear hv2 hv hs hL h1 h2 h3 hR q1 q2 q3 e0 e1
          go_enter Try.func70, Try.ntmps70
          go_wp2_with fail
          refine HE.out.mono ?_
          rintro e w1 ⟨rfl, hw⟩
          obtain rfl := hw.symm
          clear hw HE
          go_wp2
          go_ret
          exact ⟨rfl, rfl⟩
      · rw [decide_eq_true q1, decide_eq_false q2, Bool.false_and, Bool.true_and]
        have z1 : 1 ≤ (v : Int) := by omega
        have z2 : ¬ (v : Int) < (L : Int) := by omega
        clear hv2 hv hs hL h1 h2 h3 hR q1 q2
        go_enter Try.func70, Try.ntmps70
        go_wp2
        go_ret
        exact ⟨rfl, rfl⟩
    · rw [decide_eq_false q1, Bool.false_and]
      obtain rfl : v = 0 := by omega
      clear hv2 hv hs hL h1 h2 h3 hR q1
      go_enter Try.func70, Try.ntmps70
      go_wp2
      go_ret
      exact ⟨rfl, rfl⟩
end

theorem run_make_u32 {w : World} (n : Nat) (hn : n ≤ 70368744177664) :
    (Instr.makeSlice 22 (.int .u32 n) (.int .u32 n)).run Try.prog w = .ok (.slice (some ⟨w.heap.size, 0, none⟩) n n) (w.alloc (.cells (wvs (List.replicate n 0)).toArray 52)) := by
  obtain ⟨i0, hi, hz0, hz1, hz2⟩ := info_parts Try.info52
  have h := run_make (P := Try.prog) w 22 52 i0 (.int .u32 0) Try.underlying22 hi hz0 .u32 .u32 n n (by omega) (by omega) (by rw [hz2]; omega) (by omega)
  rw [hz1, Nat.mul_one, Int.toNat_natCast, madeCells_words] at h
  exact h

/-- copy of words that can be read: as many as the shorter one has. -/
theorem run_copy_ws {w : World} (ty : TypeId) (g o dLen dCap : Nat) (l : List Value) (t : TypeId) (hg : Blk w g l t) (b p : Nat) (sLen sCap : Nat) (xs : List UInt32)
    (hx : SegW w (some ⟨b, p, none⟩) xs) (hn : xs.length = Nat.min sLen dLen) (hfit : o + xs.length ≤ l.length) :
    (Builtin.copy_ #[22, 22] ty #[.slice (some ⟨g, o, none⟩) dLen dCap, .slice (some ⟨b, p, none⟩) sLen sCap]).run Try.prog w = .ok (goInt xs.length) (w.setRow g (l.take o ++ wvs xs ++ l.drop (o + xs.length)).toArray) := by
  have h := run_copy_row Try.prog w 22 22 ty 52 g o dLen dCap ⟨b, p, none⟩ sLen sCap l.toArray t (wvs xs) Try.underlying22 Try.size52 hg (by rw [wvs_length]; exact hn) (by
    intro j v hj
    rcases segW_cells hx with h0 | ⟨b', p', e, hc⟩
    · rw [h0] at hj; simp at hj
    · simp at e
      obtain ⟨rfl, rfl⟩ := e
      rw [addr_add]
      exact hc j v hj) (by rw [wvs_length]; simpa using hfit) (wvs_one xs)
  rw [wvs_length] at h
  exact h

set_option maxHeartbeats 1000000 in
theorem message_any (p : Int) (g h n d N : Nat) (l : List UInt32) (w : World) (i : Nat) (r : Rb w g h n d l) (hN : N = l.length) (hf : fstW h l < d) (hi : i < d) (hk : (wd (plc h n d l i) 0).toNat ≤ n) :
    Calls Try.prog 49 #[rwv p h n d g N, .int .i64 i] w fun e w' => ∃ G, w.heap.size ≤ G ∧ e = .returned (.slice (some ⟨G, 0, none⟩) (msgO (plc h n d l i)).length (msgO (plc h n d l i)).length) ∧ Blk w' G (wvs (msgO (plc h n d l i))) 52 ∧ Keeps (fun _ => False) w w' := by
  obtain ⟨W, hW, hK, hB⟩ := row_new w p h n d g N
  have hb := r.big
  have hfit := plA_fit r hf hi
  have HP := place_any p g h n d N l W i (r.grown hK) hN hf hi
  have hpl := plc_length (n := n) r.len hf hi
  obtain ⟨pl, hple⟩ : ∃ pl, pl = plc h n d l i := ⟨_, rfl⟩
  obtain ⟨k, hk2⟩ : ∃ k, k = (wd pl 0).toNat := ⟨_, rfl⟩
  rw [← hple] at hpl hk ⊢
  rw [← hk2] at hk
  have hml : (msgO pl).length = k := by unfold msgO; rw [← hk2]; simp; omega
  obtain ⟨q, hq⟩ : ∃ q, q = plA h n d l i := ⟨_, rfl⟩
  rw [← hq] at HP hfit
  have hseg : ∀ W1, Keeps (fun _ => False) W W1 → SegW W1 (some ⟨g, q, none⟩) pl := fun W1 k1 => by
    rw [hple, plc_win, ← hq]; exact segW_win ((r.grown hK).grown k1).blk q (1 + n) hfit
  have hS2 : ∀ W1, Keeps (fun _ => False) W W1 → W1.cell? ⟨g, q, none⟩ = some (.int .u32 k) ∧
      (Instr.makeSlice 22 (.int .u32 k) (.int .u32 k)).run Try.prog W1 = .ok (.slice (some ⟨W1.heap.size, 0, none⟩) k k) (W1.alloc (.cells (wvs (List.replicate k 0)).toArray 52)) ∧
      (∀ ty, (Builtin.copy_ #[22, 22] ty #[.slice (some ⟨W1.heap.size, 0, none⟩) k k, .slice (some ⟨g, q + 1, none⟩) n (N - q - 1)]).run Try.prog (W1.alloc (.cells (wvs (List.replicate k 0)).toArray 52)) = .ok (goInt k) ((W1.alloc (.cells (wvs (List.replicate k 0)).toArray 52)).setRow W1.heap.size (wvs (msgO pl)).toArray)) := fun W1 k1 => by
    have hs := hseg W1 k1
    refine ⟨?_, run_make_u32 k (by omega), fun ty => ?_⟩
    · have := hs.wd (j := 0) (by omega)
      rw [Nat.add_zero, ← hk2] at this
      exact this
    · have hB1 := Blk.new W1 (wvs (List.replicate k 0)).toArray 52
      have hs3 := segW_drop (hs.kept ((Keeps.refl (fun _ => False) W1).alloc (.cells (wvs (List.replicate k 0)).toArray 52)) (fun _ _ e => e)) 1
      have hs4 : SegW (W1.alloc (.cells (wvs (List.replicate k 0)).toArray 52)) (some ⟨g, q + 1, none⟩) (msgO pl) := by
        rcases hs3 with h0 | ⟨g', o', e, hc⟩
        · exact .inl (by unfold msgO; rw [h0]; simp)
        · simp at e
          obtain ⟨rfl, rfl⟩ := e
          refine .inr ⟨g, q + 1, rfl, fun j hj => ?_⟩
          rw [hc j (by rw [hml] at hj; simp; omega)]
          simp [msgO]
      have := run_copy_ws ty W1.heap.size 0 k k _ 52 hB1 g (q + 1) n (N - q - 1) _ hs4 (by rw [hml]; exact (Nat.min_eq_right hk).symm) (by rw [hml]; simp [wvs_length])
      rw [hml] at this
      rw [this]
      have e : (wvs (List.replicate k 0)).toArray.toList.take 0 ++ wvs (msgO pl) ++ (wvs (List.replicate k 0)).toArray.toList.drop (0 + k) = wvs (msgO pl) := by simp [wvs]
      rw [e]
  rw [hml]
  have HP : Hid (Calls _ _ _ _ _) := HP
  have HS : Hid (∀ W1, Keeps (fun _ => False) W W1 → _) := hS2
  have HW : Hid (W = _ ∧ Keeps (fun _ => False) w W) := ⟨hW, hK⟩
  have y1 : (q : Int) + 1 + (n : Int) ≤ (N : Int) := by omega
  have y2 : 1 ≤ (n : Int) := by have := r.n1; omega
  have y3 : (N : Int) ≤ 139 := by omega
  have y4 : ¬ N - q = 1 := by have := r.n1; omega
  have y5 : 1 ≤ ((N - q : Nat) : Int) := by omega
  clear hS2 hseg hW hK hB hb hfit hpl hple hk hk2 hml hq r hf hi hN
  go_enter Try.func49, Try.ntmps49
  go_wp2_with fail
  rw [← HW.out.1]
  refine HP.out.mono ?_
  rintro e w1 ⟨rfl, hk1⟩
  obtain ⟨c0, hmk, hcp⟩ := HS.out w1 hk1
  have HK1 : Hid (Keeps _ _ _) := hk1
  have HM : Hid (_ = _) := hmk
  have HCP : Hid (∀ ty, _) := hcp
  clear hk1 hmk hcp HP
  go_wp2_with (at_make; refine wpList_make_run rfl _ _ 22 rfl (.int .u32 k) (.int .u32 k) (.slice (some ⟨w1.heap.size, 0, none⟩) k k) _ rfl rfl HM.out ?_; refine Hid.out ?_)
  unfold Hid
  clear HM
  go_wp2_with (refine isCopy _ _ 22 22 rfl ?_; go_must (refine wpList_copy_run rfl _ _ 22 22 rfl (.slice (some ⟨w1.heap.size, 0, none⟩) k k) (.slice (some ⟨g, q + 1, none⟩) n (N - q - 1)) (goInt k) _ rfl rfl HCP.out ?_))
  go_ret
  refine ⟨w1.heap.size, (HW.out.2.trans HK1.out fun _ _ e => e).size, rfl, (Blk.new w1 (wvs (List.replicate k 0)).toArray 52).setRow _, ?_⟩
  exact ((HW.out.2.trans HK1.out fun _ _ e => e).alloc _).setRow _ _ fun h => absurd h (by have := (HW.out.2.trans HK1.out fun _ _ e => e).size; omega)

end Go.Proofs.Ytekijhhpldnmnaa
