import Derived.Test.YtekijhhpldnmnaaRb
namespace Go.Proofs.Ytekijhhpldnmnaa
open Go.RowKit
set_option linter.unusedVariables false
set_option linter.unusedSimpArgs false

/-! ### The document's side -/
def bndB (n d : Int) : Bool := decide (fitE false n d = 0)
theorem bnd_iff (n d : Int) : bndB n d = true ↔ 1 ≤ n ∧ n ≤ 16 ∧ 1 ≤ d ∧ d ≤ 8 := by
  unfold bndB
  rw [decide_eq_true_iff]
  constructor
  · intro h; obtain ⟨_, h1⟩ := fit_ok h; exact h1
  · intro h; unfold fitE; rw [if_neg (by decide), if_neg (by omega)]

set_option maxHeartbeats 400000 in
theorem bounds_any (n d : Int) (w : World) : Calls Try.prog 53 #[.int .i64 n, .int .i64 d] w fun e w' => e = .returned (.bool (bndB n d)) ∧ w' = w := by
  have hB := bnd_iff n d
  by_cases h1 : 1 ≤ n
  · by_cases h2 : n ≤ 16
    · by_cases h3 : 1 ≤ d
      · by_cases h4 : d ≤ 8
        · rw [hB.2 ⟨h1, h2, h3, h4⟩]
          clear hB
          go_enter Try.func53, Try.ntmps53
          go_wp2
          go_ret
          exact ⟨rfl, rfl⟩
        · have e : bndB n d = false := by cases h : bndB n d with | false => rfl | true => have := hB.1 h; omega
          rw [e]
          clear hB e
          go_enter Try.func53, Try.ntmps53
          go_wp2
          go_ret
          exact ⟨rfl, rfl⟩
      · have e : bndB n d = false := by cases h : bndB n d with | false => rfl | true => have := hB.1 h; omega
        rw [e]
        clear hB e
        go_enter Try.func53, Try.ntmps53
        go_wp2
        go_ret
        exact ⟨rfl, rfl⟩
    · have e : bndB n d = false := by cases h : bndB n d with | false => rfl | true => have := hB.1 h; omega
      rw [e]
      clear hB e
      go_enter Try.func53, Try.ntmps53
      go_wp2
      go_ret
      exact ⟨rfl, rfl⟩
  · have e : bndB n d = false := by cases h : bndB n d with | false => rfl | true => have := hB.1 h; omega
    rw [e]
    clear hB e
    go_enter Try.func53, Try.ntmps53
    go_wp2
    go_ret
    exact ⟨rfl, rfl⟩

set_option maxHeartbeats 400000 in
theorem rfits_any (a : Option Addr) (M c : Nat) (p k : Int) (w : World) (hM : M ≤ 256) (hk : 0 ≤ k ∧ k ≤ 200) :
    Calls Try.prog 57 #[.slice a M c, .int .i64 p, .int .i64 k] w fun e w' => e = .returned (.bool (decide (0 ≤ p ∧ p + k ≤ M))) ∧ w' = w := by
  have hM2 : (M : Int) ≤ 256 := by omega
  obtain ⟨k1, k2⟩ := hk
  by_cases h1 : 0 ≤ p
  · by_cases h2 : p ≤ (M : Int)
    · by_cases h3 : k ≤ (M : Int) - p
      · rw [decide_eq_true (show 0 ≤ p ∧ p + k ≤ M by omega)]
        clear hM
        go_enter Try.func57, Try.ntmps57
        go_wp2
        go_ret
        exact ⟨rfl, rfl⟩
      · rw [decide_eq_false (show ¬ (0 ≤ p ∧ p + k ≤ M) by omega)]
        clear hM
        go_enter Try.func57, Try.ntmps57
        go_wp2
        go_ret
        exact ⟨rfl, rfl⟩
    · rw [decide_eq_false (show ¬ (0 ≤ p ∧ p + k ≤ M) by omega)]
      clear hM
      go_enter Try.func57, Try.ntmps57
      go_wp2
      go_ret
      exact ⟨rfl, rfl⟩
  · rw [decide_eq_false (show ¬ (0 ≤ p ∧ p + k ≤ M) by omega)]
    clear hM
    go_enter Try.func57, Try.ntmps57
    go_wp2
    go_ret
    exact ⟨rfl, rfl⟩

theorem words_nat (n d : Nat) (h1 : n ≤ 16) (h2 : d ≤ 8) : ∃ KK : Nat, KK = d * (1 + n) ∧ (d : Int) * (1 + (n : Int)) = (KK : Int) ∧ (KK : Int) ≤ 136 := by
  have hb := Nat.mul_le_mul h2 (show 1 + n ≤ 17 by omega)
  exact ⟨_, rfl, by simp, by omega⟩

set_option maxHeartbeats 400000 in
theorem stageWords_any (n d : Nat) (w : World) (h1 : n ≤ 16) (h2 : d ≤ 8) : Calls Try.prog 24 #[.int .i64 n, .int .i64 d] w fun e w' => e = .returned (.int .i64 (rsz 1 n d : Nat)) ∧ w' = w := by
  obtain ⟨KK, hKK, xK, kb⟩ := words_nat n d h1 h2
  have e : ((rsz 1 n d : Nat) : Int) = 1 + (KK : Int) := by rw [rsz_nat, ← hKK]; simp
  rw [e]
  have n1 : (n : Int) ≤ 16 := by omega
  clear e hKK h1 h2
  go_enter Try.func24, Try.ntmps24
  go_wp2
  go_ret
  exact ⟨rfl, rfl⟩
set_option maxHeartbeats 400000 in
theorem portWords_any (n d : Nat) (w : World) (h1 : n ≤ 16) (h2 : d ≤ 8) : Calls Try.prog 25 #[.int .i64 n, .int .i64 d] w fun e w' => e = .returned (.int .i64 (rsz 3 n d : Nat)) ∧ w' = w := by
  obtain ⟨KK, hKK, xK, kb⟩ := words_nat n d h1 h2
  have e : ((rsz 3 n d : Nat) : Int) = 3 + (KK : Int) := by rw [rsz_nat, ← hKK]; simp
  rw [e]
  have n1 : (n : Int) ≤ 16 := by omega
  clear e hKK h1 h2
  go_enter Try.func25, Try.ntmps25
  go_wp2
  go_ret
  exact ⟨rfl, rfl⟩

set_option maxHeartbeats 400000 in
theorem rcopied_any (a : Option Addr) (c : Nat) (xs : List UInt32) (w : World) (hx : SegW w a xs) (hl : xs.length ≤ 1048576) :
    Calls Try.prog 55 #[.slice a xs.length c] w fun e w' => e = .returned (.slice (some ⟨w.heap.size, 0, none⟩) xs.length xs.length) ∧ Blk w' w.heap.size (wvs xs) 52 ∧ Keeps (fun _ => False) w w' := by
  have hmk := run_make_words (w := w) xs.length (by omega)
  obtain ⟨W1, hW⟩ : ∃ W1, W1 = w.alloc (.cells (wvs (List.replicate xs.length 0)).toArray 52) := ⟨_, rfl⟩
  rw [← hW] at hmk
  have hK1 : Keeps (fun _ => False) w W1 := by rw [hW]; exact (Keeps.refl _ w).alloc _
  have hB1 : Blk W1 w.heap.size (wvs (List.replicate xs.length 0)) 52 := by rw [hW]; exact Blk.new w _ 52
  have hs1 : SegW W1 a xs := hx.kept hK1 (fun _ _ e => e)
  have hcp := fun ty => run_copy_wb (w := W1) ty w.heap.size 0 xs.length _ 52 hB1 a c xs hs1 (by simp [wvs_length])
  have e : (wvs (List.replicate xs.length 0)).take 0 ++ wvs xs ++ (wvs (List.replicate xs.length 0)).drop (0 + xs.length) = wvs xs := by simp [wvs]
  rw [e] at hcp
  obtain ⟨W3, hW3⟩ : ∃ W3, W3 = W1.setRow w.heap.size (wvs xs).toArray := ⟨_, rfl⟩
  have hB3 : Blk W3 w.heap.size (wvs xs) 52 := by rw [hW3]; exact hB1.setRow _
  have hK3 : Keeps (fun _ => False) w W3 := by rw [hW3]; exact hK1.setRow _ _ (fun h => by omega)
  rw [← hW3] at hcp
  obtain ⟨n, hnn⟩ : ∃ n, n = xs.length := ⟨_, rfl⟩
  rw [← hnn] at hmk hcp ⊢
  have HM : Hid (_ = _) := hmk
  have HC : Hid (∀ ty, _) := hcp
  clear hmk hnn hcp hW3 hW hs1 hB1 hK1 e
  go_enter Try.func55, Try.ntmps55
  go_wp2_with (first | (at_make; go_must (refine wpList_make_run rfl _ _ 22 rfl (.int .i64 n) (.int .i64 n) (.slice (some ⟨w.heap.size, 0, none⟩) n n) W1 rfl rfl HM.out ?_)) | (refine isCopy _ _ 22 22 rfl ?_; go_must (refine wpList_copy_run rfl _ _ 22 22 rfl (.slice (some ⟨w.heap.size, 0, none⟩) n n) (.slice a n c) (goInt n) W3 rfl rfl HC.out ?_)))
  go_ret
  exact ⟨rfl, hB3, hK3⟩

end Go.Proofs.Ytekijhhpldnmnaa
namespace Go.Proofs.Ytekijhhpldnmnaa
open Go.RowKit
set_option linter.unusedVariables false
set_option linter.unusedSimpArgs false

def goodB (n : Nat) (pl : List UInt32) : Bool := decide ((wd pl 0).toNat ≤ n) && zeroB (pl.drop (1 + (wd pl 0).toNat))
theorem good_rp {n : Nat} {pl : List UInt32} (hl : pl.length = 1 + n) (f : Bool) : rpB pl f = (goodB n pl && decide (f = decide (0 < (wd pl 0).toNat))) := by
  unfold rpB goodB
  cases f with
  | true =>
    rw [if_pos rfl, hl]
    by_cases h1 : 1 ≤ (wd pl 0).toNat
    · rw [decide_eq_true h1, decide_eq_true (show true = decide (0 < (wd pl 0).toNat) from (decide_eq_true (by omega)).symm), Bool.true_and, Bool.and_true]
      congr 1
      simp only [decide_eq_decide]
      omega
    · rw [decide_eq_false h1, decide_eq_false (show ¬ true = decide (0 < (wd pl 0).toNat) from fun e => h1 (of_decide_eq_true e.symm)), Bool.false_and, Bool.and_false]
  | false =>
    rw [if_neg (by decide)]
    cases pl with
    | nil => simp at hl; omega
    | cons x t =>
      have e0 : wd (x :: t) 0 = x := rfl
      rw [e0]
      by_cases h1 : 0 < x.toNat
      · rw [decide_eq_false (show ¬ false = decide (0 < x.toNat) from fun e => by rw [decide_eq_true h1] at e; cases e), Bool.and_false]
        have : (x == 0) = false := beq_eq_false_iff_ne.2 fun e => by rw [e] at h1; simp at h1
        simp [zeroB, this]
      · have hx : x = 0 := UInt32.toNat_inj.1 (by show x.toNat = 0; omega)
        subst hx
        rw [decide_eq_true (show false = decide (0 < (0 : UInt32).toNat) from rfl), Bool.and_true]
        simp [zeroB]

/-- what `place` of the reference answers -/
def PlP (w : World) (GB : Bool) (pm : List UInt32) (L0 : Nat) (e : Ending) (w' : World) : Prop :=
  (GB = true ∧ ∃ B, w.heap.size ≤ B ∧ e = .returned (.tuple #[.slice (some ⟨B, 0, none⟩) L0 L0, .int .i64 L0]) ∧ Blk w' B (wvs pm) 52 ∧ pm.length = L0 ∧ Keeps (fun _ => False) w w') ∨
  (GB = false ∧ e = .returned (.tuple #[.slice none 0 0, .int .i64 (-1)]) ∧ w' = w)

set_option maxRecDepth 20000 in
set_option maxHeartbeats 2000000 in
theorem rplace_any (D M c q n : Nat) (xs : List UInt32) (w : World) (hB : Blk w D (wvs xs) 52) (hM : M = xs.length) (hm : M ≤ 256) (hq : q + (1 + n) ≤ M) (hn : n ≤ 16) :
    Calls Try.prog 72 #[.slice (some ⟨D, 0, none⟩) M c, .int .i64 q, .int .i64 n] w fun e w' =>
      PlP w (goodB n (win xs q (1 + n))) (msgO (win xs q (1 + n))) (wd xs q).toNat e w' := by
  have hwl := win_length xs q (1 + n) (by omega)
  have hw0 : wd (win xs q (1 + n)) 0 = wd xs q := by rw [wd_win (by omega), Nat.add_zero]
  obtain ⟨L0, hL0⟩ : ∃ L0, L0 = (wd xs q).toNat := ⟨_, rfl⟩
  have hL32 : L0 < 4294967296 := by rw [hL0]; exact (wd xs q).toNat_lt
  have c0 := hB.cell (wvs_wd (l := xs) (i := q) (by omega))
  rw [← hL0] at c0
  have HC : Hid (∀ w', Keeps (fun _ => False) w w' → ∀ i, i < M → w'.cell? ⟨D, i, none⟩ = some (.int .u32 ((wd xs i).toNat : Int))) := fun w' k i hi => (hB.kept k fun e => e).cell (wvs_wd (by omega))
  have hml : L0 ≤ n → (msgO (win xs q (1 + n))).length = L0 := fun h => by
    unfold msgO; rw [hw0, ← hL0]; simp [hwl]; omega
  have HG : Hid (goodB n (win xs q (1 + n)) = (decide (L0 ≤ n) && zeroB ((win xs q (1 + n)).drop (1 + L0)))) := by
    show _ = _; unfold goodB; rw [hw0, ← hL0]
  have hzi : ∀ i, L0 ≤ i → i < n → wd xs (q + 1 + i) ≠ 0 → zeroB ((win xs q (1 + n)).drop (1 + L0)) = false := fun i h1 h2 h3 => by
    refine zeroB_not (j := i - L0) (by rw [List.length_drop, hwl]; omega) ?_
    have : wd ((win xs q (1 + n)).drop (1 + L0)) (i - L0) = wd xs (q + 1 + i) := by
      unfold wd
      rw [List.getD_eq_getElem?_getD, List.getD_eq_getElem?_getD, List.getElem?_drop, win_get?, if_pos (by omega)]
      congr 2; omega
    rw [this]; exact h3
  have hza : (∀ i, L0 ≤ i → i < n → wd xs (q + 1 + i) = 0) → L0 ≤ n → zeroB ((win xs q (1 + n)).drop (1 + L0)) = true := fun h hle => by
    unfold zeroB
    rw [List.all_eq_true]
    intro x hx
    obtain ⟨i, hi, rfl⟩ := List.getElem_of_mem hx
    rw [List.length_drop, hwl] at hi
    have := h (L0 + i) (by omega) (by omega)
    rw [List.getElem_drop]
    have e : (win xs q (1 + n))[1 + L0 + i]'(by rw [hwl]; omega) = wd xs (q + 1 + (L0 + i)) := by
      rw [← wd_get, wd_win (by omega)]; congr 1; omega
    rw [e, this]; rfl
  have hmsg : ∀ i, i < L0 → L0 ≤ n → (msgO (win xs q (1 + n)))[i]? = some (wd xs (q + 1 + i)) := fun i hi hle => by
    unfold msgO
    rw [hw0, ← hL0, List.getElem?_take, if_pos hi, List.getElem?_drop, win_get?, if_pos (by omega), show q + (1 + i) = q + 1 + i by omega]
    unfold wd
    rw [List.getD_eq_getElem?_getD, List.getElem?_eq_getElem (by omega)]
    rfl
  obtain ⟨pm, hpm⟩ : ∃ pm, pm = msgO (win xs q (1 + n)) := ⟨_, rfl⟩
  rw [← hpm] at hml hmsg ⊢
  obtain ⟨GB, hGB⟩ : ∃ GB, GB = goodB n (win xs q (1 + n)) := ⟨_, rfl⟩
  rw [← hGB] at HG ⊢
  obtain ⟨ZB, hZB⟩ : ∃ ZB, ZB = zeroB ((win xs q (1 + n)).drop (1 + L0)) := ⟨_, rfl⟩
  rw [← hZB] at HG hzi hza
  rw [← hL0]
  have HZI : Hid (∀ i, L0 ≤ i → i < n → wd xs (q + 1 + i) ≠ 0 → ZB = false) := hzi
  have HZA : Hid ((∀ i, L0 ≤ i → i < n → wd xs (q + 1 + i) = 0) → L0 ≤ n → ZB = true) := hza
  have HMG : Hid ((L0 ≤ n → pm.length = L0) ∧ ∀ i, i < L0 → L0 ≤ n → pm[i]? = some (wd xs (q + 1 + i))) := ⟨hml, hmsg⟩
  have m1 : (M : Int) ≤ 256 := by omega
  have m2 : (q : Int) + 1 + (n : Int) ≤ (M : Int) := by omega
  have m3 : (n : Int) ≤ 16 := by omega
  have m4 : (L0 : Int) < 4294967296 := by omega
  have m5 : (q : Int) < (M : Int) := by omega
  clear hzi hza hml hmsg hGB hZB hpm hwl hw0 hL0 hB hL32
  by_cases hbig : n < L0
  · have hb2 : (n : Int) < (L0 : Int) := by omega
    have HR : Hid (GB = false) := by show GB = false; rw [HG.out, decide_eq_false (by omega)]; rfl
    clear hbig
    go_enter Try.func72, Try.ntmps72
    go_wp2
    go_ret2
    exact .inr ⟨HR.out, rfl, rfl⟩
  have hb2 : ¬ (n : Int) < (L0 : Int) := by omega
  have hle : L0 ≤ n := by omega
  have hlez : (L0 : Int) ≤ 16 := by omega
  go_enter Try.func72, Try.ntmps72
  go_wp2
  go_loopw [9] (fun i wr => ∃ j : Nat, L0 ≤ j ∧ j ≤ n ∧ i = .int .i64 j ∧ (∀ i, L0 ≤ i → i < j → wd xs (q + 1 + i) = 0) ∧ wr = w) (fun i _ => n - (intOf i).toNat)
  case atStart => exact ⟨L0, by omega, by omega, rfl, fun i h1 h2 => absurd h2 (by omega), rfl⟩
  case round =>
    obtain ⟨j, hj1, hj2, rfl, hz, rfl⟩ := hrel
    by_cases hlt : j < n
    · have hlt' : (j : Int) < n := by omega
      have cj := HC.out wr (Keeps.refl _ _) (q + 1 + j) (by omega)
      have i1 : (q : Int) + 1 + (j : Int) < (M : Int) := by omega
      by_cases hx : wd xs (q + 1 + j) = 0
      · have HA : Hid (∀ i, L0 ≤ i → i < j + 1 → wd xs (q + 1 + i) = 0) := fun i h1 h2 => by
          by_cases e : i = j
          · rw [e]; exact hx
          · exact hz i h1 (by omega)
        rw [hx] at cj
        have e0 : ((0 : UInt32).toNat : Int) = 0 := rfl
        rw [e0] at cj
        clear hz hx e0
        go_wp2
        go_roundw
        case rel => exact ⟨j + 1, by omega, by omega, by go_num, HA.out, trivial⟩
        case measure => simp [intOf]; omega
      · have HR : Hid (GB = false) := by show GB = false; rw [HG.out, HZI.out j hj1 hlt hx, Bool.and_false]
        have hx2 : (((wd xs (q + 1 + j)).toNat : Int) != 0) = true := by
          have : (wd xs (q + 1 + j)).toNat ≠ 0 := fun e => hx (UInt32.toNat_inj.1 (by simpa using e))
          exact bne_iff_ne.2 (by omega)
        obtain ⟨v, hv⟩ : ∃ v : Nat, v = (wd xs (q + 1 + j)).toNat := ⟨_, rfl⟩
        rw [← hv] at cj hx2
        clear hz hx hv
        go_wp2
        go_ret2
        exact .inr ⟨HR.out, rfl, rfl⟩
    · obtain rfl : n = j := by omega
      have HR : Hid (GB = true) := by show GB = true; rw [HG.out, decide_eq_true hle, HZA.out hz hle]; rfl
      have hmk := run_make_words (w := wr) L0 (by omega)
      obtain ⟨W1, hW1⟩ : ∃ W1, W1 = wr.alloc (.cells (wvs (List.replicate L0 0)).toArray 52) := ⟨_, rfl⟩
      rw [← hW1] at hmk
      have hK1 : Keeps (fun _ => False) wr W1 := by rw [hW1]; exact (Keeps.refl _ wr).alloc _
      have hB1 : Blk W1 wr.heap.size (wvs (List.replicate L0 0)) 52 := by rw [hW1]; exact Blk.new wr _ 52
      obtain ⟨B, hBe⟩ : ∃ B, B = wr.heap.size := ⟨_, rfl⟩
      rw [← hBe] at hmk hB1
      have HB : Hid (B = wr.heap.size ∧ Keeps (fun _ => False) wr W1 ∧ Blk W1 B (wvs (pm.take 0 ++ List.replicate (L0 - 0) 0)) 52 ∧ pm.length = L0) := ⟨hBe, hK1, by simpa using hB1, HMG.out.1 hle⟩
      have HM : Hid (_ = _) := hmk
      clear hmk hW1 hK1 hB1 hBe hz hj1 hj2
      obtain ⟨wo, hwo⟩ : ∃ wo, wo = wr := ⟨_, rfl⟩
      subst hwo
      go_wp2_with (at_make; go_must (refine wpList_make_run rfl _ _ 22 rfl (.int .i64 L0) (.int .i64 L0) (.slice (some ⟨B, 0, none⟩) L0 L0) W1 rfl rfl HM.out ?_))
      go_loopw [11] (fun i wx => ∃ j : Nat, j ≤ L0 ∧ i = .int .i64 j ∧ Keeps (fun _ => False) wo wx ∧ Blk wx B (wvs (pm.take j ++ List.replicate (L0 - j) 0)) 52) (fun i _ => L0 - (intOf i).toNat)
      case atStart => exact ⟨0, by omega, rfl, HB.out.2.1, HB.out.2.2.1⟩
      case round =>
        obtain ⟨j, hj, rfl, hK, hb⟩ := hrel
        by_cases hlt2 : j < L0
        · have hlt3 : (j : Int) < L0 := by omega
          have cj := HC.out wr hK (q + 1 + j) (by omega)
          have hlen : (pm.take j ++ List.replicate (L0 - j) (0 : UInt32)).length = L0 := by have := HB.out.2.2.2; simp; omega
          have cu := hb.cell (wvs_wd (l := pm.take j ++ List.replicate (L0 - j) 0) (i := j) (by omega))
          have fu := hb.frozen j
          have i1 : (q : Int) + 1 + (j : Int) < (M : Int) := by omega
          have HR2 : Hid (Keeps (fun _ => False) wo (wr.setCell ⟨B, j, none⟩ (.int .u32 ((wd xs (q + 1 + j)).toNat : Int))) ∧ Blk (wr.setCell ⟨B, j, none⟩ (.int .u32 ((wd xs (q + 1 + j)).toNat : Int))) B (wvs (pm.take (j + 1) ++ List.replicate (L0 - (j + 1)) 0)) 52) := by
            refine ⟨hK.setCell _ _ fun h => by have := HB.out.1; have : B < wo.heap.size := h; omega, ?_⟩
            have e : pm.take (j + 1) ++ List.replicate (L0 - (j + 1)) (0 : UInt32) = (pm.take j ++ List.replicate (L0 - j) 0).set j (wd xs (q + 1 + j)) := by
              have hlt4 : (pm.take j).length = j := by have := HB.out.2.2.2; simp; omega
              rw [List.set_append_right _ _ (by omega), hlt4, Nat.sub_self, show L0 - j = (L0 - (j + 1)) + 1 by omega, List.replicate_succ, List.set_cons_zero, List.take_add_one, HMG.out.2 j hlt2 hle, List.append_assoc]
              rfl
            rw [e, wvs_setm]
            exact hb.setCell j _
          obtain ⟨v, hv⟩ : ∃ v : Nat, v = (wd xs (q + 1 + j)).toNat := ⟨_, rfl⟩
          obtain ⟨u, hu⟩ : ∃ v : Nat, v = (wd (pm.take j ++ List.replicate (L0 - j) (0 : UInt32)) j).toNat := ⟨_, rfl⟩
          rw [← hv] at cj HR2
          rw [← hu] at cu
          clear hK hb hlen hv hu hj
          go_wp2
          go_roundw
          case rel => exact ⟨j + 1, by omega, by go_num, HR2.out⟩
          case measure => simp [intOf]; omega
        · obtain rfl : L0 = j := by omega
          have HF : Hid (Blk wr B (wvs pm) 52 ∧ Keeps (fun _ => False) wo wr) := by
            rw [List.take_of_length_le (by have := HB.out.2.2.2; omega), Nat.sub_self] at hb
            exact ⟨by simpa using hb, hK⟩
          clear hb hK hj
          go_wp2
          go_ret2
          exact .inl ⟨HR.out, B, by have := HB.out.1; omega, rfl, HF.out.1, HB.out.2.2.2, HF.out.2⟩

end Go.Proofs.Ytekijhhpldnmnaa
namespace Go.Proofs.Ytekijhhpldnmnaa
open Go.RowKit
set_option linter.unusedVariables false
set_option linter.unusedSimpArgs false

abbrev zc3 : Array Value := #[.int .i64 0, .slice none 0 0, .int .u32 0]
abbrev rv3 (f : Nat) (v : Value) (x : Nat) : Value := .agg #[.int .i64 f, v, .int .u32 x]
theorem Blk.ne {w : World} {g b : Nat} {l k : List Value} {s t : TypeId} (h : Blk w g l s) (h2 : Blk w b k t) (e : s ≠ t) : g ≠ b := fun q => by
  subst q
  unfold Blk at h h2
  rw [h] at h2
  simp at h2
  exact e h2.2
/-- Messages that lie in a row of their own. -/
def MsR (lo : Nat) (w : World) (v : Value) (ms : List (List UInt32)) : Prop :=
  ∃ vals : List Value, RowO w v vals ∧ (∀ b, blkO v = some b → lo ≤ b) ∧ vals.length = ms.length ∧
    ∀ (j : Nat) (m : List UInt32), ms[j]? = some m → ∃ B : Nat, lo ≤ B ∧ vals[j]? = some (Value.slice (some ⟨B, 0, none⟩) m.length m.length) ∧ Blk w B (wvs m) 52
theorem MsR.nil (lo : Nat) (w : World) : MsR lo w (.slice none 0 0) [] := ⟨[], .inl ⟨rfl, rfl⟩, fun b h => (by cases h), rfl, fun j m h => (by cases h)⟩
theorem RowO.blk {w : World} {v : Value} {vals : List Value} (h : RowO w v vals) {b : Nat} (hb : blkO v = some b) : ∃ l, Blk w b l 22 := by
  rcases h with ⟨rfl, rfl⟩ | ⟨g, o, cap, l, rfl, hl, _⟩
  · cases hb
  · cases hb; exact ⟨l, hl⟩
theorem MsR.kept {S : Nat → Prop} {lo : Nat} {w w' : World} {v : Value} {ms : List (List UInt32)} (h : MsR lo w v ms) (k : Keeps S w w') (hn : ∀ b, lo ≤ b → b < w.heap.size → ¬ S b) : MsR lo w' v ms := by
  obtain ⟨vals, h1, h2, h3, h4⟩ := h
  refine ⟨vals, h1.kept k fun b hb => ?_, h2, h3, fun j m hj => ?_⟩
  · obtain ⟨l, hl⟩ := h1.blk hb
    exact hn b (h2 b hb) hl.lt
  · obtain ⟨B, q1, q2, q3⟩ := h4 j m hj
    exact ⟨B, q1, q2, q3.kept k (hn B q1 q3.lt)⟩
theorem MsR.mono {lo lo' : Nat} {w : World} {v : Value} {ms : List (List UInt32)} (h : MsR lo w v ms) (hl : lo' ≤ lo) : MsR lo' w v ms := by
  obtain ⟨vals, h1, h2, h3, h4⟩ := h
  exact ⟨vals, h1, fun b hb => Nat.le_trans hl (h2 b hb), h3, fun j m hj => by obtain ⟨B, q1, q2⟩ := h4 j m hj; exact ⟨B, Nat.le_trans hl q1, q2⟩⟩
theorem MsR.form {lo : Nat} {w : World} {v : Value} {ms : List (List UInt32)} (h : MsR lo w v ms) : ∃ a c, v = .slice a ms.length c ∧ c ≤ maxLen ∧ ms.length ≤ c := by
  obtain ⟨vals, h1, h2, h3, h4⟩ := h
  obtain ⟨a, c, q1, q2, q3, q4⟩ := h1.form
  exact ⟨a, c, by rw [← h3]; exact q1, q2, by omega⟩
/-- One message more, in words that stand. -/
theorem MsR.app {lo : Nat} {w : World} {v : Value} {ms : List (List UInt32)} (h : MsR lo w v ms) (m : List UInt32) (B : Nat) (hB : Blk w B (wvs m) 52) (hlo : lo ≤ B) (hlw : lo ≤ w.heap.size) (hl : ms.length ≤ 1000) :
    ∃ v' W', (∀ ty, (Builtin.append_ #[43, 43] ty #[v, .slice (some ⟨w.heap.size, 0, none⟩) 1 1]).run Try.prog (w.alloc (.cells #[.slice (some ⟨B, 0, none⟩) m.length m.length] 22)) = .ok v' W') ∧ MsR lo W' v' (ms ++ [m]) ∧ Keeps (fun k => some k = blkO v) w W' := by
  obtain ⟨vals, h1, h2, h3, h4⟩ := h
  obtain ⟨v', W', r1, r2, r3, r4⟩ := append_row22 (w := w) (.slice (some ⟨B, 0, none⟩) m.length m.length) rfl v vals h1 (by omega)
  have hne : ∀ (b : Nat) l, Blk w b l 52 → ¬ some b = blkO v := fun b l hb e => by
    obtain ⟨l2, hl2⟩ := h1.blk e.symm
    exact hb.ne hl2 (by decide) rfl
  refine ⟨v', W', r1, ⟨vals ++ [.slice (some ⟨B, 0, none⟩) m.length m.length], r2, fun b hb => ?_, by simp [h3], fun j x hj => ?_⟩, r4⟩
  · rcases r3 with r3 | ⟨k, r3, r5⟩
    · exact h2 b (by rw [← r3]; exact hb)
    · rw [r3] at hb; cases hb; omega
  · by_cases hjl : j < ms.length
    · rw [List.getElem?_append_left hjl] at hj
      obtain ⟨C, q1, q2, q3⟩ := h4 j x hj
      exact ⟨C, q1, by rw [List.getElem?_append_left (by omega)]; exact q2, q3.kept r4 (hne C _ q3)⟩
    · have : j = ms.length := by have := (List.getElem?_eq_some_iff.1 hj).1; simp at this; omega
      subst this
      rw [List.getElem?_append_right (Nat.le_refl _), Nat.sub_self] at hj
      cases hj
      exact ⟨B, hlo, by rw [List.getElem?_append_right (by omega), h3, Nat.sub_self]; rfl, hB.kept r4 (hne B _ hB)⟩
theorem MsR.away {lo : Nat} {w : World} {v : Value} {ms : List (List UInt32)} (h : MsR lo w v ms) {b : Nat} {l : List Value} {t : TypeId} (hb : Blk w b l t) (ht : t ≠ 22) : ¬ some b = blkO v := fun e => by
  obtain ⟨vals, h1, _⟩ := h
  obtain ⟨l2, hl2⟩ := h1.blk e.symm
  exact hb.ne hl2 ht rfl

theorem zrow3 (w : World) : ∃ W, W = w.alloc (.cells zc3 92) ∧ Keeps (fun _ => False) w W ∧ Blk W w.heap.size zc3.toList 92 ∧ W.heap.size = w.heap.size + 1 :=
  ⟨_, rfl, (Keeps.refl _ w).alloc _, Blk.new w _ 92, by simp⟩
theorem row_set3 {w : World} {O : Nat} {l : List Value} (h : Blk w O l 92) (hl : l.length = 3) (v0 v1 v2 : Value) : ∃ W, W = ((w.setCell ⟨O, 0, none⟩ v0).setCell ⟨O, 1, none⟩ v1).setCell ⟨O, 2, none⟩ v2 ∧ Blk W O [v0, v1, v2] 92 ∧ Keeps (· = O) w W := by
  have k0 := (Keeps.refl (· = O) w).setCell ⟨O, 0, none⟩ v0 fun _ => rfl
  have k1 := k0.setCell ⟨O, 1, none⟩ v1 fun _ => rfl
  have k2 := k1.setCell ⟨O, 2, none⟩ v2 fun _ => rfl
  match l, hl with
  | [a, b, c], _ => exact ⟨_, rfl, ((h.setCell 0 v0).setCell 1 v1).setCell 2 v2, k2⟩

def rowB (d mm : Nat) (P : Nat → List UInt32) : Bool := (List.range d).all fun i => rpB (P i) (decide (i < mm))
theorem rowB_no {d mm : Nat} {P : Nat → List UInt32} {i : Nat} (hi : i < d) (h : rpB (P i) (decide (i < mm)) = false) : rowB d mm P = false := by
  unfold rowB
  rw [List.all_eq_false]
  exact ⟨i, by simpa using hi, by simp [h]⟩
theorem rowB_yes {d mm : Nat} {P : Nat → List UInt32} (h : ∀ i, i < d → rpB (P i) (decide (i < mm)) = true) : rowB d mm P = true := by
  unfold rowB
  rw [List.all_eq_true]
  intro i hi
  exact h i (by simpa using hi)

/-- What a read row answers. -/
def RowP (w : World) (GR : Bool) (f : Int) (ms : List (List UInt32)) (e : Ending) (w' : World) : Prop :=
  (GR = true ∧ ∃ v, e = .returned (.tuple #[.agg #[.int .i64 f, v, .int .u32 0], .bool true]) ∧ MsR w.heap.size w' v ms ∧ Keeps (fun _ => False) w w') ∨
  (GR = false ∧ e = .returned (.tuple #[.agg #[.int .i64 0, .slice none 0 0, .int .u32 0], .bool false]) ∧ Keeps (fun _ => False) w w')

end Go.Proofs.Ytekijhhpldnmnaa
namespace Go.Proofs.Ytekijhhpldnmnaa
open Go.RowKit
set_option linter.unusedVariables false
set_option linter.unusedSimpArgs false

/-- what a round of `row` knows -/
def RoI (w : World) (R O d f mm : Nat) (P : Nat → List UInt32) (j : Nat) (wr : World) (v : Value) : Prop :=
  Keeps (fun _ => False) w wr ∧ Blk wr O zc3.toList 92 ∧ Blk wr R [.int .i64 f, v, .int .u32 0] 92 ∧ MsR w.heap.size wr v ((List.range (min j mm)).map fun i => msgO (P i)) ∧ ∀ i, i < j → rpB (P i) (decide (i < mm)) = true
theorem RoI.call {w : World} {R O d f mm : Nat} {P : Nat → List UInt32} {j : Nat} {wr w1 : World} {v : Value} (h : RoI w R O d f mm P j wr v) (k : Keeps (fun _ => False) wr w1) : RoI w R O d f mm P j w1 v :=
  ⟨h.1.trans k fun _ _ e => e, h.2.1.kept k fun e => e, h.2.2.1.kept k fun e => e, h.2.2.2.1.kept k fun _ _ _ e => e, h.2.2.2.2⟩
theorem RoI.more {w : World} {R O d f mm : Nat} {P : Nat → List UInt32} {j : Nat} {wr : World} {v : Value} (h : RoI w R O d f mm P j wr v) (hj : j < mm) (hp : rpB (P j) (decide (j < mm)) = true) {B : Nat} (hB : Blk wr B (wvs (msgO (P j))) 52) (hlo : w.heap.size ≤ B) (hO : O ≠ R) (hR : w.heap.size ≤ R) (hj8 : j ≤ 100) :
    ∃ v' W', (∀ ty, (Builtin.append_ #[43, 43] ty #[v, .slice (some ⟨wr.heap.size, 0, none⟩) 1 1]).run Try.prog (wr.alloc (.cells #[.slice (some ⟨B, 0, none⟩) (msgO (P j)).length (msgO (P j)).length] 22)) = .ok v' W') ∧ W'.frozen? ⟨R, 1, none⟩ = false ∧ W'.cell? ⟨R, 1, none⟩ = some v ∧ RoI w R O d f mm P (j + 1) (W'.setCell ⟨R, 1, none⟩ v') v' := by
  obtain ⟨h1, h2, h3, h4, h5⟩ := h
  obtain ⟨v', W', r1, r2, r3⟩ := h4.app (msgO (P j)) B hB hlo h1.size (by simp; omega)
  have a2 := h4.away h2 (by decide)
  have a3 := h4.away h3 (by decide)
  have b3 := h3.kept r3 a3
  have b2 := h2.kept r3 a2
  have hk : Keeps (fun _ => False) w W' := h1.trans r3 fun b hb e => by
    obtain ⟨vals, q1, q2, _⟩ := h4
    have := q2 b e.symm; omega
  have ks : Keeps (· = R) W' (W'.setCell ⟨R, 1, none⟩ v') := (Keeps.refl _ W').setCell _ _ fun _ => rfl
  refine ⟨v', W', r1, b3.frozen 1, b3.cell rfl, hk.trans ks fun b hb e => by omega, b2.kept ks hO, b3.setCell 1 v', ?_, fun i hi => ?_⟩
  · have e : (List.range (min (j + 1) mm)).map (fun i => msgO (P i)) = (List.range (min j mm)).map (fun i => msgO (P i)) ++ [msgO (P j)] := by
      rw [Nat.min_eq_left (by omega), Nat.min_eq_left (by omega), List.range_succ]; simp
    rw [e]
    obtain ⟨vals, q1, q2, q3, q4⟩ := r2
    refine ⟨vals, q1.kept ks fun b hb e => ?_, q2, q3, fun i m hi => ?_⟩
    · obtain ⟨l, hl⟩ := q1.blk hb
      exact hl.ne b3 (by decide) e
    · obtain ⟨C, s1, s2, s3⟩ := q4 i m hi
      exact ⟨C, s1, s2, s3.kept ks fun e => s3.ne b3 (by decide) e⟩
  · by_cases e : i = j
    · rw [e]; exact hp
    · exact h5 i (by omega)
theorem RoI.same {w : World} {R O d f mm : Nat} {P : Nat → List UInt32} {j : Nat} {wr : World} {v : Value} (h : RoI w R O d f mm P j wr v) (hj : ¬ j < mm) (hp : rpB (P j) (decide (j < mm)) = true) : RoI w R O d f mm P (j + 1) wr v := by
  obtain ⟨h1, h2, h3, h4, h5⟩ := h
  refine ⟨h1, h2, h3, ?_, fun i hi => ?_⟩
  · rw [Nat.min_eq_right (by omega)]; rw [Nat.min_eq_right (by omega)] at h4; exact h4
  · by_cases e : i = j
    · rw [e]; exact hp
    · exact h5 i (by omega)
theorem RoI.facts {w : World} {R O d f mm : Nat} {P : Nat → List UInt32} {j : Nat} {wr : World} {v : Value} (h : RoI w R O d f mm P j wr v) :
    (wr.cell? ⟨O, 0, none⟩ = some (.int .i64 0) ∧ wr.cell? ⟨O, 1, none⟩ = some (.slice none 0 0) ∧ wr.cell? ⟨O, 2, none⟩ = some (.int .u32 0)) ∧ (wr.frozen? ⟨O, 0, none⟩ = false ∧ wr.frozen? ⟨O, 1, none⟩ = false ∧ wr.frozen? ⟨O, 2, none⟩ = false) ∧
    (wr.cell? ⟨R, 0, none⟩ = some (.int .i64 f) ∧ wr.cell? ⟨R, 1, none⟩ = some v ∧ wr.cell? ⟨R, 2, none⟩ = some (.int .u32 0)) :=
  ⟨⟨h.2.1.cell rfl, h.2.1.cell rfl, h.2.1.cell rfl⟩, ⟨h.2.1.frozen 0, h.2.1.frozen 1, h.2.1.frozen 2⟩, h.2.2.1.cell rfl, h.2.2.1.cell rfl, h.2.2.1.cell rfl⟩
theorem RoI.out {w : World} {R O d f mm : Nat} {P : Nat → List UInt32} {j : Nat} {wr : World} {v : Value} (h : RoI w R O d f mm P j wr v) (hO : O ≠ R) (hlo : w.heap.size ≤ O) (v0 v1 v2 : Value) :
    ∃ W, W = ((wr.setCell ⟨O, 0, none⟩ v0).setCell ⟨O, 1, none⟩ v1).setCell ⟨O, 2, none⟩ v2 ∧ Blk W O [v0, v1, v2] 92 ∧ Keeps (fun _ => False) w W ∧ MsR w.heap.size W v ((List.range (min j mm)).map fun i => msgO (P i)) := by
  obtain ⟨h1, h2, h3, h4, h5⟩ := h
  obtain ⟨W, hW, hB, hk⟩ := row_set3 h2 rfl v0 v1 v2
  refine ⟨W, hW, hB, h1.trans hk fun b hb e => by omega, ?_⟩
  obtain ⟨vals, q1, q2, q3, q4⟩ := h4
  refine ⟨vals, q1.kept hk fun b hb e => ?_, q2, q3, fun i m hi => ?_⟩
  · obtain ⟨l, hl⟩ := q1.blk hb
    exact hl.ne h2 (by decide) e
  · obtain ⟨C, s1, s2, s3⟩ := q4 i m hi
    exact ⟨C, s1, s2, s3.kept hk fun e => s3.ne h2 (by decide) e⟩

end Go.Proofs.Ytekijhhpldnmnaa
