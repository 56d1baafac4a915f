import Derived.Test.YtipejahmjdamjaaGreatDoorWb
namespace Go.Proofs.YtipejahmjdamjaaGreatDoor
open Go.RowKit Go.Shelf
set_option linter.unusedVariables false
set_option maxRecDepth 6000

/-- How often something held till then, and where it held last. -/
def dif (f : Nat → Bool) : Nat → Nat
  | 0 => 0
  | i + 1 => if f i then dif f i + 1 else dif f i
def lst (f : Nat → Bool) : Nat → Nat
  | 0 => 0
  | i + 1 => if f i then i else lst f i

theorem dif_one {f : Nat → Bool} {P : Nat} (h : ∀ j, f j = true → j = P) : ∀ n, (dif f n = 0) ∨ (dif f n = 1 ∧ lst f n = P ∧ P < n ∧ f P = true)
  | 0 => .inl rfl
  | n + 1 => by
    unfold dif lst
    cases hf : f n with
    | true =>
      obtain rfl := h n hf
      rcases dif_one h n with e | ⟨_, _, e, _⟩
      · exact .inr ⟨by simp [e], by simp, by omega, hf⟩
      · omega
    | false =>
      simp only [Bool.false_eq_true, if_false]
      rcases dif_one h n with e | ⟨e1, e2, e3, e4⟩
      · exact .inl e
      · exact .inr ⟨e1, e2, by omega, e4⟩

theorem dif_le {f : Nat → Bool} (n : Nat) : dif f n ≤ n := by
  induction n with
  | zero => exact Nat.le_refl _
  | succ n ih => unfold dif; split <;> omega
theorem lst_le {f : Nat → Bool} (n : Nat) : lst f n ≤ n := by
  induction n with
  | zero => exact Nat.le_refl _
  | succ n ih => unfold lst; split <;> omega

set_option maxHeartbeats 4000000 in
theorem step_err (c tb cb b g n : Nat) (root : Int) (clock : Nat) (rg : List UInt32) (pc : Nat) (ls : List Tl.Lf) (st : Nat → List Int) (FT FC : Nat → Prop) (xs : List UInt32) (w : World) (h : CoreAt w c tb cb rg pc ls st FT FC) (hM : Mn w b g n xs) (hr : ¬ (0 ≤ root ∧ root < n)) :
    Calls Tryz.prog 26 #[ptr c, ptr b, .int .i64 root, .int .u32 clock] w fun e w' => e = .returned (.tuple #[.agg #[.int .i64 0, .int .i64 0, .int .i64 0, .int .u32 0, .int .u32 0, .bool false, .int .u32 0, .int .u32 0], .int .i64 91]) ∧ Keeps (fun _ => False) w w' := by
  obtain ⟨W, hW⟩ : ∃ W, W = w.alloc (.cells #[.int .i64 0, .int .i64 0, .int .i64 0, .int .u32 0, .int .u32 0, .bool false, .int .u32 0, .int .u32 0] 58) := ⟨_, rfl⟩
  have hK : Keeps (fun _ => False) w W := by rw [hW]; exact (Keeps.refl _ w).alloc _
  have hBA : Blk W w.heap.size [.int .i64 0, .int .i64 0, .int .i64 0, .int .u32 0, .int .u32 0, .bool false, .int .u32 0, .int .u32 0] 58 := by rw [hW]; exact Blk.new w _ 58
  have hMW := hM.grown hK
  have HFr : Hid (Calls Tryz.prog 34 #[ptr b] W fun e w' => e = .returned (.int .i64 n) ∧ w' = W) := frames_any b g xs n W hMW.mm hMW.len
  have HW : Hid (W = w.alloc (.cells #[.int .i64 0, .int .i64 0, .int .i64 0, .int .u32 0, .int .u32 0, .bool false, .int .u32 0, .int .u32 0] 58)) := hW
  have HB : Hid (Keeps (fun _ => False) w W ∧ Blk W w.heap.size [.int .i64 0, .int .i64 0, .int .i64 0, .int .u32 0, .int .u32 0, .bool false, .int .u32 0, .int .u32 0] 58) := ⟨hK, hBA⟩
  have y0 := hBA.cell (i := 0) rfl
  have x0 := hBA.frozen 0
  have y1 := hBA.cell (i := 1) rfl
  have x1 := hBA.frozen 1
  have y2 := hBA.cell (i := 2) rfl
  have x2 := hBA.frozen 2
  have y3 := hBA.cell (i := 3) rfl
  have x3 := hBA.frozen 3
  have y4 := hBA.cell (i := 4) rfl
  have x4 := hBA.frozen 4
  have y5 := hBA.cell (i := 5) rfl
  have x5 := hBA.frozen 5
  have y6 := hBA.cell (i := 6) rfl
  have x6 := hBA.frozen 6
  have y7 := hBA.cell (i := 7) rfl
  have x7 := hBA.frozen 7
  clear h hM hK hBA hMW hW
  by_cases h0 : root < 0
  · have g1 : decide (root < 0) = true := decide_eq_true h0
    clear hr h0
    go_enter Tryz.func26, Tryz.ntmps26
    go_upto_region 3 with fail
    rw [← HW.out]
    go_wp2
    obtain ⟨hT1, hT2⟩ := act_told HB.out.2 (.int .i64 0) (.int .i64 0) (.int .i64 0) (.int .u32 0) (.int .u32 0) (.bool false) (.int .u32 0) (.int .u32 0)
    refine bodyPost_ret (results_cell_tmp (p := 8) (u := 9) (ty := 58) rfl _ _ ⟨w.heap.size, 0, none⟩ _ rfl (load_act hT1 rfl)) rfl ?_
    exact ⟨rfl, HB.out.1.trans hT2 fun k hk e => by omega⟩
  · have g1 : decide (root < 0) = false := decide_eq_false h0
    have g2 : decide ((n : Int) ≤ root) = true := decide_eq_true (by omega)
    clear hr h0
    go_enter Tryz.func26, Tryz.ntmps26
    go_upto_region 3 with fail
    rw [← HW.out]
    go_wp2_with fail
    refine HFr.out.mono ?_
    rintro e W' ⟨rfl, hw⟩
    obtain rfl := hw.symm
    clear hw
    go_wp2
    obtain ⟨hT1, hT2⟩ := act_told HB.out.2 (.int .i64 0) (.int .i64 0) (.int .i64 0) (.int .u32 0) (.int .u32 0) (.bool false) (.int .u32 0) (.int .u32 0)
    refine bodyPost_ret (results_cell_tmp (p := 8) (u := 9) (ty := 58) rfl _ _ ⟨w.heap.size, 0, none⟩ _ rfl (load_act hT1 rfl)) rfl ?_
    exact ⟨rfl, HB.out.1.trans hT2 fun k hk e => by omega⟩

theorem sameWords_any (g h : Nat) (xs : List UInt32) (c d : Nat) (w : World) (h1 : Blk w g (wvs xs) 37) (h2 : Blk w h (wvs xs) 37) (hl : xs.length ≤ 16384) :
    Calls Tryz.prog 32 #[.slice (some ⟨g, 0, none⟩) xs.length c, .slice (some ⟨h, 0, none⟩) xs.length d] w fun e w' => e = .returned (.bool true) ∧ Keeps (fun _ => False) w w' := by
  obtain ⟨n, hn⟩ : ∃ n, n = xs.length := ⟨_, rfl⟩
  have HN : Hid (n = xs.length) := hn
  rw [← hn] at hl ⊢
  have H1 : Hid (Blk _ _ _ _) := h1
  have H2 : Hid (Blk _ _ _ _) := h2
  have hn1 : (n : Int) ≤ 16384 := by omega
  clear hn h1 h2 hl
  go_enter Tryz.func32, Tryz.ntmps32
  go_wp2
  go_loopw [5] (fun i wr => ∃ j : Nat, j ≤ n ∧ i = .int .i64 j ∧ Keeps (fun _ => False) w wr)
    (fun i _ => n - (Ch.intOf i).toNat)
  case atStart => exact ⟨0, by omega, rfl, Keeps.refl _ _⟩
  case round =>
    obtain ⟨j, hj, rfl, hKr⟩ := hrel
    have HK : Hid (Keeps (fun _ => False) w wr) := hKr
    clear hKr
    by_cases hlt : j < n
    · have hjx : j < xs.length := by have := HN.out; omega
      have c1 := (H1.out.kept HK.out (fun e => e)).cell (wvs_get xs j hjx)
      have c2 := (H2.out.kept HK.out (fun e => e)).cell (wvs_get xs j hjx)
      obtain ⟨v, hv⟩ : ∃ v : Nat, v = (xs[j]).toNat := ⟨_, rfl⟩
      rw [← hv] at c1 c2
      clear hv
      go_wp2
      go_quiet (fail)
      go_wp2
      go_roundw
      case rel => exact ⟨j + 1, by omega, by go_num, HK.out.drewN _⟩
      case measure => simp [Ch.intOf]; omega
    · obtain rfl : j = n := by omega
      go_wp2
      go_ret
      exact ⟨rfl, HK.out⟩

end Go.Proofs.YtipejahmjdamjaaGreatDoor
