import Derived.Test.YtipejahmjdamjaaGreatDoorWb
import Derived.DeepKeys
namespace Go.Proofs.YtipejahmjdamjaaGreatDoor
open Go.RowKit Go.Shelf
set_option linter.unusedVariables false
set_option maxRecDepth 6000

/-- How often something held till then, and where it held last. -/
def dif (f : Nat → Bool) : Nat → Nat
  | 0 => 0
  | i + 1 => if f i then dif f i + 1 else dif f i
def lst (f : Nat → Bool) : Nat → Nat
  | 0 => 0
  | i + 1 => if f i then i else lst f i

theorem dif_one {f : Nat → Bool} {P : Nat} (h : ∀ j, f j = true → j = P) : ∀ n, (dif f n = 0) ∨ (dif f n = 1 ∧ lst f n = P ∧ P < n ∧ f P = true)
  | 0 => .inl rfl
  | n + 1 => by
    unfold dif lst
    cases hf : f n with
    | true =>
      obtain rfl := h n hf
      rcases dif_one h n with e | ⟨_, _, e, _⟩
      · exact .inr ⟨by simp [e], by simp, by omega, hf⟩
      · omega
    | false =>
      simp only [Bool.false_eq_true, if_false]
      rcases dif_one h n with e | ⟨e1, e2, e3, e4⟩
      · exact .inl e
      · exact .inr ⟨e1, e2, by omega, e4⟩

theorem dif_le {f : Nat → Bool} (n : Nat) : dif f n ≤ n := by
  induction n with
  | zero => exact Nat.le_refl _
  | succ n ih => unfold dif; split <;> omega
theorem lst_le {f : Nat → Bool} (n : Nat) : lst f n ≤ n := by
  induction n with
  | zero => exact Nat.le_refl _
  | succ n ih => unfold lst; split <;> omega

set_option maxHeartbeats 4000000 in
theorem step_err (c tb cb b g n : Nat) (root : Int) (clock : Nat) (rg : List UInt32) (pc : Nat) (ls : List Tl.Lf) (st : Nat → List Int) (FT FC : Nat → Prop) (xs : List UInt32) (w : World) (h : CoreAt w c tb cb rg pc ls st FT FC) (hM : Mn w b g n xs) (hr : ¬ (0 ≤ root ∧ root < n)) :
    Calls Tryz.prog 26 #[ptr c, ptr b, .int .i64 root, .int .u32 clock] w fun e w' => e = .returned (.tuple #[.agg #[.int .i64 0, .int .i64 0, .int .i64 0, .int .u32 0, .int .u32 0, .bool false, .int .u32 0, .int .u32 0], .int .i64 91]) ∧ Keeps (fun _ => False) w w' := by
  obtain ⟨W, hW⟩ : ∃ W, W = w.alloc (.cells #[.int .i64 0, .int .i64 0, .int .i64 0, .int .u32 0, .int .u32 0, .bool false, .int .u32 0, .int .u32 0] 58) := ⟨_, rfl⟩
  have hK : Keeps (fun _ => False) w W := by rw [hW]; exact (Keeps.refl _ w).alloc _
  have hBA : Blk W w.heap.size [.int .i64 0, .int .i64 0, .int .i64 0, .int .u32 0, .int .u32 0, .bool false, .int .u32 0, .int .u32 0] 58 := by rw [hW]; exact Blk.new w _ 58
  have hMW := hM.grown hK
  have HFr : Hid (Calls Tryz.prog 34 #[ptr b] W fun e w' => e = .returned (.int .i64 n) ∧ w' = W) := frames_any b g xs n W hMW.mm hMW.len
  have HW : Hid (W = w.alloc (.cells #[.int .i64 0, .int .i64 0, .int .i64 0, .int .u32 0, .int .u32 0, .bool false, .int .u32 0, .int .u32 0] 58)) := hW
  have HB : Hid (Keeps (fun _ => False) w W ∧ Blk W w.heap.size [.int .i64 0, .int .i64 0, .int .i64 0, .int .u32 0, .int .u32 0, .bool false, .int .u32 0, .int .u32 0] 58) := ⟨hK, hBA⟩
  have y0 := hBA.cell (i := 0) rfl
  have x0 := hBA.frozen 0
  have y1 := hBA.cell (i := 1) rfl
  have x1 := hBA.frozen 1
  have y2 := hBA.cell (i := 2) rfl
  have x2 := hBA.frozen 2
  have y3 := hBA.cell (i := 3) rfl
  have x3 := hBA.frozen 3
  have y4 := hBA.cell (i := 4) rfl
  have x4 := hBA.frozen 4
  have y5 := hBA.cell (i := 5) rfl
  have x5 := hBA.frozen 5
  have y6 := hBA.cell (i := 6) rfl
  have x6 := hBA.frozen 6
  have y7 := hBA.cell (i := 7) rfl
  have x7 := hBA.frozen 7
  clear h hM hK hBA hMW hW
  by_cases h0 : root < 0
  · have g1 : decide (root < 0) = true := decide_eq_true h0
    clear hr h0
    go_enter Tryz.func26, Tryz.ntmps26
    go_upto_region 3 with fail
    rw [← HW.out]
    go_wp2
    obtain ⟨hT1, hT2⟩ := act_told HB.out.2 (.int .i64 0) (.int .i64 0) (.int .i64 0) (.int .u32 0) (.int .u32 0) (.bool false) (.int .u32 0) (.int .u32 0)
    refine bodyPost_ret (results_cell_tmp (p := 8) (u := 9) (ty := 58) rfl _ _ ⟨w.heap.size, 0, none⟩ _ rfl (load_act hT1 rfl)) rfl ?_
    exact ⟨rfl, HB.out.1.trans hT2 fun k hk e => by omega⟩
  · have g1 : decide (root < 0) = false := decide_eq_false h0
    have g2 : decide ((n : Int) ≤ root) = true := decide_eq_true (by omega)
    clear hr h0
    go_enter Tryz.func26, Tryz.ntmps26
    go_upto_region 3 with fail
    rw [← HW.out]
    go_wp2_with fail
    refine HFr.out.mono ?_
    rintro e W' ⟨rfl, hw⟩
    obtain rfl := hw.symm
    clear hw
    go_wp2
    obtain ⟨hT1, hT2⟩ := act_told HB.out.2 (.int .i64 0) (.int .i64 0) (.int .i64 0) (.int .u32 0) (.int .u32 0) (.bool false) (.int .u32 0) (.int .u32 0)
    refine bodyPost_ret (results_cell_tmp (p := 8) (u := 9) (ty := 58) rfl _ _ ⟨w.heap.size, 0, none⟩ _ rfl (load_act hT1 rfl)) rfl ?_
    exact ⟨rfl, HB.out.1.trans hT2 fun k hk e => by omega⟩

theorem sameWords_any (g h : Nat) (xs : List UInt32) (c d : Nat) (w : World) (h1 : Blk w g (wvs xs) 37) (h2 : Blk w h (wvs xs) 37) (hl : xs.length ≤ 16384) :
    Calls Tryz.prog 32 #[.slice (some ⟨g, 0, none⟩) xs.length c, .slice (some ⟨h, 0, none⟩) xs.length d] w fun e w' => e = .returned (.bool true) ∧ Keeps (fun _ => False) w w' := by
  obtain ⟨n, hn⟩ : ∃ n, n = xs.length := ⟨_, rfl⟩
  have HN : Hid (n = xs.length) := hn
  rw [← hn] at hl ⊢
  have H1 : Hid (Blk _ _ _ _) := h1
  have H2 : Hid (Blk _ _ _ _) := h2
  have hn1 : (n : Int) ≤ 16384 := by omega
  clear hn h1 h2 hl
  go_enter Tryz.func32, Tryz.ntmps32
  go_wp2
  go_loopw [5] (fun i wr => ∃ j : Nat, j ≤ n ∧ i = .int .i64 j ∧ Keeps (fun _ => False) w wr)
    (fun i _ => n - (Ch.intOf i).toNat)
  case atStart => exact ⟨0, by omega, rfl, Keeps.refl _ _⟩
  case round =>
    obtain ⟨j, hj, rfl, hKr⟩ := hrel
    have HK : Hid (Keeps (fun _ => False) w wr) := hKr
    clear hKr
    by_cases hlt : j < n
    · have hjx : j < xs.length := by have := HN.out; omega
      have c1 := (H1.out.kept HK.out (fun e => e)).cell (wvs_get xs j hjx)
      have c2 := (H2.out.kept HK.out (fun e => e)).cell (wvs_get xs j hjx)
      obtain ⟨v, hv⟩ : ∃ v : Nat, v = (xs[j]).toNat := ⟨_, rfl⟩
      rw [← hv] at c1 c2
      clear hv
      go_wp2
      go_quiet (fail)
      go_wp2
      go_roundw
      case rel => exact ⟨j + 1, by omega, by go_num, HK.out.drewN _⟩
      case measure => simp [Ch.intOf]; omega
    · obtain rfl : j = n := by omega
      go_wp2
      go_ret
      exact ⟨rfl, HK.out⟩

end Go.Proofs.YtipejahmjdamjaaGreatDoor
namespace Go.Proofs.YtipejahmjdamjaaGreatDoor
open Go.RowKit Go.Shelf
set_option linter.unusedVariables false
set_option maxRecDepth 6000

theorem wf_u32 (n : Nat) (h : n < 4294967296) : (Lit.int .u32 (n : Int)).wf = true := by
  have h1 : IntKind.u32.min = 0 := rfl
  have h2 : IntKind.u32.max = 4294967295 := rfl
  simp only [Lit.wf, h1, h2, Bool.and_eq_true, decide_eq_true_eq]
  omega

theorem lit_one (d n : Nat) (h : n < 4294967296) : (Tryz.prog.keyLits (d + 1) 37 [.int .u32 (n : Int)]).isSome = true := by
  unfold Program.keyLits
  rw [show Tryz.prog.underlying 37 = some (.int .u32) from Tryz.underlying37]
  simp [wf_u32 n h]

theorem mapM_isSome {α β : Type} {f : α → Option β} : ∀ {l : List α}, (∀ a ∈ l, (f a).isSome = true) → (l.mapM f).isSome = true
  | [], _ => by simp
  | a :: l, h => by
    obtain ⟨b, hb⟩ := Option.isSome_iff_exists.1 (h a (by simp))
    obtain ⟨bs, hbs⟩ := Option.isSome_iff_exists.1 (mapM_isSome (l := l) fun x hx => h x (by simp [hx]))
    simp [hb, hbs]

theorem lits_arr (d : Nat) (rg : List UInt32) (h : rg.length = 16) : (Tryz.prog.keyLits (d + 2) 38 (wvs rg)).isSome = true := by
  unfold Program.keyLits
  rw [Tryz.underlying38]
  have hc : Tryz.prog.cellsOf 38 = 16 := by kernel_rfl
  have hc1 : Tryz.prog.cellsOf 37 = 1 := by kernel_rfl
  dsimp only
  rw [if_pos (by rw [hc, wvs_length, h]), Option.isSome_map]
  refine mapM_isSome fun i hi => ?_
  have hi' : i < rg.length := by rw [h]; simpa using hi
  rw [hc1, Nat.mul_one, show ((wvs rg).drop i).take 1 = [.int .u32 (rg[i].toNat : Int)] from ?_]
  · exact lit_one d _ (rg_lt _)
  · rw [List.take_one, List.head?_drop, wvs_get rg i hi']; rfl

theorem key_ctx (rg : List UInt32) (pc : Nat) (h : rg.length = 16) (hp : pc < 4294967296) : ∃ l, keyOf Tryz.prog 40 (.agg (ctx rg pc).toArray) = some l := by
  refine Option.isSome_iff_exists.1 ?_
  unfold keyOf
  rw [Tryz.underlying40]
  have hc : Tryz.prog.cellsOf 40 = 17 := by kernel_rfl
  dsimp only
  rw [if_pos]
  · rw [Option.isSome_map]
    unfold Program.keyLits
    rw [Tryz.underlying40]
    dsimp only
    rw [if_pos ⟨by show (ctx rg pc).length = _; rw [hc, ctx_len h], by kernel_rfl⟩, Option.isSome_map]
    refine mapM_isSome fun f hf => ?_
    have hc38 : Tryz.prog.cellsOf 38 = 16 := by kernel_rfl
    have hc37 : Tryz.prog.cellsOf 37 = 1 := by kernel_rfl
    have hsz : Tryz.prog.types.size = 265 + 2 := by kernel_rfl
    have hcs : (Value.agg (ctx rg pc).toArray).cells.toList = ctx rg pc := rfl
    rw [hcs, hsz]
    simp only [List.mem_cons, List.not_mem_nil, or_false] at hf
    rcases hf with rfl | rfl
    · dsimp only
      rw [hc38, List.drop_zero, show (ctx rg pc).take 16 = wvs rg by unfold ctx; rw [List.take_append_of_le_length (by rw [wvs_length, h]; omega), List.take_of_length_le (by rw [wvs_length, h]; omega)]]
      exact lits_arr 265 rg h
    · dsimp only
      rw [hc37, show ((ctx rg pc).drop 16).take 1 = [.int .u32 (pc : Int)] by unfold ctx; rw [List.drop_append_of_le_length (by rw [wvs_length, h]; omega), List.drop_of_length_le (by rw [wvs_length, h]; omega)]; rfl]
      exact lit_one 266 pc hp
  · rw [show Tryz.prog.keyType 40 = true by kernel_rfl, Bool.true_and]
    unfold Value.formed
    rw [Tryz.underlying40]
    show ((ctx rg pc).toArray.size == Tryz.prog.cellsOf 40) = true
    rw [hc, List.size_toArray, ctx_len h]; rfl

theorem eq_ctx (rg : List UInt32) (pc : Nat) (h : rg.length = 16) (hp : pc < 4294967296) (w : World) : (Op.equal 40 (.agg (ctx rg pc).toArray) (.agg (ctx rg pc).toArray)).run Tryz.prog w = .ok true w := by
  obtain ⟨l, hl⟩ := key_ctx rg pc h hp
  obtain ⟨r, h1, h2⟩ := run_equal_deep (P := Tryz.prog) w (m := 5) (by omega) (k := 40) (by kernel_rfl) (by kernel_rfl) hl hl
  rw [h1, h2.2 rfl]

theorem neq_ctx (rg : List UInt32) (pc : Nat) (h : rg.length = 16) (hp : pc < 4294967296) (w : World) : (binOp .neq 40 (.agg (ctx rg pc).toArray) (.agg (ctx rg pc).toArray)).run Tryz.prog w = .ok (.bool false) w := by
  simp only [binOp]
  simp [eq_ctx rg pc h hp]
theorem eql_ctx (rg : List UInt32) (pc : Nat) (h : rg.length = 16) (hp : pc < 4294967296) (w : World) : (binOp .eql 40 (.agg (ctx rg pc).toArray) (.agg (ctx rg pc).toArray)).run Tryz.prog w = .ok (.bool true) w := by
  simp only [binOp]
  simp [eq_ctx rg pc h hp]

end Go.Proofs.YtipejahmjdamjaaGreatDoor
