import Derived.Test.YtadhldpeklkcmaaRc
import Derived.Test.YtadhldpeklkcmaaJ
namespace Go.Proofs.Ytadhldpeklkcmaa
open Go.RowKit
set_option linter.unusedVariables false

/-- append(nil, s...): a row of one's own. -/
theorem nil_app_ints (a : Option Addr) (c : Nat) (xs : List Int) (w : World) (hx : SegI w a xs) (hl : xs.length ≤ 4294967296) :
    ∃ v' W', (∀ ty, (Builtin.append_ #[27, 27] ty #[.slice none 0 0, .slice a xs.length c]).run Try.prog w = .ok v' W') ∧ CloneP w 3 (ivs xs) xs.length (.returned v') W' := by
  obtain ⟨i0, hi, hz0, hz1, hz2⟩ := info_parts Try.info3
  have hown : w.ownsRow 0 3 1 (.slice none 0 0) 0 [] := ⟨rfl, .inl ⟨rfl, rfl⟩⟩
  have hx0 := hx
  rcases hx with rfl | ⟨g, o, rfl, hc⟩
  · refine ⟨.slice none 0 0, w, fun ty => ?_, _, rfl, hown, .inl rfl, Keeps.refl _ _⟩
    cases a with
    | none => exact append_none 27 3 i0 1 Try.underlying27 hi hz1 (by omega) (.slice none 0 0) 0 c [] hown ty
    | some ad => simp [Builtin.append_, run_underlying Try.underlying27, sizeOf, typeInfo, hi, hz1, Builtin.lenOf, run_firstCells_some (P := Try.prog) w 1 0 ad 0 c [] rfl (by intro j v h; cases h)]
  · obtain ⟨v', W', h1, h2, h3, h4⟩ := append_many 27 3 i0 (.int .i64 0) 1 8 Try.underlying27 hi hz0 hz1 hz2 rfl (by omega) (.slice none 0 0) 0 [] hown ⟨g, o, none⟩ xs.length c (ivs xs) (by rw [ivs_length]; omega) (by
      intro j u hj
      rcases segI_cells hx0 with h | ⟨b, p, e, hb⟩
      · rw [h] at hj; cases hj
      · cases e
        rw [addr_add]
        exact hb j u hj) (ivs_one xs) (by unfold maxLen; omega) (by omega)
    rw [Nat.zero_add, List.nil_append] at h2
    refine ⟨v', W', h1, v', rfl, h2, ?_, h4.mono fun b _ e => by cases e⟩
    rcases h3 with h | h
    · exact .inl h
    · exact .inr h

/-- append(nil, s...): a row of one's own. -/
theorem nil_app_words (a : Option Addr) (c : Nat) (xs : List UInt32) (w : World) (hx : SegW w a xs) (hl : xs.length ≤ 4294967296) :
    ∃ v' W', (∀ ty, (Builtin.append_ #[28, 28] ty #[.slice none 0 0, .slice a xs.length c]).run Try.prog w = .ok v' W') ∧ CloneP w 26 (wvs xs) xs.length (.returned v') W' := by
  obtain ⟨i0, hi, hz0, hz1, hz2⟩ := info_parts Try.info26
  have hown : w.ownsRow 0 26 1 (.slice none 0 0) 0 [] := ⟨rfl, .inl ⟨rfl, rfl⟩⟩
  have hx0 := hx
  rcases hx with rfl | ⟨g, o, rfl, hc⟩
  · refine ⟨.slice none 0 0, w, fun ty => ?_, _, rfl, hown, .inl rfl, Keeps.refl _ _⟩
    cases a with
    | none => exact append_none 28 26 i0 1 Try.underlying28 hi hz1 (by omega) (.slice none 0 0) 0 c [] hown ty
    | some ad => simp [Builtin.append_, run_underlying Try.underlying28, sizeOf, typeInfo, hi, hz1, Builtin.lenOf, run_firstCells_some (P := Try.prog) w 1 0 ad 0 c [] rfl (by intro j v h; cases h)]
  · obtain ⟨v', W', h1, h2, h3, h4⟩ := append_many 28 26 i0 (.int .u32 0) 1 4 Try.underlying28 hi hz0 hz1 hz2 rfl (by omega) (.slice none 0 0) 0 [] hown ⟨g, o, none⟩ xs.length c (wvs xs) (by rw [wvs_length]; omega) (by
      intro j u hj
      rcases segW_cells hx0 with h | ⟨b, p, e, hb⟩
      · rw [h] at hj; cases hj
      · cases e
        rw [addr_add]
        exact hb j u hj) (wvs_one xs) (by unfold maxLen; omega) (by omega)
    rw [Nat.zero_add, List.nil_append] at h2
    refine ⟨v', W', h1, v', rfl, h2, ?_, h4.mono fun b _ e => by cases e⟩
    rcases h3 with h | h
    · exact .inl h
    · exact .inr h

theorem owns_segW' {w : World} {a : Option Addr} {c : Nat} {zs : List UInt32} (h : w.ownsRow 0 26 1 (.slice a zs.length c) zs.length (wvs zs)) : SegW w a zs := by
  by_cases h0 : zs.length = 0
  · exact .inl (List.eq_nil_of_length_eq_zero h0)
  · obtain ⟨g, h1, h2⟩ := owns_cell h (wvs_get zs 0 (by omega))
    refine .inr ⟨g, 0, h1, fun j hj => ?_⟩
    obtain ⟨g', h1', h2'⟩ := owns_cell h (wvs_get zs j hj)
    rw [h1] at h1'
    cases h1'
    rw [Nat.zero_add]; exact h2'

theorem Chn.Rn.allN {X : Chn} {w : World} (h : X.Rn w) : allB X = ((heldN X.tk X.st : Int) == (X.lk.length : Int)) := by
  unfold allB heldN
  rcases h.wf with h1 | h1 | h1
  · rw [if_neg (by omega), decide_eq_true h1.1, h1.2]; simp
  · rw [if_neg (by omega), decide_eq_false (by omega), beq_eq_false_iff_ne.2 (by omega)]
  · rw [if_pos h1.1, decide_eq_false (by omega), beq_eq_false_iff_ne.2 (by omega)]

set_option maxHeartbeats 400000 in
theorem rall_any (X : Chn) (w : World) (h : X.Rn w) :
    Calls Try.prog 51 #[.pointer (some ⟨X.b, 0, none⟩)] w fun e w' => e = .returned (.bool (allB X)) ∧ Keeps (fun _ => False) w w' := by
  obtain ⟨al, cl, hvl, hcl, hcl2⟩ := h.vlS
  have c0 := h.blk.cell (i := 0) rfl
  have c1 := h.blk.cell (i := 1) rfl
  rw [hvl] at c0
  have HB : Hid (allB X = _) := h.allN
  obtain ⟨hd, hhd⟩ : ∃ hd, hd = heldN X.tk X.st := ⟨_, rfl⟩
  obtain ⟨nl, hnl⟩ : ∃ nl, nl = X.lk.length := ⟨_, rfl⟩
  rw [← hhd] at c1 HB
  rw [← hnl] at c0 HB
  clear h hvl hcl hcl2 hhd hnl
  go_enter Try.func51, Try.ntmps51
  go_wp2_with fail
  go_quiet (fail)
  go_wp2
  go_ret
  exact ⟨ret_bool (by rw [HB.out]), (Keeps.refl _ _).drewN _⟩

set_option maxHeartbeats 1000000 in
theorem rstate_any (X : Chn) (w : World) (h : X.Rn w) :
    Calls Try.prog 39 #[.pointer (some ⟨X.b, 0, none⟩)] w (StateP X w) := by
  obtain ⟨at', ct, hvt, hct, hct2⟩ := h.vtS
  have c1 := h.blk.cell (i := 1) rfl
  have c2 := h.blk.cell (i := 2) rfl
  have c3 := h.blk.cell (i := 3) rfl
  rw [hvt] at c3
  have hsm : X.tk.length ≤ 4294967296 := by have := h.small; rcases h.wf with h | h | h <;> omega
  have htr := h.trow
  rw [hvt] at htr
  obtain ⟨v', W', hap, v'', hv, how, hfr, hk⟩ := nil_app_words at' ct X.tk w (owns_segW' htr) hsm
  cases hv
  obtain ⟨a', c', rfl, -, -⟩ := owns_slice how
  have hB := h.blk.kept hk (fun e => e)
  have d1 := hB.cell (i := 1) rfl
  have d2 := hB.cell (i := 2) rfl
  have HF : Hid (∀ n, StateP X w (.returned (.tuple #[.int .i64 (heldN X.tk X.st : Nat), .bool (askedB X.st), .slice a' X.tk.length c'])) (W'.drewN n)) := fun n => ⟨_, rfl, owns_kept how ((Keeps.refl (fun _ => False) _).drewN n) (fun _ _ e => e), hfr, hk.drewN n⟩
  obtain ⟨nt, hnt⟩ : ∃ nt, nt = X.tk.length := ⟨_, rfl⟩
  obtain ⟨hd, hhd⟩ : ∃ hd, hd = heldN X.tk X.st := ⟨_, rfl⟩
  obtain ⟨aB, haB⟩ : ∃ aB, aB = askedB X.st := ⟨_, rfl⟩
  rw [← hnt] at hap c3 HF
  rw [← hhd] at HF d1
  rw [← haB] at HF d2
  have HAP : Hid (∀ ty, _) := hap
  clear h hvt hct hct2 hsm htr hap how hfr hk hB hnt hhd haB c1 c2
  go_enter Try.func39, Try.ntmps39
  go_wp2_with (at_builtin; go_must (refine wpList_append_run rfl (.tmp 8) (.tmp 12) 28 28 rfl (.slice none 0 0) (.slice at' nt ct) (.slice a' nt c') W' rfl rfl HAP.out ?_; refine Hid.out ?_))
  unfold Hid
  clear HAP c3
  go_wp2_with fail
  have hS0 : W'.cell? ⟨X.b, 1, none⟩ = some (.int .i64 (hd : Int)) ∧ W'.cell? ⟨X.b, 2, none⟩ = some (.bool aB) := ⟨d1, d2⟩
  go_region_held3 (fun w' => w'.cell? ⟨X.b, 1, none⟩ = some (.int .i64 (hd : Int)) ∧ w'.cell? ⟨X.b, 2, none⟩ = some (.bool aB)) (first | exact hS0 | go_keep) (fail)
  go_wp2
  go_ret3
  exact HF.out 1

/-- A chain of the document was made. -/
def RkP (lk : List Int) (tk : List UInt32) (st : Nat) (w : World) (X : Chn) (w' : World) : Prop :=
  X.lk = lk ∧ X.tk = tk ∧ X.st = st ∧ X.Rn w' ∧ (∀ k, X.F k → w.heap.size ≤ k) ∧ Keeps (fun _ => False) w w'

set_option maxHeartbeats 1000000 in
theorem rnewc_any (a : Option Addr) (c : Nat) (zs : List Int) (w : World) (hx : SegI w a zs) (hl : zs.length ≤ 4294967296) :
    Calls Try.prog 43 #[.slice a zs.length c] w fun e w' => ∃ X, e = .returned (.pointer (some ⟨X.b, 0, none⟩)) ∧ X.vt = .slice none 0 0 ∧ RkP zs [] (settledN zs []) w X w' := by
  obtain ⟨w1, hw1⟩ : ∃ w1, w1 = w.alloc (.cells #[.slice none 0 0, .int .i64 0, .bool false, .slice none 0 0] 93) := ⟨_, rfl⟩
  have hk1 : Keeps (fun _ => False) w w1 := by rw [hw1]; exact (Keeps.refl _ _).alloc _
  have hB1 : Blk w1 w.heap.size [.slice none 0 0, .int .i64 0, .bool false, .slice none 0 0] 93 := by rw [hw1]; exact Blk.new w _ 93
  obtain ⟨v', W', hap, v'', hv, how, hfr, hk⟩ := nil_app_ints a c zs w1 (hx.kept hk1 fun _ _ e => e) hl
  cases hv
  obtain ⟨a', c', rfl, -, -⟩ := owns_slice how
  have hBW := hB1.kept hk (fun e => e)
  have f0 := hBW.cell (i := 0) rfl
  have z0 := hBW.frozen 0
  obtain ⟨n, hn⟩ : ∃ n, n = zs.length := ⟨_, rfl⟩
  have HF : Hid (∃ X, Ending.returned (.pointer (some ⟨w.heap.size, 0, none⟩)) = .returned (.pointer (some ⟨X.b, 0, none⟩)) ∧ X.vt = .slice none 0 0 ∧ RkP zs [] (settledN zs []) w X (W'.setCell ⟨w.heap.size, 0, none⟩ (.slice a' zs.length c'))) := by
    have hsz1 : w1.heap.size = w.heap.size + 1 := by rw [hw1]; simp
    have hKB : Keeps (· = w.heap.size) W' (W'.setCell ⟨w.heap.size, 0, none⟩ (.slice a' zs.length c')) := (Keeps.refl _ _).setCell _ _ fun _ => rfl
    have hob : ∀ k, (Value.slice a' zs.length c').ownBlock = some k → w.heap.size < k := by
      intro k hk'
      rcases hfr with h | ⟨k', h, h2⟩
      · rw [h] at hk'; cases hk'
      · rw [h] at hk'; cases hk'; omega
    refine ⟨⟨w.heap.size, .slice a' zs.length c', .slice none 0 0, zs, [], settledN zs []⟩, rfl, rfl, rfl, rfl, rfl, ⟨?_, owns_kept how hKB ?_, ⟨rfl, .inl ⟨rfl, rfl⟩⟩, ?_, (fun h => by cases h), (fun _ _ h => by cases h), hl, ?_⟩, ?_, ?_⟩
    · have e1 : heldN [] (settledN zs []) = 0 := by unfold heldN; split <;> rfl
      have e2 : askedB (settledN zs []) = false := by unfold askedB settledN; split <;> rfl
      show Blk _ w.heap.size [.slice a' zs.length c', .int .i64 (heldN [] (settledN zs []) : Nat), .bool (askedB (settledN zs [])), .slice none 0 0] 93
      rw [e1, e2]
      exact hBW.setCell 0 _
    · intro k hk' e; have := hob k hk'; omega
    · intro h; have := hob _ h; simp at this
    · show StOk zs.length 0 (settledN zs [])
      unfold settledN
      split
      · rename_i h; exact .inl ⟨rfl, h⟩
      · rename_i h
        simp only [List.length_nil] at h
        exact .inr (.inl ⟨rfl, by omega⟩)
    · rintro k (rfl | h | h)
      · exact Nat.le_refl _
      · have := hob k h; omega
      · cases h
    · exact ((hk1.trans hk fun _ _ e => e).setCell _ _ fun h => by simp at h)
  rw [hw1] at hap
  rw [← hn] at hap HF ⊢
  have HAP : Hid (∀ ty, _) := hap
  clear hx hl hk1 hB1 hap how hfr hk hBW hn hw1
  go_enter Try.func43, Try.ntmps43
  go_wp2_with (at_builtin; go_must (refine wpList_append_run rfl (.tmp 10) (.tmp 11) 27 27 rfl (.slice none 0 0) (.slice a n c) (.slice a' n c') W' rfl rfl HAP.out ?_; refine Hid.out ?_))
  unfold Hid
  clear HAP
  go_wp2
  go_ret
  exact HF.out

end Go.Proofs.Ytadhldpeklkcmaa
