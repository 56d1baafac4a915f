import Derived.Test.YtpccdhoaicabcaaA
namespace Go.Proofs.Ytpccdhoaicabcaa
open Go.RowKit
set_option linter.unusedVariables false

theorem at0_in {L p n : Nat} (h : p + n ≤ L) (hn : 0 < n) : at0 L p = p := if_pos (by omega)
theorem at0_fit {L p n : Nat} (h : p + n ≤ L) : at0 L p + n ≤ L := by unfold at0; split <;> omega
theorem lay_at0 (xs : List UInt32) (p : Nat) (ys : List UInt32) (h : p + ys.length ≤ xs.length) : lay xs (at0 xs.length p) ys = lay xs p ys := by
  by_cases h0 : 0 < ys.length
  · rw [at0_in h h0]
  · obtain rfl : ys = [] := List.eq_nil_of_length_eq_zero (by omega)
    simp [lay]
theorem rep_wvs (xs : List UInt32) (p n : Nat) (x : UInt32) : List.take p (wvs xs) ++ List.replicate n (Value.int .u32 (x.toNat : Int)) ++ List.drop (p + n) (wvs xs) = List.take p (wvs xs) ++ wvs (List.replicate n x) ++ List.drop (p + (List.replicate n x).length) (wvs xs) := by
  rw [wvs_rep, List.length_replicate]

theorem ret_int {k : IntKind} {a b : Int} (h : a = b) : Ending.returned (.int k a) = .returned (.int k b) := by rw [h]
theorem ret_bool {a b : Bool} (h : a = b) : Ending.returned (.bool a) = .returned (.bool b) := by rw [h]

/-- Which of n things the number c speaks of. -/
def pk (c : Int) (n : Nat) : Nat := ((if c < 0 then -(c + 1) else c) % n).toNat
theorem pk_lt (c : Int) (n : Nat) (h : 0 < n) : pk c n < n := by
  unfold pk
  have h1 := Int.emod_lt_of_pos (if c < 0 then -(c + 1) else c) (show (0 : Int) < n by omega)
  have h2 := Int.emod_nonneg (if c < 0 then -(c + 1) else c) (show (n : Int) ≠ 0 by omega)
  omega
theorem pk_cast (c : Int) (n : Nat) (h : 0 < n) : ((pk c n : Nat) : Int) = (if c < 0 then -(c + 1) else c) % n := by
  unfold pk
  have h2 := Int.emod_nonneg (if c < 0 then -(c + 1) else c) (show (n : Int) ≠ 0 by omega)
  omega

set_option maxRecDepth 20000 in
set_option maxHeartbeats 400000 in
theorem pick_any (c : Int) (n : Nat) (w : World) (hn : 0 < n) (hn2 : (n : Int) ≤ 1048576) (h1 : -9223372036854775808 ≤ c) (h2 : c ≤ 9223372036854775807) :
    Calls Try.prog 8 #[.int .i64 c, .int .i64 n] w fun e w' => e = .returned (.int .i64 (pk c n : Nat)) ∧ w' = w := by
  have HP : Hid (((pk c n : Nat) : Int) = _) := pk_cast c n hn
  have hn0 : ¬ ((n : Int) = 0) := by omega
  have hn1 : ¬ (n = 0) := by omega
  by_cases h0 : c < 0
  · go_enter Try.func8, Try.ntmps8
    go_wp2
    go_ret
    refine ⟨ret_int ?_, rfl⟩
    rw [HP.out, if_pos h0, ← Int.neg_tmod, Int.tmod_eq_emod_of_nonneg (by omega)]
  · go_enter Try.func8, Try.ntmps8
    go_wp2
    go_ret
    refine ⟨ret_int ?_, rfl⟩
    rw [HP.out, if_neg (by omega)]

set_option maxHeartbeats 400000 in
theorem words_any (b g : Nat) (xs : List UInt32) (w : World) (h : Mm w b g xs) :
    Calls Try.prog 10 #[.pointer (some ⟨b, 0, none⟩)] w fun e w' => e = .returned (.slice (some ⟨w.heap.size, 0, none⟩) xs.length xs.length) ∧ Blk w' w.heap.size (wvs xs) 27 ∧ Keeps (fun _ => False) w w' := by
  have c0 := h.blk.cell (i := 0) rfl
  have HC := copied_any (some ⟨g, 0, none⟩) xs.length xs w (segW_of_blk h.row) (by have := h.small; omega)
  have HC : Hid (Calls _ _ _ _ _) := HC
  clear h
  go_enter Try.func10, Try.ntmps10
  go_wp2_with fail
  refine HC.out.mono ?_
  rintro e w1 ⟨rfl, h1, h2⟩
  have H1 : Hid (Blk _ _ _ _) := h1
  have H2 : Hid (Keeps _ _ _) := h2
  clear h1 h2 HC c0
  go_wp2
  go_ret
  exact ⟨rfl, H1.out, H2.out⟩

set_option maxRecDepth 20000 in
set_option maxHeartbeats 400000 in
theorem new_walk (n : Nat) (w W1 : World) (N : Nat) (hn1 : (n : Int) ≤ 1024) (hn2 : ¬ ((n : Int) < 1)) (HM : Hid ((Instr.makeSlice 33 (.int .i64 ((n : Int) * 16)) (.int .i64 ((n : Int) * 16))).run Try.prog w = .ok (.slice (some ⟨w.heap.size, 0, none⟩) N N) W1)) :
    Calls Try.prog 22 #[.int .i64 n] w fun e w' => e = .returned (.tuple #[.pointer (some ⟨W1.heap.size, 0, none⟩), .int .i64 0]) ∧ w' = W1.alloc (.cells #[.slice (some ⟨w.heap.size, 0, none⟩) N N] 81) := by
  go_enter Try.func22, Try.ntmps22
  go_wp2_with (at_make; refine wpList_make_run rfl (.tmp 11) (.tmp 11) 33 rfl (.int .i64 ((n : Int) * 16)) (.int .i64 ((n : Int) * 16)) (.slice (some ⟨w.heap.size, 0, none⟩) N N) W1 rfl rfl HM.out ?_; refine Hid.out ?_)
  unfold Hid
  go_wp2
  go_ret2
  exact ⟨rfl, rfl⟩

theorem new_in (n : Nat) (w : World) (h1 : 1 ≤ n) (h2 : n ≤ 1024) :
    Calls Try.prog 22 #[.int .i64 n] w fun e w' => e = .returned (.tuple #[.pointer (some ⟨w.heap.size + 1, 0, none⟩), .int .i64 0]) ∧ Mm w' (w.heap.size + 1) w.heap.size (List.replicate (n * 16) 0) ∧ Keeps (fun _ => False) w w' := by
  have hmk := run_make_words (w := w) (n * 16) (by omega)
  obtain ⟨W1, hW⟩ : ∃ W1, W1 = w.alloc (.cells (wvs (List.replicate (n * 16) 0)).toArray 27) := ⟨_, rfl⟩
  rw [← hW] at hmk
  have hK1 : Keeps (fun _ => False) w W1 := by rw [hW]; exact (Keeps.refl _ w).alloc _
  have hB1 : Blk W1 w.heap.size (wvs (List.replicate (n * 16) 0)) 27 := by rw [hW]; exact Blk.new w _ 27
  have hsz : W1.heap.size = w.heap.size + 1 := by rw [hW]; simp
  have e1 : ((n * 16 : Nat) : Int) = (n : Int) * 16 := by omega
  rw [e1] at hmk
  refine (new_walk n w W1 (n * 16) (by omega) (by omega) hmk).mono ?_
  rintro e w' ⟨rfl, rfl⟩
  have hB := Blk.new W1 #[.slice (some ⟨w.heap.size, 0, none⟩) (n * 16) (n * 16)] 81
  rw [hsz] at hB
  have e2 : (List.replicate (n * 16) (0 : UInt32)).length = n * 16 := List.length_replicate
  refine ⟨by rw [← hsz], ⟨by omega, ?_, hB1.alloc _, by rw [e2]; omega⟩, hK1.alloc _⟩
  rw [e2]; exact hB

set_option maxHeartbeats 400000 in
theorem frames_any (b g : Nat) (xs : List UInt32) (n : Nat) (w : World) (h : Mm w b g xs) (hn : xs.length = n * 16) :
    Calls Try.prog 60 #[.pointer (some ⟨b, 0, none⟩)] w fun e w' => e = .returned (.int .i64 n) ∧ w' = w := by
  have c0 := h.blk.cell (i := 0) rfl
  have hs := h.small
  rw [hn] at c0 hs
  have h2 : (n : Int) ≤ 1024 := by omega
  clear h hn hs
  go_enter Try.func60, Try.ntmps60
  go_wp2
  go_ret
  exact ⟨ret_int (by omega), rfl⟩

end Go.Proofs.Ytpccdhoaicabcaa
