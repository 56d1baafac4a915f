import Derived.Test.YtipejahmjdamjaaGreatDoorA
namespace Go.Proofs.YtipejahmjdamjaaGreatDoor
open Go.RowKit
set_option linter.unusedVariables false

theorem at0_in {L p n : Nat} (h : p + n ≤ L) (hn : 0 < n) : at0 L p = p := if_pos (by omega)
theorem at0_fit {L p n : Nat} (h : p + n ≤ L) : at0 L p + n ≤ L := by unfold at0; split <;> omega
theorem lay_at0 (xs : List UInt32) (p : Nat) (ys : List UInt32) (h : p + ys.length ≤ xs.length) : lay xs (at0 xs.length p) ys = lay xs p ys := by
  by_cases h0 : 0 < ys.length
  · rw [at0_in h h0]
  · obtain rfl : ys = [] := List.eq_nil_of_length_eq_zero (by omega)
    simp [lay]
theorem rep_wvs (xs : List UInt32) (p n : Nat) (x : UInt32) : List.take p (wvs xs) ++ List.replicate n (Value.int .u32 (x.toNat : Int)) ++ List.drop (p + n) (wvs xs) = List.take p (wvs xs) ++ wvs (List.replicate n x) ++ List.drop (p + (List.replicate n x).length) (wvs xs) := by
  rw [wvs_rep, List.length_replicate]

theorem ret_int {k : IntKind} {a b : Int} (h : a = b) : Ending.returned (.int k a) = .returned (.int k b) := by rw [h]
theorem ret_bool {a b : Bool} (h : a = b) : Ending.returned (.bool a) = .returned (.bool b) := by rw [h]

/-- Which of n things the number c speaks of. -/
def pk (c : Int) (n : Nat) : Nat := ((if c < 0 then -(c + 1) else c) % n).toNat
theorem pk_lt (c : Int) (n : Nat) (h : 0 < n) : pk c n < n := by
  unfold pk
  have h1 := Int.emod_lt_of_pos (if c < 0 then -(c + 1) else c) (show (0 : Int) < n by omega)
  have h2 := Int.emod_nonneg (if c < 0 then -(c + 1) else c) (show (n : Int) ≠ 0 by omega)
  omega
theorem pk_cast (c : Int) (n : Nat) (h : 0 < n) : ((pk c n : Nat) : Int) = (if c < 0 then -(c + 1) else c) % n := by
  unfold pk
  have h2 := Int.emod_nonneg (if c < 0 then -(c + 1) else c) (show (n : Int) ≠ 0 by omega)
  omega

set_option maxHeartbeats 400000 in
theorem words_any (b g : Nat) (xs : List UInt32) (w : World) (h : Mm w b g xs) :
    Calls Tryz.prog 33 #[.pointer (some ⟨b, 0, none⟩)] w fun e w' => e = .returned (.slice (some ⟨w.heap.size, 0, none⟩) xs.length xs.length) ∧ Blk w' w.heap.size (wvs xs) 37 ∧ Keeps (fun _ => False) w w' := by
  have c0 := h.blk.cell (i := 0) rfl
  have HC := copied_any (some ⟨g, 0, none⟩) xs.length xs w (segW_of_blk h.row) (by have := h.small; omega)
  have HC : Hid (Calls _ _ _ _ _) := HC
  clear h
  go_enter Tryz.func33, Tryz.ntmps33
  go_wp2_with fail
  refine HC.out.mono ?_
  rintro e w1 ⟨rfl, h1, h2⟩
  have H1 : Hid (Blk _ _ _ _) := h1
  have H2 : Hid (Keeps _ _ _) := h2
  clear h1 h2 HC c0
  go_wp2
  go_ret
  exact ⟨rfl, H1.out, H2.out⟩

set_option maxHeartbeats 400000 in
theorem frames_any (b g : Nat) (xs : List UInt32) (n : Nat) (w : World) (h : Mm w b g xs) (hn : xs.length = n * 16) :
    Calls Tryz.prog 34 #[.pointer (some ⟨b, 0, none⟩)] w fun e w' => e = .returned (.int .i64 n) ∧ w' = w := by
  have c0 := h.blk.cell (i := 0) rfl
  have hs := h.small
  rw [hn] at c0 hs
  have h2 : (n : Int) ≤ 1024 := by omega
  clear h hn hs
  go_enter Tryz.func34, Tryz.ntmps34
  go_wp2
  go_ret
  exact ⟨ret_int (by omega), rfl⟩

end Go.Proofs.YtipejahmjdamjaaGreatDoor
