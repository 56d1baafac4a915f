import Derived.Test.YtfcgpjojjehkiaaE
import Derived.Deep.RegionHeld3
namespace Go.Proofs.Ytfcgpjojjehkiaa
open Go.RowKit
set_option linter.unusedVariables false

set_option maxHeartbeats 400000 in
theorem btake_in (b g : Nat) (xs : List UInt32) (p h n : Nat) (w : World) (hm : Mm w b g xs) (hh : h ≤ 3) (h1 : 1 ≤ n) (h2 : n ≤ 16) (hf : p + (h + n) ≤ xs.length) :
    Calls Try.prog 40 #[bxv p h n, .pointer (some ⟨b, 0, none⟩)] w fun e w' => ∃ B, w.heap.size ≤ B ∧ e = .returned (.tuple #[.slice (some ⟨B, 0, none⟩) (h + n) (h + n), .int .i64 0]) ∧ Blk w' B (wvs (win xs p (h + n))) 34 ∧ Keeps (fun _ => False) w w' := by
  obtain ⟨W, hW⟩ : ∃ W, W = w.alloc (.cells #[.int .i64 (p : Int), .int .i64 (h : Int), .int .i64 (n : Int)] 69) := ⟨_, rfl⟩
  have hK : Keeps (fun _ => False) w W := by rw [hW]; exact (Keeps.refl _ w).alloc _
  have HS := fun W1 (k : Keeps (fun _ => False) W W1) => (size_any (p : Int) (h : Int) (n : Int) W1 ⟨by omega, by omega⟩ ⟨by omega, by omega⟩).mono fun e w' ⟨h1, h2⟩ => And.intro h1 (k.trans h2 fun _ _ e => e)
  have hB0 : Blk W w.heap.size [.int .i64 (p : Int), .int .i64 (h : Int), .int .i64 (n : Int)] 69 := by rw [hW]; exact Blk.new w _ 69
  have HT := fun W1 (k : Keeps (fun _ => False) W W1) => take_in b g xs p (h + n) W1 (hm.kept (hK.trans k fun _ _ e => e) (fun e => e) (fun e => e)) hf
  obtain ⟨M, hM⟩ : ∃ M, M = h + n := ⟨_, rfl⟩
  have e1 : (h : Int) + (n : Int) = (M : Int) := by omega
  rw [e1] at HS
  rw [← hM] at HT ⊢
  have HS : Hid (∀ W1, Keeps (fun _ => False) W W1 → Calls Try.prog 57 #[bxv p h n] W1 fun e w' => e = .returned (.int .i64 M) ∧ Keeps (fun _ => False) W w') := HS
  have HT : Hid (∀ W1, Keeps (fun _ => False) W W1 → Calls Try.prog 58 #[.pointer (some ⟨b, 0, none⟩), .int .i64 p, .int .i64 M] W1 fun e w' => e = .returned (.tuple #[.slice (some ⟨W1.heap.size, 0, none⟩) M M, .int .i64 0]) ∧ Blk w' W1.heap.size (wvs (win xs p M)) 34 ∧ Keeps (fun _ => False) W1 w') := HT
  obtain ⟨O, hO⟩ : ∃ O, O = w.heap.size := ⟨_, rfl⟩
  rw [← hO] at hB0
  have HW : Hid (W = _ ∧ Keeps (fun _ => False) w W ∧ O = w.heap.size) := ⟨hW, hK, hO⟩
  have hS : W.cell? ⟨O, 0, none⟩ = some (.int .i64 p) ∧ W.cell? ⟨O, 1, none⟩ = some (.int .i64 h) ∧ W.cell? ⟨O, 2, none⟩ = some (.int .i64 n) := ⟨hB0.cell rfl, hB0.cell rfl, hB0.cell rfl⟩
  have HB0 : Hid (∀ W', Keeps (fun _ => False) W W' → W'.cell? ⟨O, 0, none⟩ = some (.int .i64 p) ∧ W'.cell? ⟨O, 1, none⟩ = some (.int .i64 h) ∧ W'.cell? ⟨O, 2, none⟩ = some (.int .i64 n)) := fun W' k => ⟨(hB0.kept k fun e => e).cell rfl, (hB0.kept k fun e => e).cell rfl, (hB0.kept k fun e => e).cell rfl⟩
  have q1 : ¬ ((n : Int) < 1) := by omega
  have q2 : ¬ ((16 : Int) < (n : Int)) := by omega
  clear hm hh h1 h2 hf hW hK hM e1 hO hB0
  go_enter Try.func40, Try.ntmps40
  go_wp2
  rw [← HW.out.1, ← HW.out.2.2]
  go_region_held3 (fun w' => w'.cell? ⟨O, 0, none⟩ = some (.int .i64 p) ∧ w'.cell? ⟨O, 1, none⟩ = some (.int .i64 h) ∧ w'.cell? ⟨O, 2, none⟩ = some (.int .i64 n)) (first | exact hS2 | exact hS1 | exact hS | go_keep)
    (first | (go_at_call 57; refine (HS.out _ ((Keeps.refl _ W).drewN _)).mono ?_; rintro e w1 ⟨rfl, hk1⟩; have hS1 := HB0.out w1 hk1) | (go_at_call 58; refine (HT.out w1 hk1).mono ?_; rintro e w2 ⟨rfl, hB, hk2⟩; have hS2 := HB0.out w2 (hk1.trans hk2 fun _ _ e => e)))
  go_wp2
  go_ret2
  exact ⟨_, (HW.out.2.1.trans hk1 fun _ _ e => e).size, rfl, hB, (HW.out.2.1.trans hk1 fun _ _ e => e).trans hk2 fun _ _ e => e⟩

set_option maxHeartbeats 400000 in
theorem btake_nil (p h n : Int) (w : World) :
    Calls Try.prog 40 #[bxv p h n, .pointer none] w fun e w' => e = .returned (.tuple #[.slice none 0 0, .int .i64 3]) ∧ Keeps (fun _ => False) w w' := by
  have HK : Hid (Keeps (fun _ => False) w (w.alloc (.cells #[.int .i64 p, .int .i64 h, .int .i64 n] 69))) := (Keeps.refl _ w).alloc _
  go_enter Try.func40, Try.ntmps40
  go_wp2
  go_ret2
  exact ⟨rfl, HK.out⟩

set_option maxHeartbeats 400000 in
theorem btake_arg (b : Nat) (p h n : Int) (w : World) (hn : n < 1 ∨ 16 < n) :
    Calls Try.prog 40 #[bxv p h n, .pointer (some ⟨b, 0, none⟩)] w fun e w' => e = .returned (.tuple #[.slice none 0 0, .int .i64 1]) ∧ Keeps (fun _ => False) w w' := by
  have HK : Hid (Keeps (fun _ => False) w (w.alloc (.cells #[.int .i64 p, .int .i64 h, .int .i64 n] 69))) := (Keeps.refl _ w).alloc _
  by_cases h1 : n < 1
  · clear hn
    go_enter Try.func40, Try.ntmps40
    go_wp2
    go_ret2
    exact ⟨rfl, HK.out⟩
  · have h2 : 16 < n := by omega
    clear hn
    go_enter Try.func40, Try.ntmps40
    go_wp2
    go_ret2
    exact ⟨rfl, HK.out⟩

set_option maxHeartbeats 400000 in
theorem btake_out (b g : Nat) (xs : List UInt32) (p : Int) (h n : Nat) (w : World) (hm : Mm w b g xs) (hh : h ≤ 3) (h1 : 1 ≤ n) (h2 : n ≤ 16) (hf : ¬ (0 ≤ p ∧ p + ((h : Int) + n) ≤ xs.length)) (hp : p ≤ 9223372036854775807) :
    Calls Try.prog 40 #[bxv p h n, .pointer (some ⟨b, 0, none⟩)] w fun e w' => e = .returned (.tuple #[.slice none 0 0, .int .i64 51]) ∧ Keeps (fun _ => False) w w' := by
  obtain ⟨W, hW⟩ : ∃ W, W = w.alloc (.cells #[.int .i64 (p : Int), .int .i64 (h : Int), .int .i64 (n : Int)] 69) := ⟨_, rfl⟩
  have hK : Keeps (fun _ => False) w W := by rw [hW]; exact (Keeps.refl _ w).alloc _
  have HS := fun W1 (k : Keeps (fun _ => False) W W1) => (size_any (p : Int) (h : Int) (n : Int) W1 ⟨by omega, by omega⟩ ⟨by omega, by omega⟩).mono fun e w' ⟨h1, h2⟩ => And.intro h1 (k.trans h2 fun _ _ e => e)
  have hB0 : Blk W w.heap.size [.int .i64 (p : Int), .int .i64 (h : Int), .int .i64 (n : Int)] 69 := by rw [hW]; exact Blk.new w _ 69
  have HT := fun W1 (k : Keeps (fun _ => False) W W1) => take_out b g xs p ((h : Int) + n) W1 (hm.kept (hK.trans k fun _ _ e => e) (fun e => e) (fun e => e)) (by omega) hp
  obtain ⟨M, hM⟩ : ∃ M, M = (h : Int) + n := ⟨_, rfl⟩
  rw [← hM] at HS HT
  have HS : Hid (∀ W1, Keeps (fun _ => False) W W1 → Calls Try.prog 57 #[bxv p h n] W1 fun e w' => e = .returned (.int .i64 M) ∧ Keeps (fun _ => False) W w') := HS
  have HT : Hid (∀ W1, Keeps (fun _ => False) W W1 → Calls Try.prog 58 #[.pointer (some ⟨b, 0, none⟩), .int .i64 p, .int .i64 M] W1 fun e w' => e = .returned (.tuple #[.slice none 0 0, .int .i64 51]) ∧ w' = W1) := HT
  obtain ⟨O, hO⟩ : ∃ O, O = w.heap.size := ⟨_, rfl⟩
  rw [← hO] at hB0
  have HW : Hid (W = _ ∧ Keeps (fun _ => False) w W ∧ O = w.heap.size) := ⟨hW, hK, hO⟩
  have hS : W.cell? ⟨O, 0, none⟩ = some (.int .i64 p) ∧ W.cell? ⟨O, 1, none⟩ = some (.int .i64 h) ∧ W.cell? ⟨O, 2, none⟩ = some (.int .i64 n) := ⟨hB0.cell rfl, hB0.cell rfl, hB0.cell rfl⟩
  have HB0 : Hid (∀ W', Keeps (fun _ => False) W W' → W'.cell? ⟨O, 0, none⟩ = some (.int .i64 p) ∧ W'.cell? ⟨O, 1, none⟩ = some (.int .i64 h) ∧ W'.cell? ⟨O, 2, none⟩ = some (.int .i64 n)) := fun W' k => ⟨(hB0.kept k fun e => e).cell rfl, (hB0.kept k fun e => e).cell rfl, (hB0.kept k fun e => e).cell rfl⟩
  have q1 : ¬ ((n : Int) < 1) := by omega
  have q2 : ¬ ((16 : Int) < (n : Int)) := by omega
  clear hm hh h1 h2 hf hW hK hM hp hO hB0
  go_enter Try.func40, Try.ntmps40
  go_wp2
  rw [← HW.out.1, ← HW.out.2.2]
  go_region_held3 (fun w' => w'.cell? ⟨O, 0, none⟩ = some (.int .i64 p) ∧ w'.cell? ⟨O, 1, none⟩ = some (.int .i64 h) ∧ w'.cell? ⟨O, 2, none⟩ = some (.int .i64 n)) (first | exact hS2 | exact hS1 | exact hS | go_keep)
    (first | (go_at_call 57; refine (HS.out _ ((Keeps.refl _ W).drewN _)).mono ?_; rintro e w1 ⟨rfl, hk1⟩; have hS1 := HB0.out w1 hk1) | (go_at_call 58; refine (HT.out w1 hk1).mono ?_; rintro e w2 ⟨rfl, hw⟩; obtain rfl := hw.symm; have hS2 := hS1))
  go_wp2
  go_ret2
  exact ⟨rfl, HW.out.2.1.trans hk1 fun _ _ e => e⟩

theorem tkE_ok {nil : Bool} {N : Nat} {p : Int} {h : Nat} {n : Int} (e : tkE nil N p h n = 0) : nil = false ∧ 1 ≤ n ∧ n ≤ 16 ∧ 0 ≤ p ∧ p + ((h : Int) + n) ≤ N := by
  unfold tkE at e
  cases nil
  · simp only [Bool.false_eq_true, if_false] at e
    by_cases h1 : n < 1 ∨ 16 < n
    · rw [if_pos h1] at e; omega
    · rw [if_neg h1] at e
      by_cases h2 : 0 ≤ p ∧ p + ((h : Int) + n) ≤ N
      · exact ⟨rfl, by omega, by omega, h2.1, h2.2⟩
      · rw [if_neg h2] at e; omega
  · simp at e

/-- A box's words, or why not. -/
theorem btake_no (nil : Bool) (b g : Nat) (xs : List UInt32) (p : Int) (h : Nat) (n : Int) (w : World) (hm : Mm w b g xs) (hh : h ≤ 3) (hp : p ≤ 9223372036854775807) (he : tkE nil xs.length p h n ≠ 0) :
    Calls Try.prog 40 #[bxv p h n, mpv nil b] w fun e w' => e = .returned (.tuple #[.slice none 0 0, .int .i64 (tkE nil xs.length p h n)]) ∧ Keeps (fun _ => False) w w' := by
  unfold tkE at *
  cases nil
  · simp only [Bool.false_eq_true, if_false] at he ⊢
    by_cases h1 : n < 1 ∨ 16 < n
    · rw [if_pos h1] at he ⊢
      exact btake_arg b p h n w h1
    · rw [if_neg h1] at he ⊢
      by_cases h2 : 0 ≤ p ∧ p + ((h : Int) + n) ≤ xs.length
      · rw [if_pos h2] at he; exact absurd rfl he
      · rw [if_neg h2] at he ⊢
        obtain ⟨m, rfl⟩ : ∃ m : Nat, n = m := ⟨n.toNat, by omega⟩
        exact btake_out b g xs p h m w hm hh (by omega) (by omega) h2 hp
  · simp only [if_true]
    exact btake_nil p h n w

/-- Behind Take of a box whose words are there. -/
def TkP (w : World) (l : List UInt32) (e : Ending) (w' : World) : Prop :=
  ∃ B, w.heap.size ≤ B ∧ e = .returned (.tuple #[.slice (some ⟨B, 0, none⟩) l.length l.length, .int .i64 0]) ∧ Blk w' B (wvs l) 34 ∧ Keeps (fun _ => False) w w'

theorem btake_ok (nil : Bool) (b g : Nat) (xs : List UInt32) (p : Int) (h : Nat) (n : Int) (w : World) (hm : Mm w b g xs) (hh : h ≤ 3) (he : tkE nil xs.length p h n = 0) :
    Calls Try.prog 40 #[bxv p h n, mpv nil b] w (TkP w (win xs p.toNat (h + n.toNat))) := by
  obtain ⟨rfl, h1, h2, h3, h4⟩ := tkE_ok he
  obtain ⟨q, rfl⟩ : ∃ m : Nat, p = m := ⟨p.toNat, by omega⟩
  obtain ⟨m, rfl⟩ : ∃ m : Nat, n = m := ⟨n.toNat, by omega⟩
  have hl : (win xs q (h + m)).length = h + m := win_length xs q _ (by omega)
  unfold TkP
  rw [Int.toNat_natCast, Int.toNat_natCast, hl]
  exact btake_in b g xs q h m w hm hh (by omega) (by omega) (by omega)

end Go.Proofs.Ytfcgpjojjehkiaa
