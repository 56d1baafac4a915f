import Derived.Test.YtljhdijledclhaaD
import Derived.Handy
namespace Go.Proofs.Ytljhdijledclhaa
open Go.RowKit
set_option linter.unusedVariables false

set_option maxHeartbeats 400000 in
theorem run_nil (p n : Int) (w : World) :
    Calls Try.prog 53 #[.pointer none, .int .i64 p, .int .i64 n] w fun e w' => e = .returned (.tuple #[.slice none 0 0, .int .i64 3]) ∧ w' = w := by
  go_enter Try.func53, Try.ntmps53
  go_wp2
  go_ret2
  exact ⟨rfl, rfl⟩

set_option maxHeartbeats 400000 in
theorem read_out (b g : Nat) (xs : List UInt32) (p : Int) (w : World) (h : Mm w b g xs) (hf : ¬ (0 ≤ p ∧ p < xs.length)) (hp : p ≤ 9223372036854775807) :
    Calls Try.prog 23 #[.pointer (some ⟨b, 0, none⟩), .int .i64 p] w fun e w' => e = .returned (.tuple #[.int .u32 0, .int .i64 51]) ∧ w' = w := by
  have HC : Hid (Calls _ _ _ _ _) := run_out b g xs p 1 w h (by omega) hp
  clear h hf hp
  go_enter Try.func23, Try.ntmps23
  go_wp2_with fail
  refine HC.out.mono ?_
  rintro e w1 ⟨rfl, hw⟩
  obtain rfl := hw.symm
  clear hw HC
  go_wp2
  go_ret2
  exact ⟨rfl, rfl⟩

set_option maxHeartbeats 400000 in
theorem take_in (b g : Nat) (xs : List UInt32) (p n : Nat) (w : World) (h : Mm w b g xs) (hf : p + n ≤ xs.length) :
    Calls Try.prog 39 #[.pointer (some ⟨b, 0, none⟩), .int .i64 p, .int .i64 n] w fun e w' => e = .returned (.tuple #[.slice (some ⟨w.heap.size, 0, none⟩) n n, .int .i64 0]) ∧ Blk w' w.heap.size (wvs ((xs.drop p).take n)) 26 ∧ Keeps (fun _ => False) w w' := by
  have HR : Hid (Calls _ _ _ _ _) := run_in b g xs p n w h hf
  have hs := h.small
  have hl : ((xs.drop p).take n).length = n := by simp; omega
  have hsg : SegW w (some ⟨g, at0 xs.length p, none⟩) ((xs.drop p).take n) := by
    by_cases h0 : 0 < n
    · rw [at0_in hf h0]; exact segW_part h.row p n hf
    · obtain rfl : n = 0 := by omega
      exact .inl (by simp)
  have HC := copied_any (some ⟨g, at0 xs.length p, none⟩) (xs.length - p) ((xs.drop p).take n) w hsg (by omega)
  rw [hl] at HC
  obtain ⟨L, hL⟩ : ∃ L, L = xs.length - p := ⟨_, rfl⟩
  obtain ⟨o, ho⟩ : ∃ o, o = at0 xs.length p := ⟨_, rfl⟩
  obtain ⟨ys, hy⟩ : ∃ ys, ys = (xs.drop p).take n := ⟨_, rfl⟩
  rw [← hL, ← ho] at HR HC
  rw [← hy] at HC ⊢
  have HC : Hid (Calls _ _ _ _ _) := HC
  clear hs hl hsg hL ho hy h hf
  go_enter Try.func39, Try.ntmps39
  go_wp2_with fail
  refine HR.out.mono ?_
  rintro e w1 ⟨rfl, hw⟩
  obtain rfl := hw.symm
  clear hw HR
  go_wp2_with fail
  refine HC.out.mono ?_
  rintro e w1 ⟨rfl, h1, h2⟩
  have H1 : Hid (Blk _ _ _ _) := h1
  have H2 : Hid (Keeps _ _ _) := h2
  clear h1 h2 HC
  go_wp2
  go_ret2
  exact ⟨rfl, H1.out, H2.out⟩

set_option maxHeartbeats 400000 in
theorem take_out (b g : Nat) (xs : List UInt32) (p n : Int) (w : World) (h : Mm w b g xs) (hf : ¬ (0 ≤ p ∧ 0 ≤ n ∧ p + n ≤ xs.length)) (hp : p ≤ 9223372036854775807) :
    Calls Try.prog 39 #[.pointer (some ⟨b, 0, none⟩), .int .i64 p, .int .i64 n] w fun e w' => e = .returned (.tuple #[.slice none 0 0, .int .i64 51]) ∧ w' = w := by
  have HC : Hid (Calls _ _ _ _ _) := run_out b g xs p n w h hf hp
  clear h hf hp
  go_enter Try.func39, Try.ntmps39
  go_wp2_with fail
  refine HC.out.mono ?_
  rintro e w1 ⟨rfl, hw⟩
  obtain rfl := hw.symm
  clear hw HC
  go_wp2
  go_ret2
  exact ⟨rfl, rfl⟩

set_option maxHeartbeats 400000 in
theorem take_nil (p n : Int) (w : World) :
    Calls Try.prog 39 #[.pointer none, .int .i64 p, .int .i64 n] w fun e w' => e = .returned (.tuple #[.slice none 0 0, .int .i64 3]) ∧ w' = w := by
  have HC : Hid (Calls _ _ _ _ _) := run_nil p n w
  go_enter Try.func39, Try.ntmps39
  go_wp2_with fail
  refine HC.out.mono ?_
  rintro e w1 ⟨rfl, hw⟩
  obtain rfl := hw.symm
  clear hw HC
  go_wp2
  go_ret2
  exact ⟨rfl, rfl⟩

set_option maxRecDepth 20000 in
set_option maxHeartbeats 1000000 in
theorem of_in (a : Option Addr) (c n : Nat) (xs : List UInt32) (w : World) (hx : SegW w a xs) (hn : xs.length = n * 16) (h1 : 1 ≤ n) (h2 : n ≤ 1024) :
    Calls Try.prog 32 #[.slice a xs.length c] w fun e w' => ∃ b', w.heap.size < b' ∧ e = .returned (.tuple #[.pointer (some ⟨b', 0, none⟩), .int .i64 0]) ∧ Mm w' b' w.heap.size xs ∧ Keeps (fun _ => False) w w' := by
  have HC : Hid (Calls _ _ _ _ _) := copied_any a c xs w hx (by omega)
  have HS : Hid (xs.length ≤ 16384) := by show xs.length ≤ 16384; omega
  obtain ⟨L, hL⟩ : ∃ L, L = xs.length := ⟨_, rfl⟩
  have HL : Hid (L = xs.length) := hL
  rw [← hL] at HC hn ⊢
  have q1 : ¬ ((16384 : Int) < (L : Int)) := by omega
  have q2 : ((L : Int) == 0) = false := by simp; omega
  have q3 : (Int.tmod (L : Int) 16 != 0) = false := by
    have : Int.tmod (L : Int) 16 = 0 := by rw [Int.tmod_eq_emod_of_nonneg (by omega)]; omega
    simp [this]
  have q4 : ((L : Int) % 16 != 0) = false := by
    have : (L : Int) % 16 = 0 := by omega
    simp [this]
  clear hn h1 h2 hL hx
  go_enter Try.func32, Try.ntmps32
  go_wp2_with fail
  refine HC.out.mono ?_
  rintro e w1 ⟨rfl, h1, h2⟩
  have H1 : Hid (Blk _ _ _ _) := h1
  have H2 : Hid (Keeps _ _ _) := h2
  clear h1 h2 HC
  go_wp2
  go_ret2
  have hlt : w.heap.size < w1.heap.size := H1.out.lt
  refine ⟨_, hlt, rfl, ⟨by omega, ?_, H1.out.alloc _, HS.out⟩, H2.out.alloc _⟩
  rw [← HL.out]; exact Blk.new w1 _ 104

set_option maxHeartbeats 400000 in
theorem of_long (a : Option Addr) (c L : Nat) (w : World) (h : (16384 : Int) < (L : Int)) :
    Calls Try.prog 32 #[.slice a L c] w fun e w' => e = .returned (.tuple #[.pointer none, .int .i64 2]) ∧ w' = w := by
  go_enter Try.func32, Try.ntmps32
  go_wp2
  go_ret2
  exact ⟨rfl, rfl⟩

set_option maxHeartbeats 400000 in
theorem of_none (a : Option Addr) (c : Nat) (w : World) :
    Calls Try.prog 32 #[.slice a 0 c] w fun e w' => e = .returned (.tuple #[.pointer none, .int .i64 50]) ∧ w' = w := by
  go_enter Try.func32, Try.ntmps32
  go_wp2
  go_ret2
  exact ⟨rfl, rfl⟩

set_option maxHeartbeats 400000 in
theorem of_odd (a : Option Addr) (c L : Nat) (w : World) (h : (L : Int) ≤ 16384) (h2 : L % 16 ≠ 0) :
    Calls Try.prog 32 #[.slice a L c] w fun e w' => e = .returned (.tuple #[.pointer none, .int .i64 50]) ∧ w' = w := by
  have q2 : ((L : Int) == 0) = false := by simp; omega
  have q3 : (Int.tmod (L : Int) 16 != 0) = true := by
    have : ¬ Int.tmod (L : Int) 16 = 0 := by rw [Int.tmod_eq_emod_of_nonneg (by omega)]; omega
    simp [this]
  have q4 : ((L : Int) % 16 != 0) = true := by
    have : ¬ (L : Int) % 16 = 0 := by omega
    simp [this]
  clear h2
  go_enter Try.func32, Try.ntmps32
  go_wp2
  go_ret2
  exact ⟨rfl, rfl⟩

end Go.Proofs.Ytljhdijledclhaa
