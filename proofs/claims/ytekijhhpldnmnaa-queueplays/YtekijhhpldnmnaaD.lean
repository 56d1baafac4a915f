import Derived.Test.YtekijhhpldnmnaaC
import Derived.Handy
namespace Go.Proofs.Ytekijhhpldnmnaa
open Go.RowKit
set_option linter.unusedVariables false

theorem lay_get? (xs : List UInt32) (q : Nat) (ys : List UInt32) (h : q + ys.length ≤ xs.length) (i : Nat) : (lay xs q ys)[i]? = if q ≤ i ∧ i < q + ys.length then ys[i - q]? else xs[i]? := by
  have hq : min q xs.length = q := by omega
  unfold lay
  by_cases h1 : i < q
  · rw [if_neg (by omega), List.append_assoc, List.getElem?_append_left (by simp; omega), List.getElem?_take, if_pos h1]
  · by_cases h2 : i < q + ys.length
    · rw [if_pos ⟨by omega, h2⟩, List.getElem?_append_left (by simp; omega), List.getElem?_append_right (by simp; omega)]
      simp [hq]
    · rw [if_neg (by omega), List.getElem?_append_right (by simp; omega), List.getElem?_drop]
      congr 1
      simp [hq]; omega

set_option maxHeartbeats 400000 in
theorem run_nil (p n : Int) (w : World) :
    Calls Try.prog 71 #[.pointer none, .int .i64 p, .int .i64 n] w fun e w' => e = .returned (.tuple #[.slice none 0 0, .int .i64 3]) ∧ w' = w := by
  go_enter Try.func71, Try.ntmps71
  go_wp2
  go_ret2
  exact ⟨rfl, rfl⟩

set_option maxHeartbeats 400000 in
theorem take_in (b g : Nat) (xs : List UInt32) (p n : Nat) (w : World) (h : Mm w b g xs) (hf : p + n ≤ xs.length) :
    Calls Try.prog 64 #[.pointer (some ⟨b, 0, none⟩), .int .i64 p, .int .i64 n] w fun e w' => e = .returned (.tuple #[.slice (some ⟨w.heap.size, 0, none⟩) n n, .int .i64 0]) ∧ Blk w' w.heap.size (wvs ((xs.drop p).take n)) 52 ∧ Keeps (fun _ => False) w w' := by
  have HR : Hid (Calls _ _ _ _ _) := run_in b g xs p n w h hf
  have hs := h.small
  have hl : ((xs.drop p).take n).length = n := by simp; omega
  have hsg : SegW w (some ⟨g, at0 xs.length p, none⟩) ((xs.drop p).take n) := by
    by_cases h0 : 0 < n
    · rw [at0_in hf h0]; exact segW_part h.row p n hf
    · obtain rfl : n = 0 := by omega
      exact .inl (by simp)
  have HC := copied_any (some ⟨g, at0 xs.length p, none⟩) (xs.length - p) ((xs.drop p).take n) w hsg (by omega)
  rw [hl] at HC
  obtain ⟨L, hL⟩ : ∃ L, L = xs.length - p := ⟨_, rfl⟩
  obtain ⟨o, ho⟩ : ∃ o, o = at0 xs.length p := ⟨_, rfl⟩
  obtain ⟨ys, hy⟩ : ∃ ys, ys = (xs.drop p).take n := ⟨_, rfl⟩
  rw [← hL, ← ho] at HR HC
  rw [← hy] at HC ⊢
  have HC : Hid (Calls _ _ _ _ _) := HC
  clear hs hl hsg hL ho hy h hf
  go_enter Try.func64, Try.ntmps64
  go_wp2_with fail
  refine HR.out.mono ?_
  rintro e w1 ⟨rfl, hw⟩
  obtain rfl := hw.symm
  clear hw HR
  go_wp2_with fail
  refine HC.out.mono ?_
  rintro e w1 ⟨rfl, h1, h2⟩
  have H1 : Hid (Blk _ _ _ _) := h1
  have H2 : Hid (Keeps _ _ _) := h2
  clear h1 h2 HC
  go_wp2
  go_ret2
  exact ⟨rfl, H1.out, H2.out⟩

set_option maxHeartbeats 400000 in
theorem take_out (b g : Nat) (xs : List UInt32) (p n : Int) (w : World) (h : Mm w b g xs) (hf : ¬ (0 ≤ p ∧ 0 ≤ n ∧ p + n ≤ xs.length)) (hp : p ≤ 9223372036854775807) :
    Calls Try.prog 64 #[.pointer (some ⟨b, 0, none⟩), .int .i64 p, .int .i64 n] w fun e w' => e = .returned (.tuple #[.slice none 0 0, .int .i64 51]) ∧ w' = w := by
  have HC : Hid (Calls _ _ _ _ _) := run_out b g xs p n w h hf hp
  clear h hf hp
  go_enter Try.func64, Try.ntmps64
  go_wp2_with fail
  refine HC.out.mono ?_
  rintro e w1 ⟨rfl, hw⟩
  obtain rfl := hw.symm
  clear hw HC
  go_wp2
  go_ret2
  exact ⟨rfl, rfl⟩

set_option maxHeartbeats 400000 in
theorem take_nil (p n : Int) (w : World) :
    Calls Try.prog 64 #[.pointer none, .int .i64 p, .int .i64 n] w fun e w' => e = .returned (.tuple #[.slice none 0 0, .int .i64 3]) ∧ w' = w := by
  have HC : Hid (Calls _ _ _ _ _) := run_nil p n w
  go_enter Try.func64, Try.ntmps64
  go_wp2_with fail
  refine HC.out.mono ?_
  rintro e w1 ⟨rfl, hw⟩
  obtain rfl := hw.symm
  clear hw HC
  go_wp2
  go_ret2
  exact ⟨rfl, rfl⟩

set_option maxHeartbeats 400000 in
theorem lay_in (b g : Nat) (xs : List UInt32) (p : Nat) (a : Option Addr) (c : Nat) (ys : List UInt32) (w : World) (h : Mm w b g xs) (hy : SegW w a ys) (hf : p + ys.length ≤ xs.length) :
    Calls Try.prog 63 #[.pointer (some ⟨b, 0, none⟩), .int .i64 p, .slice a ys.length c] w fun e w' => e = .returned (.int .i64 0) ∧ Mm w' b g (lay xs p ys) ∧ Keeps (· = g) w w' := by
  have HC : Hid (Calls _ _ _ _ _) := run_in b g xs p ys.length w h hf
  have hfit := at0_fit hf
  have hM := h.laid (at0 xs.length p) ys hfit
  rw [lay_at0 xs p ys hf] at hM
  have hcp := fun ty => run_copy_wb (w := w) ty g (at0 xs.length p) (xs.length - p) _ 52 h.row a c ys hy (by rw [wvs_length]; exact hfit)
  obtain ⟨W1, hW1⟩ : ∃ W1, W1 = w.setRow g (List.take (at0 xs.length p) (wvs xs) ++ wvs ys ++ List.drop (at0 xs.length p + ys.length) (wvs xs)).toArray := ⟨_, rfl⟩
  have hK : Keeps (· = g) w W1 := by rw [hW1]; exact setRow_keeps w g _
  rw [← hW1] at hM hcp
  have HM : Hid (Mm _ _ _ _) := hM
  have HK : Hid (Keeps _ _ _) := hK
  obtain ⟨L, hL⟩ : ∃ L, L = xs.length - p := ⟨_, rfl⟩
  obtain ⟨o, ho⟩ : ∃ o, o = at0 xs.length p := ⟨_, rfl⟩
  obtain ⟨n, hn⟩ : ∃ n, n = ys.length := ⟨_, rfl⟩
  rw [← hL, ← ho, ← hn] at HC hcp
  rw [← hn]
  have HCP : Hid (∀ ty, _) := hcp
  clear hcp hM hK h hf hL ho hn hW1 hy hfit
  go_enter Try.func63, Try.ntmps63
  go_wp2_with fail
  refine HC.out.mono ?_
  rintro e w1 ⟨rfl, hw⟩
  obtain rfl := hw.symm
  clear hw HC
  go_wp2_with (refine isCopy (.tmp 20) (.tmp 21) 22 22 rfl ?_; go_must (refine wpList_copy_run rfl (.tmp 20) (.tmp 21) 22 22 rfl (.slice (some ⟨g, o, none⟩) n L) (.slice a n c) (goInt n) W1 rfl rfl HCP.out ?_))
  go_ret
  exact ⟨rfl, HM.out, HK.out⟩

set_option maxRecDepth 20000 in
set_option maxHeartbeats 1000000 in
theorem of_in (a : Option Addr) (c n : Nat) (xs : List UInt32) (w : World) (hx : SegW w a xs) (hn : xs.length = n * 16) (h1 : 1 ≤ n) (h2 : n ≤ 1024) :
    Calls Try.prog 9 #[.slice a xs.length c] w fun e w' => ∃ b', w.heap.size < b' ∧ e = .returned (.tuple #[.pointer (some ⟨b', 0, none⟩), .int .i64 0]) ∧ Mm w' b' w.heap.size xs ∧ Keeps (fun _ => False) w w' := by
  have HC : Hid (Calls _ _ _ _ _) := copied_any a c xs w hx (by omega)
  have HS : Hid (xs.length ≤ 16384) := by show xs.length ≤ 16384; omega
  obtain ⟨L, hL⟩ : ∃ L, L = xs.length := ⟨_, rfl⟩
  have HL : Hid (L = xs.length) := hL
  rw [← hL] at HC hn ⊢
  have q1 : ¬ ((16384 : Int) < (L : Int)) := by omega
  have q2 : ((L : Int) == 0) = false := by simp; omega
  have q3 : (Int.tmod (L : Int) 16 != 0) = false := by
    have : Int.tmod (L : Int) 16 = 0 := by rw [Int.tmod_eq_emod_of_nonneg (by omega)]; omega
    simp [this]
  have q4 : ((L : Int) % 16 != 0) = false := by
    have : (L : Int) % 16 = 0 := by omega
    simp [this]
  clear hn h1 h2 hL hx
  go_enter Try.func9, Try.ntmps9
  go_wp2_with fail
  refine HC.out.mono ?_
  rintro e w1 ⟨rfl, h1, h2⟩
  have H1 : Hid (Blk _ _ _ _) := h1
  have H2 : Hid (Keeps _ _ _) := h2
  clear h1 h2 HC
  go_wp2
  go_ret2
  have hlt : w.heap.size < w1.heap.size := H1.out.lt
  refine ⟨_, hlt, rfl, ⟨by omega, ?_, H1.out.alloc _, HS.out⟩, H2.out.alloc _⟩
  rw [← HL.out]; exact Blk.new w1 _ 61

set_option maxHeartbeats 400000 in
theorem of_long (a : Option Addr) (c L : Nat) (w : World) (h : (16384 : Int) < (L : Int)) :
    Calls Try.prog 9 #[.slice a L c] w fun e w' => e = .returned (.tuple #[.pointer none, .int .i64 2]) ∧ w' = w := by
  go_enter Try.func9, Try.ntmps9
  go_wp2
  go_ret2
  exact ⟨rfl, rfl⟩

set_option maxHeartbeats 400000 in
theorem of_none (a : Option Addr) (c : Nat) (w : World) :
    Calls Try.prog 9 #[.slice a 0 c] w fun e w' => e = .returned (.tuple #[.pointer none, .int .i64 50]) ∧ w' = w := by
  go_enter Try.func9, Try.ntmps9
  go_wp2
  go_ret2
  exact ⟨rfl, rfl⟩

set_option maxHeartbeats 400000 in
theorem of_odd (a : Option Addr) (c L : Nat) (w : World) (h : (L : Int) ≤ 16384) (h2 : L % 16 ≠ 0) :
    Calls Try.prog 9 #[.slice a L c] w fun e w' => e = .returned (.tuple #[.pointer none, .int .i64 50]) ∧ w' = w := by
  have q2 : ((L : Int) == 0) = false := by simp; omega
  have q3 : (Int.tmod (L : Int) 16 != 0) = true := by
    have : ¬ Int.tmod (L : Int) 16 = 0 := by rw [Int.tmod_eq_emod_of_nonneg (by omega)]; omega
    simp [this]
  have q4 : ((L : Int) % 16 != 0) = true := by
    have : ¬ (L : Int) % 16 = 0 := by omega
    simp [this]
  clear h2
  go_enter Try.func9, Try.ntmps9
  go_wp2
  go_ret2
  exact ⟨rfl, rfl⟩

end Go.Proofs.Ytekijhhpldnmnaa
