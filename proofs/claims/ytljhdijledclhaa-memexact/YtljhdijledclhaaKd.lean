import Derived.Test.YtljhdijledclhaaKc
namespace Go.Proofs.Ytljhdijledclhaa
open Go.RowKit Go.Shelf
set_option linter.unusedVariables false

set_option maxHeartbeats 400000 in
theorem read_nil (p : Int) (w : World) : Calls Try.prog 23 #[.pointer none, .int .i64 p] w fun e w' => e = .returned (.tuple #[.int .u32 0, .int .i64 3]) ∧ w' = w := by
  have H1 : Hid (Calls _ _ _ _ _) := run_nil p 1 w
  go_enter Try.func23, Try.ntmps23
  go_wp2_with fail
  refine H1.out.mono ?_
  rintro e w1 ⟨rfl, hw⟩
  obtain rfl := hw.symm
  clear hw H1
  go_wp2
  go_ret2
  exact ⟨rfl, rfl⟩

set_option maxHeartbeats 400000 in
theorem write_nil (p : Int) (x : Nat) (w : World) : Calls Try.prog 21 #[.pointer none, .int .i64 p, .int .u32 x] w fun e w' => e = .returned (.int .i64 3) ∧ w' = w := by
  have H1 : Hid (Calls _ _ _ _ _) := run_nil p 1 w
  go_enter Try.func21, Try.ntmps21
  go_wp2_with fail
  refine H1.out.mono ?_
  rintro e w1 ⟨rfl, hw⟩
  obtain rfl := hw.symm
  clear hw H1
  go_wp2
  go_ret
  exact ⟨rfl, rfl⟩

set_option maxHeartbeats 400000 in
theorem lay_nil (p : Int) (w : World) : Calls Try.prog 40 #[.pointer none, .int .i64 p, .slice none 0 0] w fun e w' => e = .returned (.int .i64 3) ∧ w' = w := by
  have H1 : Hid (Calls _ _ _ _ _) := run_nil p 0 w
  go_enter Try.func40, Try.ntmps40
  go_wp2_with fail
  refine H1.out.mono ?_
  rintro e w1 ⟨rfl, hw⟩
  obtain rfl := hw.symm
  clear hw H1
  go_wp2
  go_ret
  exact ⟨rfl, rfl⟩

set_option maxHeartbeats 400000 in
theorem fill_nil (p n : Int) (x : Nat) (w : World) : Calls Try.prog 41 #[.pointer none, .int .i64 p, .int .i64 n, .int .u32 x] w fun e w' => e = .returned (.int .i64 3) ∧ w' = w := by
  have H1 : Hid (Calls _ _ _ _ _) := run_nil p n w
  go_enter Try.func41, Try.ntmps41
  go_wp2_with fail
  refine H1.out.mono ?_
  rintro e w1 ⟨rfl, hw⟩
  obtain rfl := hw.symm
  clear hw H1
  go_wp2
  go_ret
  exact ⟨rfl, rfl⟩

set_option maxHeartbeats 400000 in
theorem move_nil (p q n : Int) (w : World) : Calls Try.prog 42 #[.pointer none, .int .i64 p, .int .i64 q, .int .i64 n] w fun e w' => e = .returned (.int .i64 3) ∧ w' = w := by
  have H1 : Hid (Calls _ _ _ _ _) := run_nil p n w
  go_enter Try.func42, Try.ntmps42
  go_wp2_with fail
  refine H1.out.mono ?_
  rintro e w1 ⟨rfl, hw⟩
  obtain rfl := hw.symm
  clear hw H1
  go_wp2
  go_ret
  exact ⟨rfl, rfl⟩

set_option maxHeartbeats 400000 in
theorem clone_nil (w : World) : Calls Try.prog 18 #[.pointer none] w fun e w' => e = .returned (.pointer none) ∧ w' = w := by
  go_enter Try.func18, Try.ntmps18
  go_wp2
  go_ret
  exact ⟨rfl, rfl⟩

set_option maxHeartbeats 400000 in
theorem frames_nil (w : World) : Calls Try.prog 16 #[.pointer none] w fun e w' => e = .returned (.int .i64 0) ∧ w' = w := by
  go_enter Try.func16, Try.ntmps16
  go_wp2
  go_ret
  exact ⟨rfl, rfl⟩

set_option maxHeartbeats 400000 in
theorem words_nil (w : World) : Calls Try.prog 17 #[.pointer none] w fun e w' => e = .returned (.slice none 0 0) ∧ w' = w := by
  go_enter Try.func17, Try.ntmps17
  go_wp2
  go_ret
  exact ⟨rfl, rfl⟩

/-- The first most of a list. -/
theorem head_any (a : Option Addr) (c n N : Nat) (w : World) (hn : (n : Int) ≤ c) (hc : (c : Int) ≤ 9223372036854775807) :
    Calls Try.prog 38 #[.slice a n c, .int .i64 N] w fun e w' => (∃ c', e = .returned (.slice a (min N n) c')) ∧ w' = w := by
  by_cases h : (N : Int) < n
  · have hm : min N n = N := by omega
    rw [hm]
    have h2 : ¬ ((c : Int) < (N : Int)) := by omega
    have h3 : (N : Int) ≤ c := by omega
    have h4 : N ≤ c := by omega
    go_enter Try.func38, Try.ntmps38
    go_wp2
    go_ret
    exact ⟨⟨_, rfl⟩, rfl⟩
  · have hm : min N n = n := by omega
    rw [hm]
    go_enter Try.func38, Try.ntmps38
    go_wp2
    go_ret
    exact ⟨⟨_, rfl⟩, rfl⟩

theorem SegI.at {w : World} {a : Option Addr} {zs : List Int} (h : SegI w a zs) {j : Nat} (hj : j < zs.length) : ∃ g o, a = some ⟨g, o, none⟩ ∧ w.cell? ⟨g, o + j, none⟩ = some (.int .i64 (zs.getD j 0)) := by
  rcases h with rfl | ⟨g, o, h1, h2⟩
  · simp at hj
  · refine ⟨g, o, h1, ?_⟩
    rw [h2 j hj]
    simp [List.getD, List.getElem?_eq_getElem hj]

set_option maxHeartbeats 400000 in
theorem sameI_any (a b : Option Addr) (xs : List Int) (c d : Nat) (w : World) (h1 : SegI w a xs) (h2 : SegI w b xs) (hl : xs.length ≤ 4294967296) :
    Calls Try.prog 37 #[.slice a xs.length c, .slice b xs.length d] w fun e w' => e = .returned (.bool true) ∧ Keeps (fun _ => False) w w' := by
  obtain ⟨m, hm⟩ : ∃ m, m = xs.length := ⟨_, rfl⟩
  rw [← hm]
  have hb : (m : Int) ≤ 4294967296 := by omega
  have HS : Hid (SegI w a xs ∧ SegI w b xs ∧ m = xs.length) := ⟨h1, h2, hm⟩
  clear h1 h2 hm hl
  go_enter Try.func37, Try.ntmps37
  go_wp2
  go_loopw [5] (fun i wr => ∃ j : Nat, j ≤ m ∧ i = .int .i64 j ∧ Keeps (fun _ => False) w wr) (fun i _ => m - (intOf i).toNat)
  case atStart => exact ⟨0, by omega, rfl, Keeps.refl _ _⟩
  case round =>
    obtain ⟨j, hj, rfl, hK⟩ := hrel
    by_cases hlt : j < m
    · have hlt' : (j : Int) < m := by omega
      obtain ⟨g, o, rfl, c1⟩ := (HS.out.1.kept hK fun _ _ e => e).at (j := j) (by have := HS.out.2.2; omega)
      obtain ⟨g2, o2, rfl, c2⟩ := (HS.out.2.1.kept hK fun _ _ e => e).at (j := j) (by have := HS.out.2.2; omega)
      obtain ⟨x, hx⟩ : ∃ x, x = xs.getD j 0 := ⟨_, rfl⟩
      rw [← hx] at c1 c2
      have HK : Hid (Keeps (fun _ => False) w wr) := hK
      clear hK hx hj
      go_wp2
      go_quiet (fail)
      go_wp2
      go_roundw
      case rel => exact ⟨j + 1, by omega, by go_num, HK.out.drewN _⟩
      case measure => simp [intOf]; omega
    · obtain rfl : j = m := by omega
      have HK : Hid (Keeps (fun _ => False) w wr) := hK
      clear hK hj hlt
      go_wp2
      go_ret
      exact ⟨rfl, HK.out⟩

end Go.Proofs.Ytljhdijledclhaa
