import Derived.Test.YthepajjbflmchaaH
namespace Go.Proofs.Ythepajjbflmchaa
open Go.RowKit
set_option linter.unusedVariables false

/-- The one frame: so many have come, the epoch. -/
def bs (x : Nat) (y : UInt32) : List UInt32 := [0, 0, 0, UInt32.ofNat x, y, 0, 0, 0, 0, 0, 0, 0, 0, 0, 0, 0]
theorem bs_ok (x : Nat) (y : UInt32) : BrOk (bs x y) 3 := ⟨by omega, by simp [bs]⟩
theorem bs_cm {x : Nat} (y : UInt32) (hx : x ≤ 4) : (cm (bs x y) 3).toNat = x := by
  show (UInt32.ofNat x).toNat = x
  simp; omega
theorem bs_ep (x : Nat) (y : UInt32) : ep (bs x y) 3 = y := rfl
theorem bs_come {x : Nat} (y : UInt32) (hx : x ≤ 4) : lay (bs x y) 3 [cm (bs x y) 3 + 1] = bs (x + 1) y := by
  have e : cm (bs x y) 3 + 1 = UInt32.ofNat (x + 1) := by
    show UInt32.ofNat x + 1 = UInt32.ofNat (x + 1)
    apply UInt32.toNat_inj.1
    simp
  rw [e]; rfl
theorem bs_open (x : Nat) (y : UInt32) : lay (bs x y) 3 [0, ep (bs x y) 3 + 1] = bs 0 (y + 1) := rfl
theorem bs_new : List.replicate (1 * 16) (0 : UInt32) = bs 0 0 := rfl
theorem bs_epoch (y : UInt32) : lay (bs 0 0) 4 [y] = bs 0 y := rfl
theorem bs_other (x : Nat) (y : UInt32) (i : Nat) (h : i < 16) (h3 : i ≠ 3) (h4 : i ≠ 4) : (bs x y)[i]'(by simpa [bs] using h) = 0 := by
  have e : i = 0 ∨ i = 1 ∨ i = 2 ∨ i = 5 ∨ i = 6 ∨ i = 7 ∨ i = 8 ∨ i = 9 ∨ i = 10 ∨ i = 11 ∨ i = 12 ∨ i = 13 ∨ i = 14 ∨ i = 15 := by omega
  rcases e with rfl | rfl | rfl | rfl | rfl | rfl | rfl | rfl | rfl | rfl | rfl | rfl | rfl | rfl <;> rfl

/-- A memory of one frame with a barrier at 3, all its blocks new. -/
structure Mt (w0 : World) (b g x : Nat) (y : UInt32) (w : World) : Prop where
  mm : Mm w b g (bs x y)
  k : Keeps (fun _ => False) w0 w
  up : w0.heap.size ≤ g

theorem Mt.next {w0 w w' : World} {b g x x' : Nat} {y y' : UInt32} (h : Mt w0 b g x y w) (hm : Mm w' b g (bs x' y')) (k : Keeps (· = g) w w') : Mt w0 b g x' y' w' :=
  ⟨hm, h.k.trans k (fun b hb e => by have := h.up; omega), h.up⟩
theorem Mt.grown {w0 w w' : World} {b g x : Nat} {y : UInt32} (h : Mt w0 b g x y w) (k : Keeps (fun _ => False) w w') : Mt w0 b g x y w' :=
  ⟨h.mm.kept k (fun e => e) (fun e => e), h.k.trans k (fun _ _ e => e), h.up⟩

section
variable {w0 w : World} {b g x : Nat} {y : UInt32}

theorem mt_look (h : Mt w0 b g x y w) (hx : x ≤ 4) : Calls Try.prog 13 #[.pointer (some ⟨b, 0, none⟩), .int .i64 3] w fun e w' => e = .returned (.tuple #[.agg #[.int .i64 (x : Int), .int .i64 (y.toNat : Int)], .int .i64 0]) ∧ Keeps (fun _ => False) w w' := by
  have h1 := look_in b g (bs x y) 3 w h.mm (bs_ok x y)
  rw [bs_cm y hx, bs_ep] at h1
  exact h1

theorem mt_short (h : Mt w0 b g x y w) {c : Nat} (hx : x < c) (hc : c ≤ 4) : Calls Try.prog 15 #[.pointer (some ⟨b, 0, none⟩), .int .i64 3, .int .i64 (c : Int)] w fun e w' => e = .returned (.int .i64 182) ∧ Keeps (fun _ => False) w w' := by
  have h1 := lf_in (c := (c : Int)) h.mm (bs_ok x y) ⟨by omega, by omega⟩
  rw [bs_cm y (by omega)] at h1
  exact open_short _ 3 c _ _ w h1 (by omega)

theorem mt_come (h : Mt w0 b g x y w) {c : Nat} (hx : x < c) (hc : c ≤ 4) : Calls Try.prog 14 #[.pointer (some ⟨b, 0, none⟩), .int .i64 3, .int .i64 (c : Int)] w fun e w' => e = .returned (.tuple #[.bool ((x : Int) + 1 == (c : Int)), .int .i64 0]) ∧ Mt w0 b g (x + 1) y w' ∧ Keeps (· = g) w w' := by
  have h1 := come_in b g (bs x y) 3 c w h.mm (bs_ok x y) (by omega) (by omega) (by rw [bs_cm y (by omega)]; omega)
  rw [bs_cm y (by omega)] at h1
  have e : lay (bs x y) (3 : Int).toNat [cm (bs x y) 3 + 1] = bs (x + 1) y := bs_come y (by omega)
  rw [e] at h1
  refine h1.mono ?_
  rintro e w' ⟨rfl, h2, h3⟩
  exact ⟨rfl, h.next h2 h3, h3⟩

theorem mt_full (h : Mt w0 b g x y w) (h1 : 1 ≤ x) (hx : x ≤ 4) : Calls Try.prog 14 #[.pointer (some ⟨b, 0, none⟩), .int .i64 3, .int .i64 (x : Int)] w fun e w' => e = .returned (.tuple #[.bool false, .int .i64 181]) ∧ Keeps (fun _ => False) w w' := by
  have h1 := lf_in (c := (x : Int)) h.mm (bs_ok x y) ⟨by omega, by omega⟩
  rw [bs_cm y (by omega)] at h1
  exact come_full _ 3 x _ _ w h1 (by omega)

theorem mt_open (h : Mt w0 b g x y w) (h1 : 1 ≤ x) (hx : x ≤ 4) : Calls Try.prog 15 #[.pointer (some ⟨b, 0, none⟩), .int .i64 3, .int .i64 (x : Int)] w fun e w' => e = .returned (.int .i64 0) ∧ Mt w0 b g 0 (y + 1) w' ∧ Keeps (· = g) w w' := by
  have h1 := open_in b g (bs x y) 3 x w h.mm (bs_ok x y) (by omega) (by omega) (by rw [bs_cm y (by omega)])
  have e : lay (bs x y) (3 : Int).toNat [0, ep (bs x y) 3 + 1] = bs 0 (y + 1) := bs_open x y
  rw [e] at h1
  refine h1.mono ?_
  rintro e w' ⟨rfl, h2, h3⟩
  exact ⟨rfl, h.next h2 h3, h3⟩

theorem mt_read (h : Mt w0 b g x y w) (i : Nat) (hi : i < 16) : Calls Try.prog 19 #[.pointer (some ⟨b, 0, none⟩), .int .i64 (i : Int)] w fun e w' => (∃ z : Nat, (i ≠ 3 → i ≠ 4 → z = 0) ∧ e = .returned (.tuple #[.int .u32 (z : Int), .int .i64 0])) ∧ w' = w := by
  refine (read_in b g (bs x y) i w h.mm (by simpa [bs] using hi)).mono ?_
  rintro e w' ⟨rfl, hw⟩
  refine ⟨⟨_, fun h3 h4 => ?_, rfl⟩, hw⟩
  rw [bs_other x y i hi h3 h4]; rfl
end

theorem mt_new (w : World) : Calls Try.prog 17 #[.int .i64 1] w fun e w' => e = .returned (.tuple #[.pointer (some ⟨w.heap.size + 1, 0, none⟩), .int .i64 0]) ∧ Mt w (w.heap.size + 1) w.heap.size 0 0 w' := by
  refine (new_in 1 w (by omega) (by omega)).mono ?_
  rintro e w' ⟨rfl, h1, h2⟩
  rw [bs_new] at h1
  exact ⟨rfl, h1, h2, Nat.le_refl _⟩

theorem mt_epoch {w0 w : World} {b g : Nat} (h : Mt w0 b g 0 0 w) (y : UInt32) : Calls Try.prog 18 #[.pointer (some ⟨b, 0, none⟩), .int .i64 4, .int .u32 (y.toNat : Int)] w fun e w' => e = .returned (.int .i64 0) ∧ Mt w0 b g 0 y w' := by
  refine (write_in b g (bs 0 0) 4 y w h.mm (by simp [bs])).mono ?_
  rintro e w' ⟨rfl, h1, h2⟩
  rw [bs_epoch] at h1
  exact ⟨rfl, h.next h1 h2⟩

end Go.Proofs.Ythepajjbflmchaa
