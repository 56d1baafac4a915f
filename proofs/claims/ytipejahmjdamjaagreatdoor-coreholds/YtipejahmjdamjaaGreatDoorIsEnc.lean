import Derived.Test.YtipejahmjdamjaaGreatDoorProg
import Derived.WalkKit
import Derived.WalkSpells
import Derived.WalkLawsBesides
import Derived.Deep.QuietTactic
import Derived.BigQuiet
import Derived.Below
import Derived.Laws.CopyRow
import Derived.Laws.Rows
import Derived.Laws.NewBlocks
namespace Go.Proofs.YtipejahmjdamjaaGreatDoor.Is
open Go.RowKit
set_option linter.unusedVariables false

/-- The names of the operations by their numbers; 0 has none. -/
def names : List ByteArray := [⟨#[]⟩, ⟨#[110, 111, 112]⟩, ⟨#[109, 111, 118]⟩, ⟨#[108, 105]⟩, ⟨#[104, 105]⟩, ⟨#[97, 100, 100]⟩, ⟨#[115, 117, 98]⟩, ⟨#[109, 117, 108]⟩, ⟨#[100, 105, 118]⟩, ⟨#[114, 101, 109]⟩, ⟨#[97, 110, 100]⟩, ⟨#[111, 114]⟩, ⟨#[120, 111, 114]⟩, ⟨#[115, 104, 108]⟩, ⟨#[115, 104, 114]⟩, ⟨#[115, 97, 114]⟩, ⟨#[115, 108, 116]⟩, ⟨#[115, 108, 116, 117]⟩, ⟨#[97, 100, 100, 105]⟩, ⟨#[108, 100]⟩, ⟨#[115, 116]⟩, ⟨#[98, 101, 113]⟩, ⟨#[98, 110, 101]⟩, ⟨#[98, 108, 116]⟩, ⟨#[98, 103, 101]⟩, ⟨#[98, 108, 116, 117]⟩, ⟨#[106, 109, 112]⟩, ⟨#[106, 97, 108]⟩, ⟨#[106, 114]⟩, ⟨#[99, 121, 99]⟩, ⟨#[104, 121, 112]⟩]
def forms : List Int := [0, 1, 3, 5, 5, 4, 4, 4, 4, 4, 4, 4, 4, 4, 4, 4, 4, 4, 6, 6, 6, 6, 6, 6, 6, 6, 7, 5, 2, 2, 7]
def costs : List Int := [0, 1, 1, 1, 1, 1, 1, 3, 8, 8, 1, 1, 1, 1, 1, 1, 1, 1, 1, 1, 1, 1, 1, 1, 1, 1, 1, 1, 1, 1, 24]
def nameAt (i : Nat) : ByteArray := names.getD i ⟨#[]⟩
def formAt (i : Nat) : Int := forms.getD i 0
def costAt (i : Nat) : Int := costs.getD i 0
/-- One row's cells. -/
def rowAt (i : Nat) : List Value := [.string (nameAt i), .int .i64 (formAt i), .int .i64 (costAt i)]
def hasA (f : Int) : Bool := f == 2 || f == 3 || f == 4 || f == 5 || f == 6
def hasB (f : Int) : Bool := f == 3 || f == 4 || f == 6
def hasC (f : Int) : Bool := f == 4
def hasI (f : Int) : Bool := f == 5 || f == 6 || f == 7
def shapeAt (i : Nat) : List Value := [.bool (hasA i), .bool (hasB i), .bool (hasC i), .bool (hasI i)]

/-- The two tables of package isa lie as the text lays them. -/
structure Tabs (w : World) : Prop where
  ops : ∃ cs t, w.heap[0]? = some (.cells cs t (0, 0)) ∧ ∀ i, i < 31 → ∀ j, j < 3 → cs[i * 3 + j]? = (rowAt i)[j]?
  shapes : ∃ cs t, w.heap[1]? = some (.cells cs t (0, 0)) ∧ ∀ i, i < 8 → ∀ j, j < 4 → cs[i * 4 + j]? = (shapeAt i)[j]?

theorem Tabs.keep {w w' : World} (h : Tabs w) (hb : Below w.heap.size w w') : Tabs w' := by
  obtain ⟨⟨cs, t, h1, h2⟩, cs', t', h3, h4⟩ := h
  exact ⟨⟨cs, t, by rw [hb.block 0 (Array.getElem?_eq_some_iff.1 h1).1]; exact h1, h2⟩, cs', t', by rw [hb.block 1 (Array.getElem?_eq_some_iff.1 h3).1]; exact h3, h4⟩
theorem Tabs.op {w : World} (h : Tabs w) (i j : Nat) (hi : i < 31) (hj : j < 3) : w.cell? ⟨0, i * 3 + j, none⟩ = (rowAt i)[j]? := by
  obtain ⟨cs, t, h1, h2⟩ := h.ops
  simp only [World.cell?, h1]
  exact h2 i hi j hj
theorem Tabs.shape {w : World} (h : Tabs w) (i j : Nat) (hi : i < 8) (hj : j < 4) : w.cell? ⟨1, i * 4 + j, none⟩ = (shapeAt i)[j]? := by
  obtain ⟨cs, t, h1, h2⟩ := h.shapes
  simp only [World.cell?, h1]
  exact h2 i hi j hj
theorem Tabs.name {w : World} (h : Tabs w) (i : Nat) (hi : i < 31) : w.cell? ⟨0, i * 3, none⟩ = some (.string (nameAt i)) := h.op i 0 hi (by omega)
theorem Tabs.form {w : World} (h : Tabs w) (i : Nat) (hi : i < 31) : w.cell? ⟨0, i * 3 + 1, none⟩ = some (.int .i64 (formAt i)) := h.op i 1 hi (by omega)
theorem Tabs.cost {w : World} (h : Tabs w) (i : Nat) (hi : i < 31) : w.cell? ⟨0, i * 3 + 2, none⟩ = some (.int .i64 (costAt i)) := h.op i 2 hi (by omega)

/-- The row that speaks of an operation. -/
def rowOf (n : Int) : Nat := if n < 0 ∨ 31 ≤ n then 0 else n.toNat
theorem rowOf_lt (n : Int) : rowOf n < 31 := by unfold rowOf; split <;> omega
def formOf (n : Int) : Int := formAt (rowOf n)
def nameOf (n : Int) : ByteArray := nameAt (rowOf n)
def costOf (n : Int) : Int := costAt (rowOf n)

set_option maxHeartbeats 400000 in
theorem row_any (n : Int) (w : World) : Calls Tryz.prog 144 #[.int .i64 n] w fun e w' => e = .returned (.int .i64 (rowOf n)) ∧ w' = w := by
  by_cases h0 : n < 0
  · have e : rowOf n = 0 := by unfold rowOf; rw [if_pos (.inl h0)]
    rw [e]
    clear e
    go_enter Tryz.func144, Tryz.ntmps144
    go_wp2
    go_ret
    exact ⟨rfl, rfl⟩
  · by_cases h1 : 31 ≤ n
    · have e : rowOf n = 0 := by unfold rowOf; rw [if_pos (.inr h1)]
      rw [e]
      clear e
      go_enter Tryz.func144, Tryz.ntmps144
      go_wp2
      go_ret
      exact ⟨rfl, rfl⟩
    · have e : ((rowOf n : Nat) : Int) = n := by unfold rowOf; rw [if_neg (by omega)]; omega
      rw [e]
      clear e
      go_enter Tryz.func144, Tryz.ntmps144
      go_wp2
      go_ret
      exact ⟨rfl, rfl⟩

set_option maxHeartbeats 400000 in
theorem form_any (n : Int) (w : World) (h : Tabs w) : Calls Tryz.prog 178 #[.int .i64 n] w fun e w' => e = .returned (.int .i64 (formOf n)) ∧ w' = w := by
  have hc := h.form (rowOf n) (rowOf_lt n)
  have hlt := rowOf_lt n
  unfold formOf
  revert hc hlt
  have hr := row_any n w
  revert hr
  generalize rowOf n = r
  intro hr hc hlt
  have HR : Hid (Calls _ _ _ _ _) := hr
  clear hr h
  go_enter Tryz.func178, Tryz.ntmps178
  go_wp2_with (go_at_call 144; refine HR.out.mono ?_; rintro e w' ⟨rfl, rfl⟩)
  go_ret
  exact ⟨rfl, rfl⟩
end Go.Proofs.YtipejahmjdamjaaGreatDoor.Is
namespace Go.Proofs.YtipejahmjdamjaaGreatDoor.Is
open Go.RowKit
set_option linter.unusedVariables false

theorem ret_bool {a b : Bool} (h : a = b) : Ending.returned (.bool a) = .returned (.bool b) := by rw [h]
/-- May a register's number stand there? -/
def fitB (there : Bool) (n : Int) : Bool := if there then decide (0 ≤ n ∧ n ≤ 15) else decide (n = 0)

set_option maxHeartbeats 400000 in
theorem fits_any (n : Int) (there : Bool) (w : World) : Calls Tryz.prog 181 #[.int .i64 n, .bool there] w fun e w' => e = .returned (.bool (fitB there n)) ∧ w' = w := by
  by_cases h0 : n = 0
  · subst h0
    cases there
    · go_enter Tryz.func181, Tryz.ntmps181
      go_wp2
      go_ret
      exact ⟨rfl, rfl⟩
    · go_enter Tryz.func181, Tryz.ntmps181
      go_wp2
      go_ret
      exact ⟨rfl, rfl⟩
  · cases there
    · have e : fitB false n = false := by simp [fitB, h0]
      rw [e]; clear e
      go_enter Tryz.func181, Tryz.ntmps181
      go_wp2
      go_ret
      exact ⟨ret_bool (by simpa using h0), rfl⟩
    · by_cases h1 : 0 < n
      · by_cases h2 : n < 16
        · have e : fitB true n = true := by simp [fitB]; omega
          rw [e]; clear e
          go_enter Tryz.func181, Tryz.ntmps181
          go_wp2
          go_ret
          exact ⟨rfl, rfl⟩
        · have e : fitB true n = false := by simp [fitB]; omega
          rw [e]; clear e
          go_enter Tryz.func181, Tryz.ntmps181
          go_wp2
          go_ret
          exact ⟨ret_bool (by simpa using h0), rfl⟩
      · have e : fitB true n = false := by simp [fitB]; omega
        rw [e]; clear e
        go_enter Tryz.func181, Tryz.ntmps181
        go_wp2
        go_ret
        exact ⟨ret_bool (by simpa using h0), rfl⟩

set_option maxHeartbeats 400000 in
theorem ones18 (w : World) : Calls Tryz.prog 203 #[.int .i64 18] w fun e w' => e = .returned (.int .u32 262143) ∧ w' = w := by
  go_enter Tryz.func203, Tryz.ntmps203
  go_wp2
  go_ret
  exact ⟨rfl, rfl⟩

set_option maxHeartbeats 400000 in
theorem has18 (w : World) : Calls Tryz.prog 202 #[.int .i64 0, .int .i64 18] w fun e w' => e = .returned (.bool true) ∧ w' = w := by
  go_enter Tryz.func202, Tryz.ntmps202
  go_wp2
  go_ret
  exact ⟨rfl, rfl⟩

theorem mask18 (x : Int) : bits .and .u32 (x % 4294967296) 262143 = x % 262144 := by
  obtain ⟨m, hm⟩ : ∃ m : Nat, x % 4294967296 = (m : Int) := ⟨(x % 4294967296).toNat, by omega⟩
  have hlt : m < 4294967296 := by omega
  have e : (262143 : Int) = ((2 ^ 18 - 1 : Nat) : Int) := by decide
  rw [hm, e, u32_and_nat _ _ hlt (by decide), Nat.and_two_pow_sub_one_eq_mod]
  omega

theorem ret_two {k k' : IntKind} {a b c : Int} (h : a = b) : Ending.returned (.tuple #[.int k a, .int k' c]) = .returned (.tuple #[.int k b, .int k' c]) := by rw [h]
theorem ret_int {k : IntKind} {a b : Int} (h : a = b) : Ending.returned (.int k a) = .returned (.int k b) := by rw [h]

set_option maxHeartbeats 400000 in
theorem uns_yes (x : Int) (w : World) (h1 : -131072 ≤ x) (h2 : x < 131072) : Calls Tryz.prog 182 #[.int .i64 x, .int .i64 18] w fun e w' => e = .returned (.tuple #[.int .u32 (x % 262144), .int .i64 0]) ∧ w' = w := by
  go_enter Tryz.func182, Tryz.ntmps182
  go_wp2_with (first | (go_at_call 202; refine (has18 _).mono ?_; rintro e w' ⟨rfl, rfl⟩) | (go_at_call 203; refine (ones18 _).mono ?_; rintro e w' ⟨rfl, rfl⟩))
  go_ret2
  exact ⟨ret_two (mask18 x), rfl⟩

set_option maxHeartbeats 400000 in
theorem uns_no (x : Int) (w : World) (h : x < -131072 ∨ 131072 ≤ x) : Calls Tryz.prog 182 #[.int .i64 x, .int .i64 18] w fun e w' => e = .returned (.tuple #[.int .u32 0, .int .i64 11]) ∧ w' = w := by
  by_cases h1 : x < -131072
  · clear h
    go_enter Tryz.func182, Tryz.ntmps182
    go_wp2_with (first | (go_at_call 202; refine (has18 _).mono ?_; rintro e w' ⟨rfl, rfl⟩) | (go_at_call 203; refine (ones18 _).mono ?_; rintro e w' ⟨rfl, rfl⟩))
    go_ret2
    exact ⟨rfl, rfl⟩
  · have h2 : 131072 ≤ x := by omega
    clear h
    go_enter Tryz.func182, Tryz.ntmps182
    go_wp2_with (first | (go_at_call 202; refine (has18 _).mono ?_; rintro e w' ⟨rfl, rfl⟩) | (go_at_call 203; refine (ones18 _).mono ?_; rintro e w' ⟨rfl, rfl⟩))
    go_ret2
    exact ⟨rfl, rfl⟩

/-- What Signed makes of 18 bits. -/
def sgn18 (m : Int) : Int := if 131071 < m then m - 262144 else m

set_option maxHeartbeats 400000 in
theorem sgn_any (x : Nat) (w : World) (hx : x < 262144) : Calls Tryz.prog 180 #[.int .u32 x, .int .i64 18] w fun e w' => e = .returned (.tuple #[.int .i64 (sgn18 x), .int .i64 0]) ∧ w' = w := by
  by_cases h : x < 131072
  · have hq : ((x : Int) / 131072 == 0) = true := by simp only [beq_iff_eq]; omega
    have e : sgn18 x = x := by unfold sgn18; rw [if_neg (by omega)]
    rw [e]; clear e
    go_enter Tryz.func180, Tryz.ntmps180
    go_wp2_with (first | (go_at_call 202; refine (has18 _).mono ?_; rintro e w' ⟨rfl, rfl⟩) | (go_at_call 203; refine (ones18 _).mono ?_; rintro e w' ⟨rfl, rfl⟩))
    go_ret2
    exact ⟨rfl, rfl⟩
  · have hq : ((x : Int) / 131072 == 0) = false := by simp only [beq_eq_false_iff_ne]; omega
    have e : sgn18 x = x - 262144 := by unfold sgn18; rw [if_pos (by omega)]
    rw [e]; clear e
    go_enter Tryz.func180, Tryz.ntmps180
    go_wp2_with (first | (go_at_call 202; refine (has18 _).mono ?_; rintro e w' ⟨rfl, rfl⟩) | (go_at_call 203; refine (ones18 _).mono ?_; rintro e w' ⟨rfl, rfl⟩))
    go_ret2
    exact ⟨rfl, rfl⟩

set_option maxHeartbeats 400000 in
theorem reg22 (x : Nat) (w : World) (hx : x < 4294967296) : Calls Tryz.prog 179 #[.int .u32 x, .int .i64 22] w fun e w' => e = .returned (.int .i64 ((x / 4194304 % 16 : Nat) : Int)) ∧ w' = w := by
  go_enter Tryz.func179, Tryz.ntmps179
  go_wp2
  go_ret
  exact ⟨ret_int (by omega), rfl⟩
set_option maxHeartbeats 400000 in
theorem reg18 (x : Nat) (w : World) (hx : x < 4294967296) : Calls Tryz.prog 179 #[.int .u32 x, .int .i64 18] w fun e w' => e = .returned (.int .i64 ((x / 262144 % 16 : Nat) : Int)) ∧ w' = w := by
  go_enter Tryz.func179, Tryz.ntmps179
  go_wp2
  go_ret
  exact ⟨ret_int (by omega), rfl⟩
set_option maxHeartbeats 400000 in
theorem reg14 (x : Nat) (w : World) (hx : x < 4294967296) : Calls Tryz.prog 179 #[.int .u32 x, .int .i64 14] w fun e w' => e = .returned (.int .i64 ((x / 16384 % 16 : Nat) : Int)) ∧ w' = w := by
  go_enter Tryz.func179, Tryz.ntmps179
  go_wp2
  go_ret
  exact ⟨ret_int (by omega), rfl⟩
end Go.Proofs.YtipejahmjdamjaaGreatDoor.Is
namespace Go.Proofs.YtipejahmjdamjaaGreatDoor.Is
open Go.RowKit
set_option linter.unusedVariables false

theorem formAt_lt : ∀ i : Nat, i < 31 → 0 ≤ formAt i ∧ formAt i < 8 := by decide
theorem formOf_nat (n : Int) : ∃ k : Nat, formOf n = (k : Int) ∧ k < 8 := by
  have := formAt_lt (rowOf n) (rowOf_lt n)
  exact ⟨(formOf n).toNat, by unfold formOf; omega, by unfold formOf; omega⟩
theorem below_all {w w1 w2 : World} (h1 : Below w.heap.size w w1) (h2 : Below w1.heap.size w1 w2) : Below w.heap.size w w2 := h1.trans (h2.mono h1.size)
theorem below_new (w : World) (o : Obj) : Below w.heap.size w (w.alloc o) := (Below.refl w.heap.size w).alloc (Nat.le_refl _) o

/-- What stands behind 'form := Form(i.Op)'. -/
theorem boxed {w w' : World} {cs : Array Value} {t : TypeId} (h : Tabs w) (hw : w' = w.alloc (.cells cs t (0, 0))) :
    Tabs w' ∧ Below w.heap.size w w' ∧ ∃ b, b = w.heap.size ∧ w'.heap[b]? = some (.cells cs t (0, 0)) := by
  subst hw
  have hb := below_new w (.cells cs t (0, 0))
  exact ⟨h.keep hb, hb, _, rfl, heap_alloc_new w _⟩

/-- An instruction as a value. -/
def insV (op a b c imm : Int) : Value := .agg #[.int .i64 op, .int .i64 a, .int .i64 b, .int .i64 c, .int .i64 imm]
/-- Its word, as the program makes it. -/
def orW (op a b c imm : Int) : Int :=
  bits .or .u32 (bits .or .u32 (bits .or .u32 (bits .or .u32 (op % 4294967296 * 67108864 % 4294967296) (a % 4294967296 * 4194304 % 4294967296)) (b % 4294967296 * 262144 % 4294967296)) (c % 4294967296 * 16384 % 4294967296)) (imm % 262144)

set_option maxHeartbeats 1000000 in
theorem enc_zero (op a b c imm : Int) (w : World) (h : Tabs w) (hk : formOf op = 0) :
    Calls Tryz.prog 129 #[insV op a b c imm] w fun e w' => e = .returned (.tuple #[.int .u32 0, .int .i64 21]) ∧ Below w.heap.size w w' := by
  unfold insV
  go_enter Tryz.func129, Tryz.ntmps129
  go_wp2_with fail
  refine (form_any op _ (boxed h rfl).1).mono ?_
  rintro e w1 ⟨rfl, hw⟩
  rw [hk]
  obtain ⟨ht, hbl, g, hg, hblk⟩ := boxed h hw
  rw [← hg]
  have c0 := cell_of_row w1 g 0 _ _ _ hblk
  have c1 := cell_of_row w1 g 1 _ _ _ hblk
  have c2 := cell_of_row w1 g 2 _ _ _ hblk
  have c3 := cell_of_row w1 g 3 _ _ _ hblk
  have c4 := cell_of_row w1 g 4 _ _ _ hblk
  have s0 := ht.shape 0 0 (by omega) (by omega)
  have s1 := ht.shape 0 1 (by omega) (by omega)
  have s2 := ht.shape 0 2 (by omega) (by omega)
  have s3 := ht.shape 0 3 (by omega) (by omega)
  simp only [shapeAt, List.getElem?_cons_zero, List.getElem?_cons_succ, Nat.add_zero, Nat.zero_mul, Nat.zero_add] at s0 s1 s2 s3
  simp only [List.getElem?_toArray, List.getElem?_cons_zero, List.getElem?_cons_succ] at c0 c1 c2 c3 c4
  have hgl : g < w1.heap.size := (Array.getElem?_eq_some_iff.1 hblk).1
  have HBL : Hid (Below _ _ _) := hbl
  clear hg hw hblk ht h hk hbl
  generalize hasA (0 : Nat) = ha at *
  generalize hasB (0 : Nat) = hb at *
  generalize hasC (0 : Nat) = hc at *
  generalize hasI (0 : Nat) = hi at *
  go_wp2
  go_ret2
  exact ⟨rfl, below_all HBL.out (below_new _ _)⟩

set_option maxHeartbeats 1000000 in
theorem enc_a (op a b c imm : Int) (w : World) (h : Tabs w) (k : Nat) (hk : formOf op = (k : Int)) (hk8 : k < 8) (hk0 : k ≠ 0) (FA : fitB (hasA k) a = false) :
    Calls Tryz.prog 129 #[insV op a b c imm] w fun e w' => e = .returned (.tuple #[.int .u32 0, .int .i64 21]) ∧ Below w.heap.size w w' := by
  unfold insV
  have CA := fun w => fits_any a (hasA k) w
  rw [FA] at CA
  have HCA : Hid (∀ w, Calls _ _ _ w _) := CA
  clear CA FA
  have hkb : ((k : Int) == 0) = false := by simp only [beq_eq_false_iff_ne]; omega
  go_enter Tryz.func129, Tryz.ntmps129
  go_wp2_with fail
  refine (form_any op _ (boxed h rfl).1).mono ?_
  rintro e w1 ⟨rfl, hw⟩
  rw [hk]
  obtain ⟨ht, hbl, g, hg, hblk⟩ := boxed h hw
  rw [← hg]
  have c0 := cell_of_row w1 g 0 _ _ _ hblk
  have c1 := cell_of_row w1 g 1 _ _ _ hblk
  have c2 := cell_of_row w1 g 2 _ _ _ hblk
  have c3 := cell_of_row w1 g 3 _ _ _ hblk
  have c4 := cell_of_row w1 g 4 _ _ _ hblk
  have s0 := ht.shape k 0 hk8 (by omega)
  have s1 := ht.shape k 1 hk8 (by omega)
  have s2 := ht.shape k 2 hk8 (by omega)
  have s3 := ht.shape k 3 hk8 (by omega)
  simp only [shapeAt, List.getElem?_cons_zero, List.getElem?_cons_succ, Nat.add_zero] at s0 s1 s2 s3
  simp only [List.getElem?_toArray, List.getElem?_cons_zero, List.getElem?_cons_succ] at c0 c1 c2 c3 c4
  have hgl : g < w1.heap.size := (Array.getElem?_eq_some_iff.1 hblk).1
  have HBL : Hid (Below _ _ _) := hbl
  clear hg hw hblk ht h hk hbl
  generalize hasA k = ha at *
  generalize hasB k = hb at *
  generalize hasC k = hc at *
  generalize hasI k = hi at *
  go_wp2_with fail
  refine (HCA.out _).mono ?_
  rintro e w2 ⟨rfl, rfl⟩
  go_wp2
  go_ret2
  exact ⟨rfl, below_all HBL.out (below_new _ _)⟩

set_option maxHeartbeats 1000000 in
theorem enc_b (op a b c imm : Int) (w : World) (h : Tabs w) (k : Nat) (hk : formOf op = (k : Int)) (hk8 : k < 8) (hk0 : k ≠ 0) (FA : fitB (hasA k) a = true) (FB : fitB (hasB k) b = false) :
    Calls Tryz.prog 129 #[insV op a b c imm] w fun e w' => e = .returned (.tuple #[.int .u32 0, .int .i64 21]) ∧ Below w.heap.size w w' := by
  unfold insV
  have CA := fun w => fits_any a (hasA k) w
  rw [FA] at CA
  have HCA : Hid (∀ w, Calls _ _ _ w _) := CA
  have CB := fun w => fits_any b (hasB k) w
  rw [FB] at CB
  have HCB : Hid (∀ w, Calls _ _ _ w _) := CB
  clear CA CB FA FB
  have hkb : ((k : Int) == 0) = false := by simp only [beq_eq_false_iff_ne]; omega
  go_enter Tryz.func129, Tryz.ntmps129
  go_wp2_with fail
  refine (form_any op _ (boxed h rfl).1).mono ?_
  rintro e w1 ⟨rfl, hw⟩
  rw [hk]
  obtain ⟨ht, hbl, g, hg, hblk⟩ := boxed h hw
  rw [← hg]
  have c0 := cell_of_row w1 g 0 _ _ _ hblk
  have c1 := cell_of_row w1 g 1 _ _ _ hblk
  have c2 := cell_of_row w1 g 2 _ _ _ hblk
  have c3 := cell_of_row w1 g 3 _ _ _ hblk
  have c4 := cell_of_row w1 g 4 _ _ _ hblk
  have s0 := ht.shape k 0 hk8 (by omega)
  have s1 := ht.shape k 1 hk8 (by omega)
  have s2 := ht.shape k 2 hk8 (by omega)
  have s3 := ht.shape k 3 hk8 (by omega)
  simp only [shapeAt, List.getElem?_cons_zero, List.getElem?_cons_succ, Nat.add_zero] at s0 s1 s2 s3
  simp only [List.getElem?_toArray, List.getElem?_cons_zero, List.getElem?_cons_succ] at c0 c1 c2 c3 c4
  have hgl : g < w1.heap.size := (Array.getElem?_eq_some_iff.1 hblk).1
  have HBL : Hid (Below _ _ _) := hbl
  clear hg hw hblk ht h hk hbl
  generalize hasA k = ha at *
  generalize hasB k = hb at *
  generalize hasC k = hc at *
  generalize hasI k = hi at *
  go_wp2_with fail
  refine (HCA.out _).mono ?_
  rintro e w2 ⟨rfl, rfl⟩
  go_wp2_with fail
  refine (HCB.out _).mono ?_
  rintro e w2 ⟨rfl, rfl⟩
  go_wp2
  go_ret2
  exact ⟨rfl, below_all HBL.out (below_new _ _)⟩

set_option maxHeartbeats 1000000 in
theorem enc_c (op a b c imm : Int) (w : World) (h : Tabs w) (k : Nat) (hk : formOf op = (k : Int)) (hk8 : k < 8) (hk0 : k ≠ 0) (FA : fitB (hasA k) a = true) (FB : fitB (hasB k) b = true) (FC : fitB (hasC k) c = false) :
    Calls Tryz.prog 129 #[insV op a b c imm] w fun e w' => e = .returned (.tuple #[.int .u32 0, .int .i64 21]) ∧ Below w.heap.size w w' := by
  unfold insV
  have CA := fun w => fits_any a (hasA k) w
  rw [FA] at CA
  have HCA : Hid (∀ w, Calls _ _ _ w _) := CA
  have CB := fun w => fits_any b (hasB k) w
  rw [FB] at CB
  have HCB : Hid (∀ w, Calls _ _ _ w _) := CB
  have CC := fun w => fits_any c (hasC k) w
  rw [FC] at CC
  have HCC : Hid (∀ w, Calls _ _ _ w _) := CC
  clear CA CB CC FA FB FC
  have hkb : ((k : Int) == 0) = false := by simp only [beq_eq_false_iff_ne]; omega
  go_enter Tryz.func129, Tryz.ntmps129
  go_wp2_with fail
  refine (form_any op _ (boxed h rfl).1).mono ?_
  rintro e w1 ⟨rfl, hw⟩
  rw [hk]
  obtain ⟨ht, hbl, g, hg, hblk⟩ := boxed h hw
  rw [← hg]
  have c0 := cell_of_row w1 g 0 _ _ _ hblk
  have c1 := cell_of_row w1 g 1 _ _ _ hblk
  have c2 := cell_of_row w1 g 2 _ _ _ hblk
  have c3 := cell_of_row w1 g 3 _ _ _ hblk
  have c4 := cell_of_row w1 g 4 _ _ _ hblk
  have s0 := ht.shape k 0 hk8 (by omega)
  have s1 := ht.shape k 1 hk8 (by omega)
  have s2 := ht.shape k 2 hk8 (by omega)
  have s3 := ht.shape k 3 hk8 (by omega)
  simp only [shapeAt, List.getElem?_cons_zero, List.getElem?_cons_succ, Nat.add_zero] at s0 s1 s2 s3
  simp only [List.getElem?_toArray, List.getElem?_cons_zero, List.getElem?_cons_succ] at c0 c1 c2 c3 c4
  have hgl : g < w1.heap.size := (Array.getElem?_eq_some_iff.1 hblk).1
  have HBL : Hid (Below _ _ _) := hbl
  clear hg hw hblk ht h hk hbl
  generalize hasA k = ha at *
  generalize hasB k = hb at *
  generalize hasC k = hc at *
  generalize hasI k = hi at *
  go_wp2_with fail
  refine (HCA.out _).mono ?_
  rintro e w2 ⟨rfl, rfl⟩
  go_wp2_with fail
  refine (HCB.out _).mono ?_
  rintro e w2 ⟨rfl, rfl⟩
  go_wp2_with fail
  refine (HCC.out _).mono ?_
  rintro e w2 ⟨rfl, rfl⟩
  go_wp2
  go_ret2
  exact ⟨rfl, below_all HBL.out (below_new _ _)⟩

set_option maxHeartbeats 1000000 in
theorem enc_i (op a b c imm : Int) (w : World) (h : Tabs w) (k : Nat) (hk : formOf op = (k : Int)) (hk8 : k < 8) (hk0 : k ≠ 0) (FA : fitB (hasA k) a = true) (FB : fitB (hasB k) b = true) (FC : fitB (hasC k) c = true) (FI : hasI k = false) (hm : imm ≠ 0) :
    Calls Tryz.prog 129 #[insV op a b c imm] w fun e w' => e = .returned (.tuple #[.int .u32 0, .int .i64 21]) ∧ Below w.heap.size w w' := by
  unfold insV
  have CA := fun w => fits_any a (hasA k) w
  rw [FA] at CA
  have HCA : Hid (∀ w, Calls _ _ _ w _) := CA
  have CB := fun w => fits_any b (hasB k) w
  rw [FB] at CB
  have HCB : Hid (∀ w, Calls _ _ _ w _) := CB
  have CC := fun w => fits_any c (hasC k) w
  rw [FC] at CC
  have HCC : Hid (∀ w, Calls _ _ _ w _) := CC
  clear CA CB CC FA FB FC
  have hkb : ((k : Int) == 0) = false := by simp only [beq_eq_false_iff_ne]; omega
  go_enter Tryz.func129, Tryz.ntmps129
  go_wp2_with fail
  refine (form_any op _ (boxed h rfl).1).mono ?_
  rintro e w1 ⟨rfl, hw⟩
  rw [hk]
  obtain ⟨ht, hbl, g, hg, hblk⟩ := boxed h hw
  rw [← hg]
  have c0 := cell_of_row w1 g 0 _ _ _ hblk
  have c1 := cell_of_row w1 g 1 _ _ _ hblk
  have c2 := cell_of_row w1 g 2 _ _ _ hblk
  have c3 := cell_of_row w1 g 3 _ _ _ hblk
  have c4 := cell_of_row w1 g 4 _ _ _ hblk
  have s0 := ht.shape k 0 hk8 (by omega)
  have s1 := ht.shape k 1 hk8 (by omega)
  have s2 := ht.shape k 2 hk8 (by omega)
  have s3 := ht.shape k 3 hk8 (by omega)
  simp only [shapeAt, FI, List.getElem?_cons_zero, List.getElem?_cons_succ, Nat.add_zero] at s0 s1 s2 s3
  simp only [List.getElem?_toArray, List.getElem?_cons_zero, List.getElem?_cons_succ] at c0 c1 c2 c3 c4
  have hgl : g < w1.heap.size := (Array.getElem?_eq_some_iff.1 hblk).1
  have HBL : Hid (Below _ _ _) := hbl
  clear hg hw hblk ht h hk hbl FI
  have hmb : (imm == 0) = false := by simpa using hm
  generalize hasA k = ha at *
  generalize hasB k = hb at *
  generalize hasC k = hc at *
  go_wp2_with fail
  refine (HCA.out _).mono ?_
  rintro e w2 ⟨rfl, rfl⟩
  go_wp2_with fail
  refine (HCB.out _).mono ?_
  rintro e w2 ⟨rfl, rfl⟩
  go_wp2_with fail
  refine (HCC.out _).mono ?_
  rintro e w2 ⟨rfl, rfl⟩
  go_wp2
  go_ret2
  exact ⟨rfl, below_all HBL.out (below_new _ _)⟩

set_option maxHeartbeats 1000000 in
theorem enc_r (op a b c imm : Int) (w : World) (h : Tabs w) (k : Nat) (hk : formOf op = (k : Int)) (hk8 : k < 8) (hk0 : k ≠ 0) (FA : fitB (hasA k) a = true) (FB : fitB (hasB k) b = true) (FC : fitB (hasC k) c = true) (FI : hasI k = true) (hr : imm < -131072 ∨ 131072 ≤ imm) :
    Calls Tryz.prog 129 #[insV op a b c imm] w fun e w' => e = .returned (.tuple #[.int .u32 0, .int .i64 21]) ∧ Below w.heap.size w w' := by
  unfold insV
  have CA := fun w => fits_any a (hasA k) w
  rw [FA] at CA
  have HCA : Hid (∀ w, Calls _ _ _ w _) := CA
  have CB := fun w => fits_any b (hasB k) w
  rw [FB] at CB
  have HCB : Hid (∀ w, Calls _ _ _ w _) := CB
  have CC := fun w => fits_any c (hasC k) w
  rw [FC] at CC
  have HCC : Hid (∀ w, Calls _ _ _ w _) := CC
  clear CA CB CC FA FB FC
  have HL : Hid (_ ∨ _) := hr
  clear hr
  have hkb : ((k : Int) == 0) = false := by simp only [beq_eq_false_iff_ne]; omega
  go_enter Tryz.func129, Tryz.ntmps129
  go_wp2_with fail
  refine (form_any op _ (boxed h rfl).1).mono ?_
  rintro e w1 ⟨rfl, hw⟩
  rw [hk]
  obtain ⟨ht, hbl, g, hg, hblk⟩ := boxed h hw
  rw [← hg]
  have c0 := cell_of_row w1 g 0 _ _ _ hblk
  have c1 := cell_of_row w1 g 1 _ _ _ hblk
  have c2 := cell_of_row w1 g 2 _ _ _ hblk
  have c3 := cell_of_row w1 g 3 _ _ _ hblk
  have c4 := cell_of_row w1 g 4 _ _ _ hblk
  have s0 := ht.shape k 0 hk8 (by omega)
  have s1 := ht.shape k 1 hk8 (by omega)
  have s2 := ht.shape k 2 hk8 (by omega)
  have s3 := ht.shape k 3 hk8 (by omega)
  simp only [shapeAt, FI, List.getElem?_cons_zero, List.getElem?_cons_succ, Nat.add_zero] at s0 s1 s2 s3
  simp only [List.getElem?_toArray, List.getElem?_cons_zero, List.getElem?_cons_succ] at c0 c1 c2 c3 c4
  have hgl : g < w1.heap.size := (Array.getElem?_eq_some_iff.1 hblk).1
  have HBL : Hid (Below _ _ _) := hbl
  clear hg hw hblk ht h hk hbl FI
  generalize hasA k = ha at *
  generalize hasB k = hb at *
  generalize hasC k = hc at *
  go_wp2_with fail
  refine (HCA.out _).mono ?_
  rintro e w2 ⟨rfl, rfl⟩
  go_wp2_with fail
  refine (HCB.out _).mono ?_
  rintro e w2 ⟨rfl, rfl⟩
  go_wp2_with fail
  refine (HCC.out _).mono ?_
  rintro e w2 ⟨rfl, rfl⟩
  go_wp2_with fail
  refine (uns_no _ _ HL.out).mono ?_
  rintro e w2 ⟨rfl, rfl⟩
  go_wp2
  go_ret2
  exact ⟨rfl, below_all HBL.out (below_new _ _)⟩

set_option maxHeartbeats 1000000 in
theorem enc_yes (op a b c imm : Int) (w : World) (h : Tabs w) (k : Nat) (hk : formOf op = (k : Int)) (hk8 : k < 8) (hk0 : k ≠ 0) (FA : fitB (hasA k) a = true) (FB : fitB (hasB k) b = true) (FC : fitB (hasC k) c = true) (FI : hasI k = true) (hl : -131072 ≤ imm) (hu : imm < 131072) :
    Calls Tryz.prog 129 #[insV op a b c imm] w fun e w' => e = .returned (.tuple #[.int .u32 (orW op a b c imm), .int .i64 0]) ∧ Below w.heap.size w w' := by
  unfold insV
  unfold orW
  have CA := fun w => fits_any a (hasA k) w
  rw [FA] at CA
  have HCA : Hid (∀ w, Calls _ _ _ w _) := CA
  have CB := fun w => fits_any b (hasB k) w
  rw [FB] at CB
  have HCB : Hid (∀ w, Calls _ _ _ w _) := CB
  have CC := fun w => fits_any c (hasC k) w
  rw [FC] at CC
  have HCC : Hid (∀ w, Calls _ _ _ w _) := CC
  clear CA CB CC FA FB FC
  have HL : Hid (_ ∧ _) := And.intro hl hu
  clear hl hu
  have hkb : ((k : Int) == 0) = false := by simp only [beq_eq_false_iff_ne]; omega
  go_enter Tryz.func129, Tryz.ntmps129
  go_wp2_with fail
  refine (form_any op _ (boxed h rfl).1).mono ?_
  rintro e w1 ⟨rfl, hw⟩
  rw [hk]
  obtain ⟨ht, hbl, g, hg, hblk⟩ := boxed h hw
  rw [← hg]
  have c0 := cell_of_row w1 g 0 _ _ _ hblk
  have c1 := cell_of_row w1 g 1 _ _ _ hblk
  have c2 := cell_of_row w1 g 2 _ _ _ hblk
  have c3 := cell_of_row w1 g 3 _ _ _ hblk
  have c4 := cell_of_row w1 g 4 _ _ _ hblk
  have s0 := ht.shape k 0 hk8 (by omega)
  have s1 := ht.shape k 1 hk8 (by omega)
  have s2 := ht.shape k 2 hk8 (by omega)
  have s3 := ht.shape k 3 hk8 (by omega)
  simp only [shapeAt, FI, List.getElem?_cons_zero, List.getElem?_cons_succ, Nat.add_zero] at s0 s1 s2 s3
  simp only [List.getElem?_toArray, List.getElem?_cons_zero, List.getElem?_cons_succ] at c0 c1 c2 c3 c4
  have hgl : g < w1.heap.size := (Array.getElem?_eq_some_iff.1 hblk).1
  have HBL : Hid (Below _ _ _) := hbl
  clear hg hw hblk ht h hk hbl FI
  generalize hasA k = ha at *
  generalize hasB k = hb at *
  generalize hasC k = hc at *
  go_wp2_with fail
  refine (HCA.out _).mono ?_
  rintro e w2 ⟨rfl, rfl⟩
  go_wp2_with fail
  refine (HCB.out _).mono ?_
  rintro e w2 ⟨rfl, rfl⟩
  go_wp2_with fail
  refine (HCC.out _).mono ?_
  rintro e w2 ⟨rfl, rfl⟩
  go_wp2_with fail
  refine (uns_yes _ _ HL.out.1 HL.out.2).mono ?_
  rintro e w2 ⟨rfl, rfl⟩
  go_wp2
  go_ret2
  exact ⟨rfl, below_all HBL.out (below_new _ _)⟩

set_option maxHeartbeats 1000000 in
theorem enc_none (op a b c imm : Int) (w : World) (h : Tabs w) (k : Nat) (hk : formOf op = (k : Int)) (hk8 : k < 8) (hk0 : k ≠ 0) (FA : fitB (hasA k) a = true) (FB : fitB (hasB k) b = true) (FC : fitB (hasC k) c = true) (FI : hasI k = false) (hm : imm = 0) :
    Calls Tryz.prog 129 #[insV op a b c imm] w fun e w' => e = .returned (.tuple #[.int .u32 (orW op a b c imm), .int .i64 0]) ∧ Below w.heap.size w w' := by
  unfold insV
  unfold orW
  subst hm
  have CA := fun w => fits_any a (hasA k) w
  rw [FA] at CA
  have HCA : Hid (∀ w, Calls _ _ _ w _) := CA
  have CB := fun w => fits_any b (hasB k) w
  rw [FB] at CB
  have HCB : Hid (∀ w, Calls _ _ _ w _) := CB
  have CC := fun w => fits_any c (hasC k) w
  rw [FC] at CC
  have HCC : Hid (∀ w, Calls _ _ _ w _) := CC
  clear CA CB CC FA FB FC
  have hkb : ((k : Int) == 0) = false := by simp only [beq_eq_false_iff_ne]; omega
  go_enter Tryz.func129, Tryz.ntmps129
  go_wp2_with fail
  refine (form_any op _ (boxed h rfl).1).mono ?_
  rintro e w1 ⟨rfl, hw⟩
  rw [hk]
  obtain ⟨ht, hbl, g, hg, hblk⟩ := boxed h hw
  rw [← hg]
  have c0 := cell_of_row w1 g 0 _ _ _ hblk
  have c1 := cell_of_row w1 g 1 _ _ _ hblk
  have c2 := cell_of_row w1 g 2 _ _ _ hblk
  have c3 := cell_of_row w1 g 3 _ _ _ hblk
  have c4 := cell_of_row w1 g 4 _ _ _ hblk
  have s0 := ht.shape k 0 hk8 (by omega)
  have s1 := ht.shape k 1 hk8 (by omega)
  have s2 := ht.shape k 2 hk8 (by omega)
  have s3 := ht.shape k 3 hk8 (by omega)
  simp only [shapeAt, FI, List.getElem?_cons_zero, List.getElem?_cons_succ, Nat.add_zero] at s0 s1 s2 s3
  simp only [List.getElem?_toArray, List.getElem?_cons_zero, List.getElem?_cons_succ] at c0 c1 c2 c3 c4
  have hgl : g < w1.heap.size := (Array.getElem?_eq_some_iff.1 hblk).1
  have HBL : Hid (Below _ _ _) := hbl
  clear hg hw hblk ht h hk hbl FI
  generalize hasA k = ha at *
  generalize hasB k = hb at *
  generalize hasC k = hc at *
  go_wp2_with fail
  refine (HCA.out _).mono ?_
  rintro e w2 ⟨rfl, rfl⟩
  go_wp2_with fail
  refine (HCB.out _).mono ?_
  rintro e w2 ⟨rfl, rfl⟩
  go_wp2_with fail
  refine (HCC.out _).mono ?_
  rintro e w2 ⟨rfl, rfl⟩
  go_wp2_with fail
  refine (uns_yes 0 _ (by omega) (by omega)).mono ?_
  rintro e w2 ⟨rfl, rfl⟩
  go_wp2
  go_ret2
  exact ⟨rfl, below_all HBL.out (below_new _ _)⟩

end Go.Proofs.YtipejahmjdamjaaGreatDoor.Is
