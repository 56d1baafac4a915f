import Derived.Test.YtohojpacijnnaaaDoorBits
import Derived.Laws.NewBlocks
namespace Go.Proofs.YtohojpacijnnaaaDoor.Is
open Go.RowKit
set_option linter.unusedVariables false

theorem formAt_lt : ∀ i : Nat, i < 31 → 0 ≤ formAt i ∧ formAt i < 8 := by decide
theorem formOf_nat (n : Int) : ∃ k : Nat, formOf n = (k : Int) ∧ k < 8 := by
  have := formAt_lt (rowOf n) (rowOf_lt n)
  exact ⟨(formOf n).toNat, by unfold formOf; omega, by unfold formOf; omega⟩
theorem below_all {w w1 w2 : World} (h1 : Below w.heap.size w w1) (h2 : Below w1.heap.size w1 w2) : Below w.heap.size w w2 := h1.trans (h2.mono h1.size)
theorem below_new (w : World) (o : Obj) : Below w.heap.size w (w.alloc o) := (Below.refl w.heap.size w).alloc (Nat.le_refl _) o

/-- What stands behind 'form := Form(i.Op)'. -/
theorem boxed {w w' : World} {cs : Array Value} {t : TypeId} (h : Tabs w) (hw : w' = w.alloc (.cells cs t (0, 0))) :
    Tabs w' ∧ Below w.heap.size w w' ∧ ∃ b, b = w.heap.size ∧ w'.heap[b]? = some (.cells cs t (0, 0)) := by
  subst hw
  have hb := below_new w (.cells cs t (0, 0))
  exact ⟨h.keep hb, hb, _, rfl, heap_alloc_new w _⟩

/-- An instruction as a value. -/
def insV (op a b c imm : Int) : Value := .agg #[.int .i64 op, .int .i64 a, .int .i64 b, .int .i64 c, .int .i64 imm]
/-- Its word, as the program makes it. -/
def orW (op a b c imm : Int) : Int :=
  bits .or .u32 (bits .or .u32 (bits .or .u32 (bits .or .u32 (op % 4294967296 * 67108864 % 4294967296) (a % 4294967296 * 4194304 % 4294967296)) (b % 4294967296 * 262144 % 4294967296)) (c % 4294967296 * 16384 % 4294967296)) (imm % 262144)

set_option maxHeartbeats 1000000 in
theorem enc_zero (op a b c imm : Int) (w : World) (h : Tabs w) (hk : formOf op = 0) :
    Calls Tryd.prog 35 #[insV op a b c imm] w fun e w' => e = .returned (.tuple #[.int .u32 0, .int .i64 21]) ∧ Below w.heap.size w w' := by
  unfold insV
  go_enter Tryd.func35, Tryd.ntmps35
  go_wp2_with fail
  refine (form_any op _ (boxed h rfl).1).mono ?_
  rintro e w1 ⟨rfl, hw⟩
  rw [hk]
  obtain ⟨ht, hbl, g, hg, hblk⟩ := boxed h hw
  rw [← hg]
  have c0 := cell_of_row w1 g 0 _ _ _ hblk
  have c1 := cell_of_row w1 g 1 _ _ _ hblk
  have c2 := cell_of_row w1 g 2 _ _ _ hblk
  have c3 := cell_of_row w1 g 3 _ _ _ hblk
  have c4 := cell_of_row w1 g 4 _ _ _ hblk
  have s0 := ht.shape 0 0 (by omega) (by omega)
  have s1 := ht.shape 0 1 (by omega) (by omega)
  have s2 := ht.shape 0 2 (by omega) (by omega)
  have s3 := ht.shape 0 3 (by omega) (by omega)
  simp only [shapeAt, List.getElem?_cons_zero, List.getElem?_cons_succ, Nat.add_zero, Nat.zero_mul, Nat.zero_add] at s0 s1 s2 s3
  simp only [List.getElem?_toArray, List.getElem?_cons_zero, List.getElem?_cons_succ] at c0 c1 c2 c3 c4
  have hgl : g < w1.heap.size := (Array.getElem?_eq_some_iff.1 hblk).1
  have HBL : Hid (Below _ _ _) := hbl
  clear hg hw hblk ht h hk hbl
  generalize hasA (0 : Nat) = ha at *
  generalize hasB (0 : Nat) = hb at *
  generalize hasC (0 : Nat) = hc at *
  generalize hasI (0 : Nat) = hi at *
  go_wp2
  go_ret2
  exact ⟨rfl, below_all HBL.out (below_new _ _)⟩

set_option maxHeartbeats 1000000 in
theorem enc_a (op a b c imm : Int) (w : World) (h : Tabs w) (k : Nat) (hk : formOf op = (k : Int)) (hk8 : k < 8) (hk0 : k ≠ 0) (FA : fitB (hasA k) a = false) :
    Calls Tryd.prog 35 #[insV op a b c imm] w fun e w' => e = .returned (.tuple #[.int .u32 0, .int .i64 21]) ∧ Below w.heap.size w w' := by
  unfold insV
  have CA := fun w => fits_any a (hasA k) w
  rw [FA] at CA
  have HCA : Hid (∀ w, Calls _ _ _ w _) := CA
  clear CA FA
  have hkb : ((k : Int) == 0) = false := by simp only [beq_eq_false_iff_ne]; omega
  go_enter Tryd.func35, Tryd.ntmps35
  go_wp2_with fail
  refine (form_any op _ (boxed h rfl).1).mono ?_
  rintro e w1 ⟨rfl, hw⟩
  rw [hk]
  obtain ⟨ht, hbl, g, hg, hblk⟩ := boxed h hw
  rw [← hg]
  have c0 := cell_of_row w1 g 0 _ _ _ hblk
  have c1 := cell_of_row w1 g 1 _ _ _ hblk
  have c2 := cell_of_row w1 g 2 _ _ _ hblk
  have c3 := cell_of_row w1 g 3 _ _ _ hblk
  have c4 := cell_of_row w1 g 4 _ _ _ hblk
  have s0 := ht.shape k 0 hk8 (by omega)
  have s1 := ht.shape k 1 hk8 (by omega)
  have s2 := ht.shape k 2 hk8 (by omega)
  have s3 := ht.shape k 3 hk8 (by omega)
  simp only [shapeAt, List.getElem?_cons_zero, List.getElem?_cons_succ, Nat.add_zero] at s0 s1 s2 s3
  simp only [List.getElem?_toArray, List.getElem?_cons_zero, List.getElem?_cons_succ] at c0 c1 c2 c3 c4
  have hgl : g < w1.heap.size := (Array.getElem?_eq_some_iff.1 hblk).1
  have HBL : Hid (Below _ _ _) := hbl
  clear hg hw hblk ht h hk hbl
  generalize hasA k = ha at *
  generalize hasB k = hb at *
  generalize hasC k = hc at *
  generalize hasI k = hi at *
  go_wp2_with fail
  refine (HCA.out _).mono ?_
  rintro e w2 ⟨rfl, rfl⟩
  go_wp2
  go_ret2
  exact ⟨rfl, below_all HBL.out (below_new _ _)⟩

set_option maxHeartbeats 1000000 in
theorem enc_b (op a b c imm : Int) (w : World) (h : Tabs w) (k : Nat) (hk : formOf op = (k : Int)) (hk8 : k < 8) (hk0 : k ≠ 0) (FA : fitB (hasA k) a = true) (FB : fitB (hasB k) b = false) :
    Calls Tryd.prog 35 #[insV op a b c imm] w fun e w' => e = .returned (.tuple #[.int .u32 0, .int .i64 21]) ∧ Below w.heap.size w w' := by
  unfold insV
  have CA := fun w => fits_any a (hasA k) w
  rw [FA] at CA
  have HCA : Hid (∀ w, Calls _ _ _ w _) := CA
  have CB := fun w => fits_any b (hasB k) w
  rw [FB] at CB
  have HCB : Hid (∀ w, Calls _ _ _ w _) := CB
  clear CA CB FA FB
  have hkb : ((k : Int) == 0) = false := by simp only [beq_eq_false_iff_ne]; omega
  go_enter Tryd.func35, Tryd.ntmps35
  go_wp2_with fail
  refine (form_any op _ (boxed h rfl).1).mono ?_
  rintro e w1 ⟨rfl, hw⟩
  rw [hk]
  obtain ⟨ht, hbl, g, hg, hblk⟩ := boxed h hw
  rw [← hg]
  have c0 := cell_of_row w1 g 0 _ _ _ hblk
  have c1 := cell_of_row w1 g 1 _ _ _ hblk
  have c2 := cell_of_row w1 g 2 _ _ _ hblk
  have c3 := cell_of_row w1 g 3 _ _ _ hblk
  have c4 := cell_of_row w1 g 4 _ _ _ hblk
  have s0 := ht.shape k 0 hk8 (by omega)
  have s1 := ht.shape k 1 hk8 (by omega)
  have s2 := ht.shape k 2 hk8 (by omega)
  have s3 := ht.shape k 3 hk8 (by omega)
  simp only [shapeAt, List.getElem?_cons_zero, List.getElem?_cons_succ, Nat.add_zero] at s0 s1 s2 s3
  simp only [List.getElem?_toArray, List.getElem?_cons_zero, List.getElem?_cons_succ] at c0 c1 c2 c3 c4
  have hgl : g < w1.heap.size := (Array.getElem?_eq_some_iff.1 hblk).1
  have HBL : Hid (Below _ _ _) := hbl
  clear hg hw hblk ht h hk hbl
  generalize hasA k = ha at *
  generalize hasB k = hb at *
  generalize hasC k = hc at *
  generalize hasI k = hi at *
  go_wp2_with fail
  refine (HCA.out _).mono ?_
  rintro e w2 ⟨rfl, rfl⟩
  go_wp2_with fail
  refine (HCB.out _).mono ?_
  rintro e w2 ⟨rfl, rfl⟩
  go_wp2
  go_ret2
  exact ⟨rfl, below_all HBL.out (below_new _ _)⟩

set_option maxHeartbeats 1000000 in
theorem enc_c (op a b c imm : Int) (w : World) (h : Tabs w) (k : Nat) (hk : formOf op = (k : Int)) (hk8 : k < 8) (hk0 : k ≠ 0) (FA : fitB (hasA k) a = true) (FB : fitB (hasB k) b = true) (FC : fitB (hasC k) c = false) :
    Calls Tryd.prog 35 #[insV op a b c imm] w fun e w' => e = .returned (.tuple #[.int .u32 0, .int .i64 21]) ∧ Below w.heap.size w w' := by
  unfold insV
  have CA := fun w => fits_any a (hasA k) w
  rw [FA] at CA
  have HCA : Hid (∀ w, Calls _ _ _ w _) := CA
  have CB := fun w => fits_any b (hasB k) w
  rw [FB] at CB
  have HCB : Hid (∀ w, Calls _ _ _ w _) := CB
  have CC := fun w => fits_any c (hasC k) w
  rw [FC] at CC
  have HCC : Hid (∀ w, Calls _ _ _ w _) := CC
  clear CA CB CC FA FB FC
  have hkb : ((k : Int) == 0) = false := by simp only [beq_eq_false_iff_ne]; omega
  go_enter Tryd.func35, Tryd.ntmps35
  go_wp2_with fail
  refine (form_any op _ (boxed h rfl).1).mono ?_
  rintro e w1 ⟨rfl, hw⟩
  rw [hk]
  obtain ⟨ht, hbl, g, hg, hblk⟩ := boxed h hw
  rw [← hg]
  have c0 := cell_of_row w1 g 0 _ _ _ hblk
  have c1 := cell_of_row w1 g 1 _ _ _ hblk
  have c2 := cell_of_row w1 g 2 _ _ _ hblk
  have c3 := cell_of_row w1 g 3 _ _ _ hblk
  have c4 := cell_of_row w1 g 4 _ _ _ hblk
  have s0 := ht.shape k 0 hk8 (by omega)
  have s1 := ht.shape k 1 hk8 (by omega)
  have s2 := ht.shape k 2 hk8 (by omega)
  have s3 := ht.shape k 3 hk8 (by omega)
  simp only [shapeAt, List.getElem?_cons_zero, List.getElem?_cons_succ, Nat.add_zero] at s0 s1 s2 s3
  simp only [List.getElem?_toArray, List.getElem?_cons_zero, List.getElem?_cons_succ] at c0 c1 c2 c3 c4
  have hgl : g < w1.heap.size := (Array.getElem?_eq_some_iff.1 hblk).1
  have HBL : Hid (Below _ _ _) := hbl
  clear hg hw hblk ht h hk hbl
  generalize hasA k = ha at *
  generalize hasB k = hb at *
  generalize hasC k = hc at *
  generalize hasI k = hi at *
  go_wp2_with fail
  refine (HCA.out _).mono ?_
  rintro e w2 ⟨rfl, rfl⟩
  go_wp2_with fail
  refine (HCB.out _).mono ?_
  rintro e w2 ⟨rfl, rfl⟩
  go_wp2_with fail
  refine (HCC.out _).mono ?_
  rintro e w2 ⟨rfl, rfl⟩
  go_wp2
  go_ret2
  exact ⟨rfl, below_all HBL.out (below_new _ _)⟩

set_option maxHeartbeats 1000000 in
theorem enc_i (op a b c imm : Int) (w : World) (h : Tabs w) (k : Nat) (hk : formOf op = (k : Int)) (hk8 : k < 8) (hk0 : k ≠ 0) (FA : fitB (hasA k) a = true) (FB : fitB (hasB k) b = true) (FC : fitB (hasC k) c = true) (FI : hasI k = false) (hm : imm ≠ 0) :
    Calls Tryd.prog 35 #[insV op a b c imm] w fun e w' => e = .returned (.tuple #[.int .u32 0, .int .i64 21]) ∧ Below w.heap.size w w' := by
  unfold insV
  have CA := fun w => fits_any a (hasA k) w
  rw [FA] at CA
  have HCA : Hid (∀ w, Calls _ _ _ w _) := CA
  have CB := fun w => fits_any b (hasB k) w
  rw [FB] at CB
  have HCB : Hid (∀ w, Calls _ _ _ w _) := CB
  have CC := fun w => fits_any c (hasC k) w
  rw [FC] at CC
  have HCC : Hid (∀ w, Calls _ _ _ w _) := CC
  clear CA CB CC FA FB FC
  have hkb : ((k : Int) == 0) = false := by simp only [beq_eq_false_iff_ne]; omega
  go_enter Tryd.func35, Tryd.ntmps35
  go_wp2_with fail
  refine (form_any op _ (boxed h rfl).1).mono ?_
  rintro e w1 ⟨rfl, hw⟩
  rw [hk]
  obtain ⟨ht, hbl, g, hg, hblk⟩ := boxed h hw
  rw [← hg]
  have c0 := cell_of_row w1 g 0 _ _ _ hblk
  have c1 := cell_of_row w1 g 1 _ _ _ hblk
  have c2 := cell_of_row w1 g 2 _ _ _ hblk
  have c3 := cell_of_row w1 g 3 _ _ _ hblk
  have c4 := cell_of_row w1 g 4 _ _ _ hblk
  have s0 := ht.shape k 0 hk8 (by omega)
  have s1 := ht.shape k 1 hk8 (by omega)
  have s2 := ht.shape k 2 hk8 (by omega)
  have s3 := ht.shape k 3 hk8 (by omega)
  simp only [shapeAt, FI, List.getElem?_cons_zero, List.getElem?_cons_succ, Nat.add_zero] at s0 s1 s2 s3
  simp only [List.getElem?_toArray, List.getElem?_cons_zero, List.getElem?_cons_succ] at c0 c1 c2 c3 c4
  have hgl : g < w1.heap.size := (Array.getElem?_eq_some_iff.1 hblk).1
  have HBL : Hid (Below _ _ _) := hbl
  clear hg hw hblk ht h hk hbl FI
  have hmb : (imm == 0) = false := by simpa using hm
  generalize hasA k = ha at *
  generalize hasB k = hb at *
  generalize hasC k = hc at *
  go_wp2_with fail
  refine (HCA.out _).mono ?_
  rintro e w2 ⟨rfl, rfl⟩
  go_wp2_with fail
  refine (HCB.out _).mono ?_
  rintro e w2 ⟨rfl, rfl⟩
  go_wp2_with fail
  refine (HCC.out _).mono ?_
  rintro e w2 ⟨rfl, rfl⟩
  go_wp2
  go_ret2
  exact ⟨rfl, below_all HBL.out (below_new _ _)⟩

set_option maxHeartbeats 1000000 in
theorem enc_r (op a b c imm : Int) (w : World) (h : Tabs w) (k : Nat) (hk : formOf op = (k : Int)) (hk8 : k < 8) (hk0 : k ≠ 0) (FA : fitB (hasA k) a = true) (FB : fitB (hasB k) b = true) (FC : fitB (hasC k) c = true) (FI : hasI k = true) (hr : imm < -131072 ∨ 131072 ≤ imm) :
    Calls Tryd.prog 35 #[insV op a b c imm] w fun e w' => e = .returned (.tuple #[.int .u32 0, .int .i64 21]) ∧ Below w.heap.size w w' := by
  unfold insV
  have CA := fun w => fits_any a (hasA k) w
  rw [FA] at CA
  have HCA : Hid (∀ w, Calls _ _ _ w _) := CA
  have CB := fun w => fits_any b (hasB k) w
  rw [FB] at CB
  have HCB : Hid (∀ w, Calls _ _ _ w _) := CB
  have CC := fun w => fits_any c (hasC k) w
  rw [FC] at CC
  have HCC : Hid (∀ w, Calls _ _ _ w _) := CC
  clear CA CB CC FA FB FC
  have HL : Hid (_ ∨ _) := hr
  clear hr
  have hkb : ((k : Int) == 0) = false := by simp only [beq_eq_false_iff_ne]; omega
  go_enter Tryd.func35, Tryd.ntmps35
  go_wp2_with fail
  refine (form_any op _ (boxed h rfl).1).mono ?_
  rintro e w1 ⟨rfl, hw⟩
  rw [hk]
  obtain ⟨ht, hbl, g, hg, hblk⟩ := boxed h hw
  rw [← hg]
  have c0 := cell_of_row w1 g 0 _ _ _ hblk
  have c1 := cell_of_row w1 g 1 _ _ _ hblk
  have c2 := cell_of_row w1 g 2 _ _ _ hblk
  have c3 := cell_of_row w1 g 3 _ _ _ hblk
  have c4 := cell_of_row w1 g 4 _ _ _ hblk
  have s0 := ht.shape k 0 hk8 (by omega)
  have s1 := ht.shape k 1 hk8 (by omega)
  have s2 := ht.shape k 2 hk8 (by omega)
  have s3 := ht.shape k 3 hk8 (by omega)
  simp only [shapeAt, FI, List.getElem?_cons_zero, List.getElem?_cons_succ, Nat.add_zero] at s0 s1 s2 s3
  simp only [List.getElem?_toArray, List.getElem?_cons_zero, List.getElem?_cons_succ] at c0 c1 c2 c3 c4
  have hgl : g < w1.heap.size := (Array.getElem?_eq_some_iff.1 hblk).1
  have HBL : Hid (Below _ _ _) := hbl
  clear hg hw hblk ht h hk hbl FI
  generalize hasA k = ha at *
  generalize hasB k = hb at *
  generalize hasC k = hc at *
  go_wp2_with fail
  refine (HCA.out _).mono ?_
  rintro e w2 ⟨rfl, rfl⟩
  go_wp2_with fail
  refine (HCB.out _).mono ?_
  rintro e w2 ⟨rfl, rfl⟩
  go_wp2_with fail
  refine (HCC.out _).mono ?_
  rintro e w2 ⟨rfl, rfl⟩
  go_wp2_with fail
  refine (uns_no _ _ HL.out).mono ?_
  rintro e w2 ⟨rfl, rfl⟩
  go_wp2
  go_ret2
  exact ⟨rfl, below_all HBL.out (below_new _ _)⟩

set_option maxHeartbeats 1000000 in
theorem enc_yes (op a b c imm : Int) (w : World) (h : Tabs w) (k : Nat) (hk : formOf op = (k : Int)) (hk8 : k < 8) (hk0 : k ≠ 0) (FA : fitB (hasA k) a = true) (FB : fitB (hasB k) b = true) (FC : fitB (hasC k) c = true) (FI : hasI k = true) (hl : -131072 ≤ imm) (hu : imm < 131072) :
    Calls Tryd.prog 35 #[insV op a b c imm] w fun e w' => e = .returned (.tuple #[.int .u32 (orW op a b c imm), .int .i64 0]) ∧ Below w.heap.size w w' := by
  unfold insV
  unfold orW
  have CA := fun w => fits_any a (hasA k) w
  rw [FA] at CA
  have HCA : Hid (∀ w, Calls _ _ _ w _) := CA
  have CB := fun w => fits_any b (hasB k) w
  rw [FB] at CB
  have HCB : Hid (∀ w, Calls _ _ _ w _) := CB
  have CC := fun w => fits_any c (hasC k) w
  rw [FC] at CC
  have HCC : Hid (∀ w, Calls _ _ _ w _) := CC
  clear CA CB CC FA FB FC
  have HL : Hid (_ ∧ _) := And.intro hl hu
  clear hl hu
  have hkb : ((k : Int) == 0) = false := by simp only [beq_eq_false_iff_ne]; omega
  go_enter Tryd.func35, Tryd.ntmps35
  go_wp2_with fail
  refine (form_any op _ (boxed h rfl).1).mono ?_
  rintro e w1 ⟨rfl, hw⟩
  rw [hk]
  obtain ⟨ht, hbl, g, hg, hblk⟩ := boxed h hw
  rw [← hg]
  have c0 := cell_of_row w1 g 0 _ _ _ hblk
  have c1 := cell_of_row w1 g 1 _ _ _ hblk
  have c2 := cell_of_row w1 g 2 _ _ _ hblk
  have c3 := cell_of_row w1 g 3 _ _ _ hblk
  have c4 := cell_of_row w1 g 4 _ _ _ hblk
  have s0 := ht.shape k 0 hk8 (by omega)
  have s1 := ht.shape k 1 hk8 (by omega)
  have s2 := ht.shape k 2 hk8 (by omega)
  have s3 := ht.shape k 3 hk8 (by omega)
  simp only [shapeAt, FI, List.getElem?_cons_zero, List.getElem?_cons_succ, Nat.add_zero] at s0 s1 s2 s3
  simp only [List.getElem?_toArray, List.getElem?_cons_zero, List.getElem?_cons_succ] at c0 c1 c2 c3 c4
  have hgl : g < w1.heap.size := (Array.getElem?_eq_some_iff.1 hblk).1
  have HBL : Hid (Below _ _ _) := hbl
  clear hg hw hblk ht h hk hbl FI
  generalize hasA k = ha at *
  generalize hasB k = hb at *
  generalize hasC k = hc at *
  go_wp2_with fail
  refine (HCA.out _).mono ?_
  rintro e w2 ⟨rfl, rfl⟩
  go_wp2_with fail
  refine (HCB.out _).mono ?_
  rintro e w2 ⟨rfl, rfl⟩
  go_wp2_with fail
  refine (HCC.out _).mono ?_
  rintro e w2 ⟨rfl, rfl⟩
  go_wp2_with fail
  refine (uns_yes _ _ HL.out.1 HL.out.2).mono ?_
  rintro e w2 ⟨rfl, rfl⟩
  go_wp2
  go_ret2
  exact ⟨rfl, below_all HBL.out (below_new _ _)⟩

set_option maxHeartbeats 1000000 in
theorem enc_none (op a b c imm : Int) (w : World) (h : Tabs w) (k : Nat) (hk : formOf op = (k : Int)) (hk8 : k < 8) (hk0 : k ≠ 0) (FA : fitB (hasA k) a = true) (FB : fitB (hasB k) b = true) (FC : fitB (hasC k) c = true) (FI : hasI k = false) (hm : imm = 0) :
    Calls Tryd.prog 35 #[insV op a b c imm] w fun e w' => e = .returned (.tuple #[.int .u32 (orW op a b c imm), .int .i64 0]) ∧ Below w.heap.size w w' := by
  unfold insV
  unfold orW
  subst hm
  have CA := fun w => fits_any a (hasA k) w
  rw [FA] at CA
  have HCA : Hid (∀ w, Calls _ _ _ w _) := CA
  have CB := fun w => fits_any b (hasB k) w
  rw [FB] at CB
  have HCB : Hid (∀ w, Calls _ _ _ w _) := CB
  have CC := fun w => fits_any c (hasC k) w
  rw [FC] at CC
  have HCC : Hid (∀ w, Calls _ _ _ w _) := CC
  clear CA CB CC FA FB FC
  have hkb : ((k : Int) == 0) = false := by simp only [beq_eq_false_iff_ne]; omega
  go_enter Tryd.func35, Tryd.ntmps35
  go_wp2_with fail
  refine (form_any op _ (boxed h rfl).1).mono ?_
  rintro e w1 ⟨rfl, hw⟩
  rw [hk]
  obtain ⟨ht, hbl, g, hg, hblk⟩ := boxed h hw
  rw [← hg]
  have c0 := cell_of_row w1 g 0 _ _ _ hblk
  have c1 := cell_of_row w1 g 1 _ _ _ hblk
  have c2 := cell_of_row w1 g 2 _ _ _ hblk
  have c3 := cell_of_row w1 g 3 _ _ _ hblk
  have c4 := cell_of_row w1 g 4 _ _ _ hblk
  have s0 := ht.shape k 0 hk8 (by omega)
  have s1 := ht.shape k 1 hk8 (by omega)
  have s2 := ht.shape k 2 hk8 (by omega)
  have s3 := ht.shape k 3 hk8 (by omega)
  simp only [shapeAt, FI, List.getElem?_cons_zero, List.getElem?_cons_succ, Nat.add_zero] at s0 s1 s2 s3
  simp only [List.getElem?_toArray, List.getElem?_cons_zero, List.getElem?_cons_succ] at c0 c1 c2 c3 c4
  have hgl : g < w1.heap.size := (Array.getElem?_eq_some_iff.1 hblk).1
  have HBL : Hid (Below _ _ _) := hbl
  clear hg hw hblk ht h hk hbl FI
  generalize hasA k = ha at *
  generalize hasB k = hb at *
  generalize hasC k = hc at *
  go_wp2_with fail
  refine (HCA.out _).mono ?_
  rintro e w2 ⟨rfl, rfl⟩
  go_wp2_with fail
  refine (HCB.out _).mono ?_
  rintro e w2 ⟨rfl, rfl⟩
  go_wp2_with fail
  refine (HCC.out _).mono ?_
  rintro e w2 ⟨rfl, rfl⟩
  go_wp2_with fail
  refine (uns_yes 0 _ (by omega) (by omega)).mono ?_
  rintro e w2 ⟨rfl, rfl⟩
  go_wp2
  go_ret2
  exact ⟨rfl, below_all HBL.out (below_new _ _)⟩

end Go.Proofs.YtohojpacijnnaaaDoor.Is
