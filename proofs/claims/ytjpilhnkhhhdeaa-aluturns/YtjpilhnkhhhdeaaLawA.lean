import Derived.Test.YtjpilhnkhhhdeaaE
namespace Go.Proofs.Ytjpilhnkhhhdeaa
open Go.RowKit
set_option linter.unusedVariables false

/-- A question as a value. -/
def askV (op : Int) (x y : Nat) : Value := .agg #[.int .i64 op, .int .u32 x, .int .u32 y]
/-- A block's cells. -/
def Blk (w : World) (g : Nat) (l : List Value) (t : TypeId) : Prop := w.heap[g]? = some (.cells l.toArray t (0, 0))
theorem Blk.cell {w : World} {g : Nat} {l : List Value} {t : TypeId} (h : Blk w g l t) (i : Nat) {v : Value} (hv : l[i]? = some v) : w.cell? ⟨g, i, none⟩ = some v := by
  unfold Blk at h
  simp [World.cell?, h, hv]
theorem Blk.new (w : World) (l : List Value) (t : TypeId) : Blk (w.alloc (.cells l.toArray t)) w.heap.size l t := heap_alloc_new w _
theorem below_new (w : World) (o : Obj) : Below w.heap.size w (w.alloc o) := (Below.refl w.heap.size w).alloc (Nat.le_refl _) o
theorem below_drewN {B : Nat} {w w' : World} (h : Below B w w') (n : Nat) : Below B w (w'.drewN n) := ⟨h.os, h.tape, h.output, h.size, h.block⟩

set_option maxHeartbeats 1000000 in
theorem aluDoes_any (op : Int) (x y : Nat) (w : World) (hx : x < 4294967296) (hy : y < 4294967296) : Calls Try.prog 3 #[askV op x y] w fun e w' => e = .returned (.bool true) ∧ Below w.heap.size w w' := by
  have HE1 : Hid (∀ w, Calls _ _ _ w _) := fun w => do_any op x y w hx hy
  have HE2 : Hid (∀ w, Calls _ _ _ w _) := fun w => rdo_any op x y w hx hy
  have HD1 : Hid (∀ w, Calls _ _ _ w _) := fun w => does_any op w
  have HD2 : Hid (∀ w, Calls _ _ _ w _) := fun w => rdoes_any op w
  revert HE1 HE2 HD1 HD2
  generalize doW op x y = v
  generalize doE op y = er
  generalize isDo op = b
  unfold askV
  intro HE1 HE2 HD1 HD2
  go_enter Try.func3, Try.ntmps3
  go_wp2_with fail
  refine (HE1.out _).mono ?_
  rintro e w1 ⟨rfl, hw⟩
  have hblk := Blk.new w [.int .i64 op, .int .u32 (x : Int), .int .u32 (y : Int)] 24
  have hbel := below_new w (.cells #[.int .i64 op, .int .u32 (x : Int), .int .u32 (y : Int)] 24)
  obtain ⟨g, hg⟩ : ∃ g, g = w.heap.size := ⟨_, rfl⟩
  rw [← hg] at hblk
  rw [← hg]
  have hblk' : Blk w1 g [.int .i64 op, .int .u32 (x : Int), .int .u32 (y : Int)] 24 := by rw [hw]; exact hblk
  have hbel' : Below w.heap.size w w1 := by rw [hw]; exact hbel
  have HB : Hid (_ ∧ _) := And.intro hblk' hbel'
  clear hw hblk hbel hg hblk' hbel'
  have c0 := HB.out.1.cell 0 rfl
  have c1 := HB.out.1.cell 1 rfl
  have c2 := HB.out.1.cell 2 rfl
  go_wp2_with fail
  refine (HE2.out _).mono ?_
  rintro e w2 ⟨rfl, hw⟩
  obtain rfl := hw.symm
  clear hw
  go_wp2
  clear c1 c2 HE1 HE2
  go_quiet (first
    | (go_at_call 11; exact Calls.quiet_of_same (HD1.out _))
    | (go_at_call 12; exact Calls.quiet_of_same (HD2.out _)))
  go_wp2
  go_ret
  exact ⟨ret_bool (by simp), below_drewN HB.out.2 _⟩

set_option maxHeartbeats 1000000 in
theorem aluTakes_any (op : Int) (x y : Nat) (w : World) (hx : x < 4294967296) (hy : y < 4294967296) : Calls Try.prog 4 #[askV op x y] w fun e w' => e = .returned (.bool true) ∧ Below w.heap.size w w' := by
  have HE1 : Hid (∀ w, Calls _ _ _ w _) := fun w => takes_any op x y w hx hy
  have HE2 : Hid (∀ w, Calls _ _ _ w _) := fun w => rtakes_any op x y w hx hy
  have HD1 : Hid (∀ w, Calls _ _ _ w _) := fun w => branches_any op w
  have HD2 : Hid (∀ w, Calls _ _ _ w _) := fun w => rbranches_any op w
  revert HE1 HE2 HD1 HD2
  generalize takeV op x y = v
  generalize takeE op = er
  generalize isBr op = b
  unfold askV
  intro HE1 HE2 HD1 HD2
  go_enter Try.func4, Try.ntmps4
  go_wp2_with fail
  refine (HE1.out _).mono ?_
  rintro e w1 ⟨rfl, hw⟩
  have hblk := Blk.new w [.int .i64 op, .int .u32 (x : Int), .int .u32 (y : Int)] 24
  have hbel := below_new w (.cells #[.int .i64 op, .int .u32 (x : Int), .int .u32 (y : Int)] 24)
  obtain ⟨g, hg⟩ : ∃ g, g = w.heap.size := ⟨_, rfl⟩
  rw [← hg] at hblk
  rw [← hg]
  have hblk' : Blk w1 g [.int .i64 op, .int .u32 (x : Int), .int .u32 (y : Int)] 24 := by rw [hw]; exact hblk
  have hbel' : Below w.heap.size w w1 := by rw [hw]; exact hbel
  have HB : Hid (_ ∧ _) := And.intro hblk' hbel'
  clear hw hblk hbel hg hblk' hbel'
  have c0 := HB.out.1.cell 0 rfl
  have c1 := HB.out.1.cell 1 rfl
  have c2 := HB.out.1.cell 2 rfl
  go_wp2_with fail
  refine (HE2.out _).mono ?_
  rintro e w2 ⟨rfl, hw⟩
  obtain rfl := hw.symm
  clear hw
  go_wp2
  clear c1 c2 HE1 HE2
  go_quiet (first
    | (go_at_call 15; exact Calls.quiet_of_same (HD1.out _))
    | (go_at_call 16; exact Calls.quiet_of_same (HD2.out _)))
  go_wp2
  go_ret
  exact ⟨ret_bool (by simp), below_drewN HB.out.2 _⟩
end Go.Proofs.Ytjpilhnkhhhdeaa
