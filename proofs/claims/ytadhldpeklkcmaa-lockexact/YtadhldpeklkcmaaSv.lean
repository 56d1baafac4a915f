import Derived.Test.YtadhldpeklkcmaaSu
import Derived.Test.YtadhldpeklkcmaaK
namespace Go.Proofs.Ytadhldpeklkcmaa
open Go.RowKit
set_option linter.unusedVariables false
set_option maxRecDepth 10000

set_option maxHeartbeats 2000000 in
theorem nobody_any (p : Pst) (N : Nat) (w : World) (hok : p.Ok N w) (hs : p.Same) :
    Calls Try.prog 10 #[.pointer (some ⟨p.WB, 0, none⟩)] w (PlayP p N w) := by
  have HO : Hid (p.Ok N w ∧ p.Same) := ⟨hok, hs⟩
  have c0 := hok.blk.cell (i := 0) rfl
  clear hok hs
  go_enter Try.func10, Try.ntmps10
  go_wp2_with fail
  refine (step_nil _ _).mono ?_
  rintro e w1 ⟨rfl, hw⟩
  rw [hw]
  clear hw w1
  go_wp2_with fail
  refine (back_nil _ _).mono ?_
  rintro e w1 ⟨rfl, hw⟩
  rw [hw]
  clear hw w1
  go_wp2_with fail
  refine (all_nil _).mono ?_
  rintro e w1 ⟨rfl, hw⟩
  rw [hw]
  clear hw w1
  go_wp2_with fail
  refine (state_nil _).mono ?_
  rintro e w1 ⟨rfl, hw⟩
  rw [hw]
  clear hw w1
  go_wp2_with fail
  have hk1 : Keeps (fun _ => False) w (w.alloc (.cells #[.int .i64 0] 3)) := (Keeps.refl _ _).alloc _
  have hB1 : Blk (w.alloc (.cells #[.int .i64 0] 3)) w.heap.size (ivs [0]) 3 := Blk.new w #[.int .i64 0] 3
  have H5 := newc_any (some ⟨w.heap.size, 0, none⟩) 1 [0] (w.alloc (.cells #[.int .i64 0] 3)) (.inr ⟨_, 0, rfl, fun j hj => by rw [Nat.zero_add]; exact hB1.cell (by rw [ivs_get [0] j hj])⟩) (by simp) (by simp)
  refine H5.mono ?_
  rintro e w5 ⟨X, rfl, -, -, -, -, -, hk5⟩
  have HK5 : Hid (Keeps (fun _ => False) w w5) := hk1.trans hk5 fun _ _ e => e
  obtain ⟨xb, hxb⟩ : ∃ xb, xb = X.b := ⟨_, rfl⟩
  rw [← hxb]
  clear hk1 hB1 H5 hk5 c0 hxb
  go_wp2_with fail
  refine (step_nilm _ _).mono ?_
  rintro e w4 ⟨rfl, hw⟩
  rw [hw]
  clear hw w4
  go_wp2_with fail
  refine (take_nil _ _).mono ?_
  rintro e w6 ⟨rfl, hw⟩
  have HK6 : Hid (Keeps (fun _ => False) w w6) := HK5.out.trans hw fun _ _ e => e
  clear hw HK5
  go_wp2_with fail
  refine (mine_nil _ _ _).mono ?_
  rintro e w7 ⟨rfl, hw⟩
  have HK7 : Hid (Keeps (fun _ => False) w w7) := HK6.out.trans hw fun _ _ e => e
  clear hw HK6
  go_wp2_with fail
  refine (free_nil _ _ _).mono ?_
  rintro e w8 ⟨rfl, hw⟩
  have HK8 : Hid (Keeps (fun _ => False) w w8) := HK7.out.trans hw fun _ _ e => e
  clear hw HK7
  go_wp2_with fail
  refine (waiting_nil _ _).mono ?_
  rintro e w9 ⟨rfl, hw⟩
  have HK9 : Hid (Keeps (fun _ => False) w w9) := HK8.out.trans hw fun _ _ e => e
  clear hw HK8
  go_wp2_with fail
  refine (back_nilm _ _).mono ?_
  rintro e w4 ⟨rfl, hw⟩
  rw [hw]
  clear hw w4
  go_wp2
  go_ret
  exact ⟨rfl, p, HO.out.1.same HK9.out, HO.out.2, rfl, by simp, by simp, by simp, HK9.out.none⟩
end Go.Proofs.Ytadhldpeklkcmaa
