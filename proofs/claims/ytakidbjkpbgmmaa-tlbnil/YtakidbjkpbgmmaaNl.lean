import Derived.Test.YtakidbjkpbgmmaaNi
namespace Go.Proofs.Ytakidbjkpbgmmaa
open Go.RowKit Go.Shelf
set_option linter.unusedVariables false

set_option maxHeartbeats 1000000 in
theorem tlbNil_any (l : Lf) (w : World) (hp : I64 l.p) : Calls Try.prog 6 #[l.v] w fun r w' => r = .returned (.bool true) ∧ Keeps (fun _ => False) w w' := by
  obtain ⟨W, hW⟩ : ∃ W, W = w.alloc (.cells #[.int .i64 l.p, .int .i64 l.f, .int .i64 l.r] 38) := ⟨_, rfl⟩
  have hB : Blk W w.heap.size l.vs 38 := by rw [hW]; exact Blk.new w _ 38
  have hKW : Keeps (fun _ => False) w W := by rw [hW]; exact (Keeps.refl _ w).alloc _
  have HW : Hid (W = _ ∧ Blk W w.heap.size l.vs 38 ∧ Keeps (fun _ => False) w W) := ⟨hW, hB, hKW⟩
  have v0 := hB.cell (i := 0) rfl
  have v1 := hB.cell (i := 1) rfl
  have v2 := hB.cell (i := 2) rfl
  clear hW hB hKW
  go_enter Try.func6, Try.ntmps6
  go_wp2_with fail
  rw [← HW.out.1]
  refine (find_nilT l.p W).mono ?_
  rintro r w1 ⟨rfl, hK1⟩
  have hB1 : Blk w1 w.heap.size l.vs 38 := HW.out.2.1.kept hK1 fun h => h
  have HK : Hid (Keeps (fun _ => False) w w1 ∧ Blk w1 w.heap.size l.vs 38) := ⟨HW.out.2.2.trans hK1 fun _ _ h => h, hB1⟩
  clear v0 v1 v2 hK1 HW
  have v0 := hB1.cell (i := 0) rfl
  have v1 := hB1.cell (i := 1) rfl
  have v2 := hB1.cell (i := 2) rfl
  have hlt := hB1.lt
  clear hB1
  go_wp2_with fail
  obtain ⟨X, hX⟩ : ∃ X, X = w1.alloc (.cells #[.int .i64 0, .int .i64 0, .int .i64 0] 38) := ⟨_, rfl⟩
  rw [← hX]
  have hKX : Keeps (fun _ => False) w1 X := by rw [hX]; exact (Keeps.refl _ w1).alloc _
  have HK2 : Hid (Keeps (fun _ => False) w X ∧ Blk X w.heap.size l.vs 38) := ⟨HK.out.1.trans hKX fun _ _ h => h, HK.out.2.kept hKX fun h => h⟩
  clear hKX hX v0 v1 v2 HK hlt
  refine (put_nilT l X).mono ?_
  rintro r w2 ⟨rfl, hK2⟩
  have HK3 : Hid (Keeps (fun _ => False) w w2 ∧ Blk w2 w.heap.size l.vs 38) := ⟨HK2.out.1.trans hK2 fun _ _ h => h, HK2.out.2.kept hK2 fun h => h⟩
  clear HK2 hK2
  go_wp2_with fail
  refine (leaves_nilT w2).mono ?_
  rintro r w3 ⟨rfl, rfl⟩
  go_wp2_with fail
  refine (flush_nilT w3).mono ?_
  rintro r w4 ⟨rfl, rfl⟩
  have hB4 := HK3.out.2
  have v0 := hB4.cell (i := 0) rfl
  have v1 := hB4.cell (i := 1) rfl
  have v2 := hB4.cell (i := 2) rfl
  have hlt := hB4.lt
  clear hB4
  go_wp2_with fail
  obtain ⟨X5, hX5⟩ : ∃ X5, X5 = w4.alloc (.cells #[.int .i64 l.p, .int .i64 l.f, .int .i64 l.r] 38) := ⟨_, rfl⟩
  rw [← hX5]
  have HK5 : Hid (Keeps (fun _ => False) w X5) := by rw [hX5]; exact HK3.out.1.alloc _
  clear hX5 HK3 v0 v1 v2 hlt
  refine (restore_nilT _ 1 1 X5).mono ?_
  rintro r w5 ⟨rfl, rfl⟩
  go_wp2_with fail
  refine (newT_any w5).mono ?_
  rintro r w6 ⟨t, rfl, ⟨F, hT, hF⟩, hK6⟩
  have HK6 : Hid (Keeps (fun _ => False) w w6 ∧ Tl w6 t [] F) := ⟨HK5.out.trans hK6 fun _ _ h => h, hT⟩
  have HF : Hid (∀ b, F b → w.heap.size ≤ b) := fun b hb => Nat.le_trans HK5.out.size (hF b hb)
  clear hT hF hK6 HK5
  go_wp2_with fail
  refine (putT_yes t [] F Lf.none w6 HK6.out.2 (by decide)).mono ?_
  rintro r w7 ⟨rfl, ⟨F', hT, hF⟩, hK7⟩
  have HK7 : Hid (Keeps (fun _ => False) w w7 ∧ Tl w7 t [Lf.none] F') := ⟨HK6.out.1.trans hK7 fun b hb h => by have := HF.out b h; omega, hT⟩
  clear hT hF hK7 HK6
  go_wp2_with fail
  refine (leaves_any t _ F' w7 HK7.out.2).mono ?_
  rintro r w8 ⟨v, rfl, hO, ⟨g, hg, hge⟩, hK8⟩
  have hv : ∃ cap, v = .slice (some ⟨g, 0, none⟩) 1 cap := by
    rcases hO.2 with ⟨rfl, _⟩ | ⟨g', cap, cur, rfl, _⟩
    · simp [Value.ownBlock] at hg
    · simp [Value.ownBlock] at hg
      subst hg
      exact ⟨cap, rfl⟩
  obtain ⟨cap, rfl⟩ := hv
  have HK8 : Hid (Keeps (fun _ => False) w w8) := HK7.out.1.trans hK8 fun _ _ h => h
  clear hO hg hge hK8 HK7
  go_wp2
  go_ret
  exact ⟨rfl, HK8.out⟩

end Go.Proofs.Ytakidbjkpbgmmaa
