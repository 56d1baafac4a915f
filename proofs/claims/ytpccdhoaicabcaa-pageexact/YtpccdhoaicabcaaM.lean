import Derived.Test.YtpccdhoaicabcaaL
import Derived.Deep.RegionHeld3
namespace Go.Proofs.Ytpccdhoaicabcaa
open Go.RowKit
set_option linter.unusedVariables false
set_option linter.unusedSimpArgs false

theorem Try.mixed : Try.prog.follows Departure.mixedOrders = true := by kernel_rfl

set_option maxHeartbeats 400000 in
theorem lieIn_any (b g n : Nat) (xs : List UInt32) (a : Option Addr) (rs : List Rgn) (c : Nat) (w : World) (h : Mn w b g n xs) (hl : rs.length ≤ c ∧ c ≤ maxLen) (hs : SegR w a rs) (ho : ∀ o, o ∈ rs → o.ok) :
    Calls Try.prog 34 #[.pointer (some ⟨b, 0, none⟩), .slice a rs.length c] w fun e w' => e = .returned (.bool (!(rs.any fun r => decide ((n : Int) < r.frame + r.pages)))) ∧ Keeps (fun _ => False) w w' := by
  obtain ⟨W, hW⟩ : ∃ W, W = w.alloc (.cells #[.pointer (some ⟨b, 0, none⟩)] 34) := ⟨_, rfl⟩
  have hB : Blk W w.heap.size [.pointer (some ⟨b, 0, none⟩)] 34 := by rw [hW]; exact Blk.new w _ 34
  have hK : Keeps (fun _ => False) w W := by rw [hW]; exact (Keeps.refl _ w).alloc _
  have HC : Hid (Calls _ _ _ _ _) := contains_59 a rs c w.heap.size (fun r => decide ((n : Int) < r.frame + r.pages)) W hl (hs.grown hK) fun o ho' W' hK' =>
    lies_any b g n w.heap.size xs o W' ((h.grown hK).grown hK') ((hB.kept hK' fun h => h).cell rfl) (ho o ho')
  have HW : Hid (W = _ ∧ Keeps (fun _ => False) w W) := ⟨hW, hK⟩
  obtain ⟨L, hL⟩ : ∃ L, L = rs.length := ⟨_, rfl⟩
  obtain ⟨B, hB'⟩ : ∃ B, B = rs.any fun r => decide ((n : Int) < r.frame + r.pages) := ⟨_, rfl⟩
  rw [← hL] at HC ⊢
  rw [← hB'] at HC ⊢
  clear hl hs h ho hL hW hB hK hB'
  go_enter Try.func34, Try.ntmps34
  go_wp2_with fail
  rw [← HW.out.1]
  refine HC.out.mono ?_
  rintro e w1 ⟨rfl, hK1⟩
  have HK : Hid (Keeps (fun _ => False) w w1) := HW.out.2.trans hK1 fun _ _ h => h
  clear hK1 HC
  go_wp2
  go_ret
  exact ⟨rfl, HK.out⟩

theorem may_step {rs : List Rgn} {j : Nat} {y : Rgn} (h : MayB (rs.take j)) (hy : rs[j]? = some y) (ho : y.ok) (hm : ((rs.take j).any fun o => decide (meets y o)) = false) : MayB (rs.take (j + 1)) := by
  have hlen : (rs.take j).length = j := by
    have := (List.getElem?_eq_some_iff.1 hy).1
    simp; omega
  rw [List.take_add_one, hy]
  intro i r hi
  rw [List.getElem?_append] at hi
  split at hi
  · rename_i hlt
    refine ⟨(h i r hi).1, fun k o hk hko => (h i r hi).2 k o hk ?_⟩
    rw [List.getElem?_append_left (by omega)] at hko
    exact hko
  · rename_i hge
    have hi0 : i - (rs.take j).length = 0 := by
      cases hd : i - (rs.take j).length with
      | zero => rfl
      | succ d => rw [hd] at hi; simp at hi
    rw [hi0] at hi
    simp at hi
    subst hi
    refine ⟨ho, fun k o hk hko => ?_⟩
    rw [List.getElem?_append_left (by omega)] at hko
    intro hme
    have : ((rs.take j).any fun o => decide (meets y o)) = true := List.any_eq_true.2 ⟨o, List.mem_of_getElem? hko, decide_eq_true hme⟩
    rw [hm] at this; cases this
theorem may_not_ok {rs : List Rgn} {j : Nat} {y : Rgn} (hy : rs[j]? = some y) (ho : ¬ y.ok) : ¬ MayB rs := fun h => ho (h j y hy).1
theorem may_not_meet {rs : List Rgn} {j : Nat} {y : Rgn} (hy : rs[j]? = some y) (hm : ((rs.take j).any fun o => decide (meets y o)) = true) : ¬ MayB rs := by
  intro h
  obtain ⟨o, ho, hd⟩ := List.any_eq_true.1 hm
  obtain ⟨k, hk⟩ := List.mem_iff_getElem?.1 ho
  rw [List.getElem?_take] at hk
  split at hk
  · exact (h j y hy).2 k o (by assumption) hk (of_decide_eq_true hd)
  · simp at hk
theorem may_ok {rs : List Rgn} (h : MayB rs) : ∀ o, o ∈ rs → o.ok := fun o ho => by
  obtain ⟨k, hk⟩ := List.mem_iff_getElem?.1 ho
  exact (h k o hk).1

set_option maxHeartbeats 4000000 in
theorem mayBe_any (a : Option Addr) (rs : List Rgn) (c : Nat) (w : World) (hl : rs.length ≤ c ∧ c ≤ maxLen) (hs : SegR w a rs) (hf : ∀ r, r ∈ rs → r.Fine) :
    Calls Try.prog 56 #[.slice a rs.length c] w fun e w' => (∃ b, e = .returned (.bool b) ∧ (b = true ↔ MayB rs)) ∧ Keeps (fun _ => False) w w' := by
  obtain ⟨L, hL⟩ : ∃ L, L = rs.length := ⟨_, rfl⟩
  have HS : Hid (SegR w a rs ∧ L = rs.length ∧ (L ≤ c ∧ c ≤ maxLen) ∧ ∀ r, r ∈ rs → r.Fine) := ⟨hs, hL, by rw [hL]; exact hl, hf⟩
  have hc2 : (L : Int) ≤ c := by omega
  have hc3 : (c : Int) ≤ 9223372036854775807 := by unfold maxLen at hl; omega
  rw [← hL]
  clear hl hs hL hf
  go_enter Try.func56, Try.ntmps56
  go_wp2
  go_loopw [7] (fun i wr => ∃ j : Nat, j ≤ L ∧ i = .int .i64 j ∧ MayB (rs.take j) ∧ Keeps (fun _ => False) w wr) (fun i _ => L - (intOf i).toNat)
  case atStart => exact ⟨0, by omega, rfl, by intro i r h; simp at h, Keeps.refl _ _⟩
  case round =>
    obtain ⟨j, hj, rfl, hp, hK⟩ := hrel
    by_cases hlt : j < L
    · obtain ⟨y, hy⟩ : ∃ y, rs[j]? = some y := ⟨_, List.getElem?_eq_getElem (by have := HS.out.2.1; omega)⟩
      obtain ⟨g, o, rfl, hg⟩ := HS.out.1.at hy
      obtain ⟨y0, y1, y2, y3⟩ := hg.kept hK fun h => h
      obtain ⟨X, hX⟩ : ∃ X, X = wr.alloc (.cells #[.int .i64 y.page, .int .i64 y.pages, .int .i64 y.frame, .int .i64 y.rights] 54) := ⟨_, rfl⟩
      have hKX : Keeps (fun _ => False) w X := by rw [hX]; exact hK.alloc _
      have hBX : Blk X wr.heap.size y.vs 54 := by rw [hX]; exact Blk.new wr _ 54
      have HJ : Hid (MayB (rs.take j) ∧ Keeps (fun _ => False) w X ∧ rs[j]? = some y ∧ Blk X wr.heap.size y.vs 54) := ⟨hp, hKX, hy, hBX⟩
      have HX : Hid (X = _) := hX
      have z0 := hBX.cell (i := 0) rfl
      have z1 := hBX.cell (i := 1) rfl
      have z2 := hBX.cell (i := 2) rfl
      have z3 := hBX.cell (i := 3) rfl
      have HM := fun w' => rmay_any y w' (HS.out.2.2.2 y (List.mem_of_getElem? hy))
      have hlt' : (j : Int) < L := by omega
      have hjc : (j : Int) ≤ c := by omega
      clear hp hK hy hg hX hKX hBX
      by_cases hm : y.ok
      · rw [decide_eq_true hm] at HM
        have HM : Hid (∀ w', Calls _ _ _ _ _) := HM
        have HMY : Hid y.ok := hm
        clear hm
        have HH : Hid (∀ w', Keeps (fun _ => False) w w' → Calls Try.prog 67 #[y.v, .slice (some ⟨g, o, none⟩) j c] w' _) := fun w' hKw => by
          have := meetsOne_any y (some ⟨g, o, none⟩) (rs.take j) c w' ⟨by have := HS.out.2.2.1; simp; omega, HS.out.2.2.1.2⟩ ((HS.out.1.grown hKw).take j) HMY.out (may_ok HJ.out.1)
          rw [show (rs.take j).length = j by have := HS.out.2.1; simp; omega] at this
          exact this
        go_wp2_with fail
        rw [← HX.out]
        go_region_held3 (fun w' => w'.cell? ⟨wr.heap.size, 0, none⟩ = some (.int .i64 y.page) ∧ w'.cell? ⟨wr.heap.size, 1, none⟩ = some (.int .i64 y.pages) ∧ w'.cell? ⟨wr.heap.size, 2, none⟩ = some (.int .i64 y.frame) ∧ w'.cell? ⟨wr.heap.size, 3, none⟩ = some (.int .i64 y.rights)) (first | exact hS | exact HZ2.out | go_keep)
          (first
            | (go_at_call 66; refine (HM.out _).mono ?_; rintro r w1 ⟨rfl, hK1⟩; have hKw : Keeps (fun _ => False) w w1 := HJ.out.2.1.drew.trans hK1 fun _ _ h => h; have HK1 : Hid (Keeps (fun _ => False) w w1) := hKw; have hB1 := HJ.out.2.2.2.drew.kept hK1 fun h => h; have hS : w1.cell? ⟨wr.heap.size, 0, none⟩ = some (.int .i64 y.page) ∧ w1.cell? ⟨wr.heap.size, 1, none⟩ = some (.int .i64 y.pages) ∧ w1.cell? ⟨wr.heap.size, 2, none⟩ = some (.int .i64 y.frame) ∧ w1.cell? ⟨wr.heap.size, 3, none⟩ = some (.int .i64 y.rights) := ⟨hB1.cell rfl, hB1.cell rfl, hB1.cell rfl, hB1.cell rfl⟩; have HB1 : Hid (Blk w1 wr.heap.size y.vs 54) := hB1; clear hK1 hKw hB1)
            | (go_at_call 67; refine (HH.out _ HK1.out).mono ?_; rintro r w2 ⟨rfl, hK2⟩; have HK2 : Hid (Keeps (fun _ => False) w w2) := HK1.out.trans hK2 fun _ _ h => h; have HZ2 : Hid (w2.cell? ⟨wr.heap.size, 0, none⟩ = some (.int .i64 y.page) ∧ w2.cell? ⟨wr.heap.size, 1, none⟩ = some (.int .i64 y.pages) ∧ w2.cell? ⟨wr.heap.size, 2, none⟩ = some (.int .i64 y.frame) ∧ w2.cell? ⟨wr.heap.size, 3, none⟩ = some (.int .i64 y.rights)) := (let hB2 := HB1.out.kept hK2 fun h => h; ⟨hB2.cell rfl, hB2.cell rfl, hB2.cell rfl, hB2.cell rfl⟩); clear hK2))
        clear y0 y1 y2 y3 z0 z1 z2 z3
        cases hf : (rs.take j).any fun o => decide (meets y o)
        · have HP : Hid (MayB (rs.take (j + 1))) := may_step HJ.out.1 HJ.out.2.2.1 HMY.out hf
          clear hf HH
          go_wp2
          go_roundw
          case rel => exact ⟨j + 1, by omega, by go_num, HP.out, HK2.out⟩
          case measure => simp [intOf]; omega
        · have HB : Hid (¬ MayB rs) := may_not_meet HJ.out.2.2.1 hf
          clear hf HH
          go_wp2
          go_ret
          exact ⟨⟨_, rfl, by simpa using HB.out⟩, HK2.out⟩
      · rw [decide_eq_false hm] at HM
        have HM : Hid (∀ w', Calls _ _ _ _ _) := HM
        have HB : Hid (¬ MayB rs) := may_not_ok HJ.out.2.2.1 hm
        clear hm
        go_wp2_with fail
        rw [← HX.out]
        refine wp_region_held_drew (S := (fun w' => w'.cell? ⟨wr.heap.size, 0, none⟩ = some (.int .i64 y.page) ∧ w'.cell? ⟨wr.heap.size, 1, none⟩ = some (.int .i64 y.pages) ∧ w'.cell? ⟨wr.heap.size, 2, none⟩ = some (.int .i64 y.frame) ∧ w'.cell? ⟨wr.heap.size, 3, none⟩ = some (.int .i64 y.rights))) Try.mixed ⟨z0, z1, z2, z3⟩ (fun hHeld => ?_)
        simp only [List.size_toArray, List.length_cons, List.length_nil, Nat.reduceAdd, Array.replicate_succ, Array.replicate_zero, List.push_toArray, List.append_toArray, List.nil_append, List.cons_append]
        refine wpAnyH_take (i := 0) (v := y.v) rfl (by kernel_rfl) (by kernel_rfl) (by kernel_rfl) (fun _ _ _ h => h) (Or.inl ⟨by kernel_rfl, by (intro w hSw; (try dsimp only at hSw); go_simp)⟩) hHeld ?_
        simp only [Act.put, List.setIfInBounds_toArray, List.set_cons_zero, List.set_cons_succ]
        refine wpAnyH_ready (rs := [1]) (by kernel_rfl) (by simp) ?_
        refine AllReadyH.cons rfl (fun K hK => ?_) AllReadyH.nil
        go_simp
        refine (HM.out _).mono ?_
        rintro r w1 ⟨rfl, hK1⟩
        have hKw : Keeps (fun _ => False) w w1 := HJ.out.2.1.drew.trans hK1 fun _ _ h => h
        have HK1 : Hid (Keeps (fun _ => False) w w1) := hKw
        have hB1 := HJ.out.2.2.2.drew.kept hK1 fun h => h
        have hS : w1.cell? ⟨wr.heap.size, 0, none⟩ = some (.int .i64 y.page) ∧ w1.cell? ⟨wr.heap.size, 1, none⟩ = some (.int .i64 y.pages) ∧ w1.cell? ⟨wr.heap.size, 2, none⟩ = some (.int .i64 y.frame) ∧ w1.cell? ⟨wr.heap.size, 3, none⟩ = some (.int .i64 y.rights) := ⟨hB1.cell rfl, hB1.cell rfl, hB1.cell rfl, hB1.cell rfl⟩
        clear hK1 hKw hB1
        refine hK.out _ _ hS (fun hHeld => ?_)
        simp only [Act.put, List.setIfInBounds_toArray, List.set_cons_zero, List.set_cons_succ]
        refine wpAnyH_take (i := 2) (v := .bool true) rfl (by kernel_rfl) (by kernel_rfl) (by kernel_rfl) (fun _ _ _ h => h) (Or.inl ⟨by kernel_rfl, by (intro w hSw; (try dsimp only at hSw); go_simp)⟩) hHeld ?_
        simp only [Act.put, List.setIfInBounds_toArray, List.set_cons_zero, List.set_cons_succ]
        refine wpAnyH_take (i := 3) (v := .bool true) rfl (by kernel_rfl) (by kernel_rfl) (by kernel_rfl) (fun _ _ _ h => h) (Or.inl ⟨by kernel_rfl, by (intro w hSw; (try dsimp only at hSw); go_simp)⟩) hHeld ?_
        simp only [Act.put, List.setIfInBounds_toArray, List.set_cons_zero, List.set_cons_succ]
        refine wpAnyH_take (i := 4) (v := undef) rfl (by kernel_rfl) (by kernel_rfl) (by kernel_rfl) (fun _ _ _ h => h) (Or.inr ⟨by kernel_rfl, rfl⟩) hHeld ?_
        simp only [Act.put, List.setIfInBounds_toArray, List.set_cons_zero, List.set_cons_succ]
        refine wpAnyH_take (i := 5) (v := undef) rfl (by kernel_rfl) (by kernel_rfl) (by kernel_rfl) (fun _ _ _ h => h) (Or.inr ⟨by kernel_rfl, rfl⟩) hHeld ?_
        simp only [Act.put, List.setIfInBounds_toArray, List.set_cons_zero, List.set_cons_succ]
        refine wpAnyH_take (i := 6) (v := undef) rfl (by kernel_rfl) (by kernel_rfl) (by kernel_rfl) (fun _ _ _ h => h) (Or.inr ⟨by kernel_rfl, rfl⟩) hHeld ?_
        simp only [Act.put, List.setIfInBounds_toArray, List.set_cons_zero, List.set_cons_succ]
        refine wpAnyH_take (i := 7) (v := undef) rfl (by kernel_rfl) (by kernel_rfl) (by kernel_rfl) (fun _ _ _ h => h) (Or.inr ⟨by kernel_rfl, rfl⟩) hHeld ?_
        simp only [Act.put, List.setIfInBounds_toArray, List.set_cons_zero, List.set_cons_succ]
        refine wpAnyH_take (i := 8) (v := undef) rfl (by kernel_rfl) (by kernel_rfl) (by kernel_rfl) (fun _ _ _ h => h) (Or.inr ⟨by kernel_rfl, rfl⟩) hHeld ?_
        simp only [Act.put, List.setIfInBounds_toArray, List.set_cons_zero, List.set_cons_succ]
        refine wpAnyH_take (i := 9) (v := .bool true) rfl (by kernel_rfl) (by kernel_rfl) (by kernel_rfl) (fun _ _ _ h => h) (Or.inl ⟨by kernel_rfl, by (intro w hSw; (try dsimp only at hSw); go_simp)⟩) hHeld ?_
        simp only [Act.put, List.setIfInBounds_toArray, List.set_cons_zero, List.set_cons_succ]
        refine wpAnyH_done (by kernel_rfl) ?_ _
        clear y0 y1 y2 y3 z0 z1 z2 z3 hS hHeld hK
        go_wp2
        go_ret
        exact ⟨⟨_, rfl, by simpa using HB.out⟩, HK1.out⟩
    · obtain rfl : j = L := by omega
      have HH : Hid (MayB rs ∧ Keeps (fun _ => False) w wr) := by
        rw [List.take_of_length_le (by have := HS.out.2.1; omega)] at hp
        exact ⟨hp, hK⟩
      clear hp hK
      go_wp2
      go_ret
      exact ⟨⟨_, rfl, by simpa using HH.out.1⟩, HH.out.2⟩

end Go.Proofs.Ytpccdhoaicabcaa
