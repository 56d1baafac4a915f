import Derived.Test.YtljhdijledclhaaMl
namespace Go.Proofs.Ytljhdijledclhaa
open Go.RowKit
set_option linter.unusedVariables false
set_option linter.unusedSimpArgs false

theorem Game.mono {w0 w : World} {X T T' : Nat} (h : Game w0 w X T) (hT : T ≤ T') : Game w0 w X T' := by
  obtain ⟨s, g, h1, h2, h3, h4⟩ := h.out
  exact ⟨s, g, h1, h2, h3.mono hT, h4⟩

set_option maxRecDepth 100000 in
set_option maxHeartbeats 4000000 in
theorem makes_1 (who oth a b c : Int) (W : Nat) (v : Value) (w0 w : World) (X T : Nat) (h : Game w0 w X T) :
    Calls Try.prog 8 #[.pointer (some ⟨X, 0, none⟩), .agg #[.int .i64 1, .int .i64 who, .int .i64 oth, .int .i64 a, .int .i64 b, .int .i64 c, .int .u32 W, v]] w fun e w' => e = .returned (.bool true) ∧ Game w0 w' X T := by
  obtain ⟨s, g, hH, hR, hS, hX⟩ := h.out
  obtain ⟨w1, hw1⟩ : ∃ w1, w1 = w.alloc (.cells #[.int .i64 1, .int .i64 who, .int .i64 oth, .int .i64 a, .int .i64 b, .int .i64 c, .int .u32 W, v] 29) := ⟨_, rfl⟩
  have hK : Keeps (fun _ => False) w w1 := by rw [hw1]; exact (Keeps.refl _ w).alloc _
  obtain ⟨O, hO⟩ : ∃ O, O = w.heap.size := ⟨_, rfl⟩
  have H1 := hH.newBlk (w' := w1) (b := O) (l := [.int .i64 1, .int .i64 who, .int .i64 oth, .int .i64 a, .int .i64 b, .int .i64 c, .int .u32 W, v]) (21, 0) (by rw [hO, hw1]; exact Blk.new w _ 29) (by omega) hK
  have R1 := hR.other 21 0 (by omega) (.blk O [.int .i64 1, .int .i64 who, .int .i64 oth, .int .i64 a, .int .i64 b, .int .i64 c, .int .u32 W, v] 29)
  have o1 := (H1.blk (upd_self _ _ _)).1
  have k3 := o1.cell (i := 3) rfl
  obtain ⟨E, hch⟩ := new_chain H1 R1 hS hX (upd_self _ _ _) a
  have HO : Hid (O = w.heap.size) := hO
  have HW1 : Hid (_ = _) := hw1
  clear h hH hR hS hX hK H1 R1 o1 hO hw1
  go_enter Try.func8, Try.ntmps8
  go_wp2_with fail
  rw [← HO.out, ← HW1.out]
  refine hch.out.mono ?_
  rintro e w3 ⟨px, rfl, o3, C1⟩
  have k3a := o3.cell (i := 3) rfl
  clear hch o3 k3
  go_wp2_with fail
  refine C1.out.mono ?_
  rintro e w4 ⟨py, rfl, C2⟩
  clear C1 k3a
  go_wp2_with fail
  refine C2.out.mono ?_
  rintro e w5 ⟨rfl, hG⟩
  have HF : Hid (Game w0 w5 X T) := hG
  clear C2 hG
  go_wp2
  go_ret
  exact ⟨rfl, HF.out⟩

set_option maxRecDepth 100000 in
set_option maxHeartbeats 4000000 in
theorem makes_2 (who oth a b c : Int) (W : Nat) (pw : Option Addr) (ws : List UInt32) (cw : Nat) (w0 w : World) (X T : Nat) (h : Game w0 w X T) (hseg : SegW w0 pw ws) (hl : ws.length ≤ 4294967000) :
    Calls Try.prog 8 #[.pointer (some ⟨X, 0, none⟩), .agg #[.int .i64 2, .int .i64 who, .int .i64 oth, .int .i64 a, .int .i64 b, .int .i64 c, .int .u32 W, .slice pw ws.length cw]] w fun e w' => e = .returned (.bool true) ∧ Game w0 w' X T := by
  obtain ⟨s, g, hH, hR, hS, hX⟩ := h.out
  obtain ⟨w1, hw1⟩ : ∃ w1, w1 = w.alloc (.cells #[.int .i64 2, .int .i64 who, .int .i64 oth, .int .i64 a, .int .i64 b, .int .i64 c, .int .u32 W, .slice pw ws.length cw] 29) := ⟨_, rfl⟩
  have hK : Keeps (fun _ => False) w w1 := by rw [hw1]; exact (Keeps.refl _ w).alloc _
  obtain ⟨O, hO⟩ : ∃ O, O = w.heap.size := ⟨_, rfl⟩
  have H1 := hH.newBlk (w' := w1) (b := O) (l := [.int .i64 2, .int .i64 who, .int .i64 oth, .int .i64 a, .int .i64 b, .int .i64 c, .int .u32 W, .slice pw ws.length cw]) (21, 0) (by rw [hO, hw1]; exact Blk.new w _ 29) (by omega) hK
  have R1 := hR.other 21 0 (by omega) (.blk O [.int .i64 2, .int .i64 who, .int .i64 oth, .int .i64 a, .int .i64 b, .int .i64 c, .int .u32 W, .slice pw ws.length cw] 29)
  have o1 := (H1.blk (upd_self _ _ _)).1
  have k7 := o1.cell (i := 7) rfl
  obtain ⟨B, E, hch⟩ := of_chain H1 R1 hS hX (upd_self _ _ _) pw ws cw hseg hl
  obtain ⟨nw, hnw⟩ : ∃ n, n = ws.length := ⟨_, rfl⟩
  rw [← hnw] at hch k7 hw1 hl ⊢
  have HO : Hid (O = w.heap.size) := hO
  have HW1 : Hid (_ = _) := hw1
  clear h hH hR hS hX hK H1 R1 o1 hO hw1 hseg hl hnw
  go_enter Try.func8, Try.ntmps8
  go_wp2_with fail
  rw [← HO.out, ← HW1.out]
  refine hch.out.mono ?_
  rintro e w3 ⟨rfl, o3, C1⟩
  have k7a := o3.cell (i := 7) rfl
  clear hch o3 k7
  go_wp2_with fail
  refine C1.out.mono ?_
  rintro e w4 ⟨px, rfl, o4, C2⟩
  have k7b := o4.cell (i := 7) rfl
  clear C1 k7a o4
  go_wp2_with fail
  refine C2.out.mono ?_
  rintro e w5 ⟨py, rfl, o5, C3⟩
  have k7c := o5.cell (i := 7) rfl
  clear C2 k7b o5
  go_wp2_with fail
  refine C3.out.mono ?_
  rintro e w6 ⟨rfl, C4⟩
  clear C3 k7c
  go_wp2_with fail
  refine C4.out.mono ?_
  rintro e w7 ⟨rfl, hG⟩
  have HF : Hid (Game w0 w7 X T) := hG
  clear C4 hG
  go_wp2
  go_ret
  exact ⟨rfl, HF.out⟩

end Go.Proofs.Ytljhdijledclhaa
