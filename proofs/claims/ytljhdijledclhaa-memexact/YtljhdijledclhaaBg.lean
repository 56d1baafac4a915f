import Derived.Test.YtljhdijledclhaaMl
import Derived.Test.YtljhdijledclhaaWb
import Derived.Test.YtljhdijledclhaaDd
namespace Go.Proofs.Ytljhdijledclhaa
open Go.RowKit
set_option linter.unusedVariables false
set_option linter.unusedSimpArgs false

/-- Where the play begins: nobody, and nothing told. -/
def sNil : Value := .slice none 0 0
def st0 (w0 : World) (X : Nat) : Nat × Nat → Ob := fun o =>
  if o = (0, 0) then .base w0 else if o = (1, 0) then .blk X [sNil, sNil, sNil] 38 else if o = (2, 0) then .row 85 2 sNil 0 [] else if o = (3, 0) then .row 96 3 sNil 0 [] else if o = (4, 0) then .row 101 4 sNil 0 [] else .nothing

theorem holds_nil (tag : Nat → Nat × Nat) (w : World) (o : Nat × Nat) (e : TypeId) (z : Nat) : Holds tag w o (.row e z sNil 0 []) := ⟨World.ownsRow_nil _ _ _ _, fun k hk => by cases hk⟩

def gs0 (X : Nat) : GS := ⟨X, sNil, sNil, sNil, [], [], []⟩

theorem has0 (w0 : World) : Has (st0 w0 w0.heap.size) (w0.alloc (.cells #[.slice none 0 0, .slice none 0 0, .slice none 0 0] 38)) := by
  refine ⟨fun k => if k < w0.heap.size then (0, 0) else (1, 0), fun o => ?_⟩
  unfold st0
  split
  · next h => subst h; exact ⟨fun k hk => if_pos hk, (Keeps.refl _ w0).alloc _⟩
  split
  · next h => subst h; exact ⟨Blk.new w0 _ 38, if_neg (by omega)⟩
  repeat (split; · exact holds_nil _ _ _ _ _)
  trivial

theorem rel0 (w0 : World) (X : Nat) : Rel (st0 w0 X) (gs0 X) w0 :=
  ⟨rfl, rfl, rfl, rfl, rfl, fun i p h => by simp [gs0] at h, fun i t h => by simp [gs0] at h, fun i e h => by simp [gs0] at h⟩

theorem begun_chain (w0 : World) :
    ∃ B, Hid (Calls Try.prog 14 #[.int .i64 2] (w0.alloc (.cells #[.slice none 0 0, .slice none 0 0, .slice none 0 0] 38)) fun e w2 => e = .returned (.tuple #[.pointer (some ⟨B, 0, none⟩), .int .i64 0]) ∧
      Hid (Calls Try.prog 28 #[.int .i64 2] w2 fun e w3 => ∃ rB, e = .returned (.tuple #[.pointer (some ⟨rB, 0, none⟩), .int .i64 0]) ∧
        Hid (Calls Try.prog 29 #[.pointer (some ⟨w0.heap.size, 0, none⟩), .pointer (some ⟨B, 0, none⟩), .int .i64 0, .pointer (some ⟨rB, 0, none⟩), .int .i64 0] w3 fun e w4 => e = .returned (.bool true) ∧
          Hid (Calls Try.prog 18 #[.pointer (some ⟨B, 0, none⟩)] w4 fun e w5 => ∃ B2, e = .returned (.pointer (some ⟨B2, 0, none⟩)) ∧
            Hid (Calls Try.prog 30 #[.pointer (some ⟨rB, 0, none⟩)] w5 fun e w6 => ∃ rB2, e = .returned (.pointer (some ⟨rB2, 0, none⟩)) ∧
              Hid (Calls Try.prog 29 #[.pointer (some ⟨w0.heap.size, 0, none⟩), .pointer (some ⟨B2, 0, none⟩), .int .i64 0, .pointer (some ⟨rB2, 0, none⟩), .int .i64 0] w6 fun e w7 => e = .returned (.bool true) ∧ Game w0 w7 w0.heap.size 0)))))) := by
  obtain ⟨X, hX⟩ : ∃ X, X = w0.heap.size := ⟨_, rfl⟩
  obtain ⟨w1, hw1⟩ : ∃ w1, w1 = w0.alloc (.cells #[.slice none 0 0, .slice none 0 0, .slice none 0 0] 38) := ⟨_, rfl⟩
  have H1 := has0 w0
  rw [← hw1, ← hX] at H1
  have R1 := rel0 w0 X
  rw [← hw1, ← hX]
  refine ⟨w1.heap.size + 1, (new_in 2 w1 (by omega) (by omega)).mono ?_⟩
  rintro e w2 ⟨rfl, hm, hK⟩
  have H2 := H1.newMm (5, 0) hm (by omega) (by omega) hK
  refine ⟨rfl, (rnew_in 2 w2 (by omega) (by omega)).mono ?_⟩
  rintro e w3 ⟨rfl, hr, hK3⟩
  refine ⟨_, rfl, ?_⟩
  have H3 := H2.newRm (6, 0) hr (by omega) (by omega) hK3
  have R3 := (R1.spareP 5 0 (.inl rfl) (Nat.le_refl _) (.mm (w1.heap.size + 1) w1.heap.size (List.replicate (2 * 16) 0))).spareP 6 0 (.inr rfl) (Nat.le_refl _) (.rm (w2.heap.size + 1) w2.heap.size (List.replicate (2 * 16) 0))
  -- the first pair
  obtain ⟨hB, -⟩ := H3.blk R3.x
  obtain ⟨hr3, nr⟩ := H3.row R3.rl
  obtain ⟨v', W, hap, hown, hG⟩ := append_pair (some ⟨w1.heap.size + 1, 0, none⟩) (some ⟨w2.heap.size + 1, 0, none⟩) sNil 0 _ hr3 (by omega)
  obtain ⟨la', lc', hsl', -, -⟩ := owns_slice hown
  have H4 := nr _ _ _ _ hown hG
  obtain ⟨hB1, n1⟩ := H4.blk (o := (1, 0)) (by rw [upd_ne _ _ _ _ (by simp)]; exact R3.x)
  have H5 := n1 _ [v', sNil, sNil] 38 (hB1.setCell 0 v') ((Keeps.refl (· = X) W).setCell ⟨X, 0, none⟩ _ (fun _ => Eq.refl X))
  have R5 := R3.pushP ⟨w1.heap.size + 1, w1.heap.size, w2.heap.size + 1, w2.heap.size, List.replicate (2 * 16) 0⟩ v' (by show upd _ _ _ (5, 0) = _; rw [upd_ne _ _ _ _ (by simp), upd_self]) (by show upd _ _ _ (6, 0) = _; rw [upd_self])
  have hx : ∃ n, 1 ≤ n ∧ n ≤ 1024 ∧ (List.replicate (2 * 16) (0 : UInt32)).length = n * 16 := ⟨2, by omega, by omega, by simp⟩
  have S5 : Small { gs0 X with sl := v', P := [] ++ [(⟨w1.heap.size + 1, w1.heap.size, w2.heap.size + 1, w2.heap.size, List.replicate (2 * 16) 0⟩ : Pr)] } 0 := by
    refine ⟨by simp, by simp, fun i q hq => ?_, by simp [gs0], by simp [gs0], fun i e he => by simp [gs0] at he⟩
    cases i with
    | zero => simp at hq; subst hq; exact hx
    | succ i => simp at hq
  refine (made_more X (w1.heap.size + 1) (w2.heap.size + 1) 0 sNil v' _ [] w3 W none 0 rfl la' lc' hsl' hB rfl (by omega) hap hB1).mono ?_
  rintro e w4 ⟨rfl, rfl⟩
  refine ⟨rfl, ?_⟩
  have m5 := R5.mm 0 _ rfl
  refine (clone_any _ _ _ _ (H5.mm m5.1).1).mono ?_
  rintro e w5 ⟨B2, hB2, rfl, m6, hK6⟩
  have H6 := H5.newMm (5, 1) m6 (by omega) (by omega) hK6
  refine ⟨B2, rfl, ?_⟩
  refine (rclone_any _ _ _ w5 (H6.rm (o := (6, 0)) (by rw [upd_ne _ _ _ _ (by simp)]; exact m5.2)).1 (by simp)).mono ?_
  rintro e w6 ⟨rfl, hr7, hK7⟩
  refine ⟨_, rfl, ?_⟩
  exact take_up H6 R5 S5 rfl hr7 (by omega) (by omega) hK7 hx

set_option maxRecDepth 20000 in
set_option maxHeartbeats 4000000 in
theorem begun_any (w0 : World) : Calls Try.prog 7 #[] w0 fun e w' => e = .returned (.tuple #[.pointer (some ⟨w0.heap.size, 0, none⟩), .bool true]) ∧ Game w0 w' w0.heap.size 4 := by
  obtain ⟨B, C1⟩ := begun_chain w0
  obtain ⟨X, hX⟩ : ∃ X, X = w0.heap.size := ⟨_, rfl⟩
  have HX : Hid (X = w0.heap.size) := hX
  rw [← hX] at C1 ⊢
  clear hX
  have i0 : in64 0 := by unfold in64; omega
  have i31 : in64 31 := by unfold in64; omega
  have i1 : in64 1 := by unfold in64; omega
  have i3 : in64 3 := by unfold in64; omega
  have HW4 : Hid (∀ w, Game w0 w X 0 → Calls Try.prog 12 #[.pointer (some ⟨X, 0, none⟩), .agg #[.int .i64 4, .int .i64 0, .int .i64 0, .int .i64 31, .int .i64 0, .int .i64 0, .int .u32 7, .slice none 0 0]] w fun e w' => e = .returned (.bool true) ∧ Game w0 w' X 2) := fun w h => works_4 0 0 31 0 0 7 _ w0 w X 0 h i0 i31 i0 i0
  have HW3 : Hid (∀ w, Game w0 w X 2 → Calls Try.prog 12 #[.pointer (some ⟨X, 0, none⟩), .agg #[.int .i64 3, .int .i64 0, .int .i64 0, .int .i64 31, .int .i64 0, .int .i64 0, .int .u32 0, .slice none 0 0]] w fun e w' => e = .returned (.bool true) ∧ Game w0 w' X 4) := fun w h => works_3 0 0 31 0 0 0 _ w0 w X 2 h i0 i31
  have HD : Hid (∀ w, Game w0 w X 4 → Calls Try.prog 9 #[.pointer (some ⟨X, 0, none⟩), .agg #[.int .i64 0, .int .i64 0, .int .i64 1, .int .i64 0, .int .i64 0, .int .i64 3, .int .u32 0, .slice none 0 0]] w fun e w' => e = .returned (.bool true) ∧ Game w0 w' X 4) := fun w h => differs_any 0 0 1 0 0 3 0 _ w0 w X 4 h i0 i1 i3
  clear i0 i31 i1 i3
  go_enter Try.func7, Try.ntmps7
  go_wp2_with fail
  try rw [← HX.out]
  refine C1.out.mono ?_
  rintro e w2 ⟨rfl, C2⟩
  clear C1
  go_wp2_with fail
  refine C2.out.mono ?_
  rintro e w3 ⟨rB, rfl, C3⟩
  clear C2
  go_wp2_with fail
  refine C3.out.mono ?_
  rintro e w4 ⟨rfl, C4⟩
  clear C3
  go_wp2_with fail
  refine C4.out.mono ?_
  rintro e w5 ⟨B2, rfl, C5⟩
  clear C4
  go_wp2_with fail
  refine C5.out.mono ?_
  rintro e w6 ⟨rB2, rfl, C6⟩
  clear C5
  go_wp2_with fail
  refine C6.out.mono ?_
  rintro e w7 ⟨rfl, hG⟩
  have C7 : Hid (Calls _ _ _ _ _) := HW4.out w7 hG
  clear C6 hG
  go_wp2_with fail
  refine C7.out.mono ?_
  rintro e w8 ⟨rfl, hG⟩
  have C8 : Hid (Calls _ _ _ _ _) := HW3.out w8 hG
  clear C7 hG
  go_wp2_with fail
  refine C8.out.mono ?_
  rintro e w9 ⟨rfl, hG⟩
  have C9 : Hid (Calls _ _ _ _ _) := HD.out w9 hG
  clear C8 hG
  go_wp2_with fail
  refine C9.out.mono ?_
  rintro e wa ⟨rfl, hG⟩
  have HF : Hid (Game w0 wa X 4) := hG
  clear C9 hG
  go_wp2
  go_ret2
  exact ⟨rfl, HF.out⟩

end Go.Proofs.Ytljhdijledclhaa
