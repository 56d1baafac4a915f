import Derived.Test.YtfbapgcopidbpaaGreatMb
namespace Go.Proofs.YtfbapgcopidbpaaGreat
namespace Mq
open Go.RowKit
set_option linter.unusedVariables false

/-- What a call that may lay words leaves: the error, the memory's words. -/
def Done (w : World) (b g : Nat) (xs : List UInt32) (p n : Int) (ys : List UInt32) (e : Ending) (w' : World) : Prop :=
  ((0 ≤ p ∧ 0 ≤ n ∧ p + n ≤ xs.length) ∧ e = .returned (.int .i64 0) ∧ Mm w' b g (lay xs p.toNat ys) ∧ Keeps (· = g) w w') ∨
  (¬ (0 ≤ p ∧ 0 ≤ n ∧ p + n ≤ xs.length) ∧ e = .returned (.int .i64 51) ∧ w' = w)

theorem setRow_keeps (w : World) (g : Nat) (cs : Array Value) : Keeps (· = g) w (w.setRow g cs) := (Keeps.refl _ w).setRow g cs fun _ => rfl

set_option maxHeartbeats 400000 in
theorem write_in (b g : Nat) (xs : List UInt32) (p : Nat) (x : UInt32) (w : World) (h : Mm w b g xs) (hf : p < xs.length) :
    Calls Tryz.prog 22 #[.pointer (some ⟨b, 0, none⟩), .int .i64 p, .int .u32 (x.toNat : Int)] w fun e w' => e = .returned (.int .i64 0) ∧ Mm w' b g (lay xs p [x]) ∧ Keeps (· = g) w w' := by
  have hc := h.row.cell (wvs_get xs p hf)
  have hz := h.row.frozen p
  have HC : Hid (Calls _ _ _ _ _) := run_in b g xs p 1 w h (by omega)
  have hfin : w.setCell ⟨g, p, none⟩ (.int .u32 (x.toNat : Int)) = w.setRow g ((wvs xs).take p ++ wvs [x] ++ (wvs xs).drop (p + [x].length)).toArray := by
    rw [setCell_eq_setRow w g p _ 27 _ _ h.row]
    congr 1
    have hl : p < (wvs xs).length := by rw [wvs_length]; exact hf
    have e : (wvs xs).set p (.int .u32 (x.toNat : Int)) = (wvs xs).take p ++ wvs [x] ++ (wvs xs).drop (p + [x].length) := by
      rw [List.set_eq_take_append_cons_drop, if_pos hl]; simp [wvs]
    rw [← e]; simp
  have hM := h.laid p [x] (by simp; omega)
  rw [← hfin] at hM
  have hK : Keeps (· = g) w (w.setCell ⟨g, p, none⟩ (.int .u32 (x.toNat : Int))) := (Keeps.refl _ w).setCell _ _ fun _ => rfl
  rw [at0_in (n := 1) (show p + 1 ≤ xs.length by omega) (by omega)] at HC
  have HM : Hid (Mm _ _ _ _) := hM
  have HK : Hid (Keeps _ _ _) := hK
  obtain ⟨L, hL⟩ : ∃ L, L = xs.length - p := ⟨_, rfl⟩
  rw [← hL] at HC
  have hL1 : 0 < L := by omega
  obtain ⟨y, hy⟩ : ∃ y : Nat, y = x.toNat := ⟨_, rfl⟩
  obtain ⟨z, hz'⟩ : ∃ z : Nat, z = xs[p].toNat := ⟨_, rfl⟩
  rw [← hz'] at hc
  rw [← hy] at HM HK ⊢
  clear hfin hM hK h hf hL hy hz'
  go_enter Tryz.func22, Tryz.ntmps22
  go_wp2_with fail
  refine HC.out.mono ?_
  rintro e w1 ⟨rfl, hw⟩
  obtain rfl := hw.symm
  clear hw HC
  go_wp2
  go_ret
  exact ⟨rfl, HM.out, HK.out⟩

set_option maxHeartbeats 400000 in
theorem write_out (b g : Nat) (xs : List UInt32) (p : Int) (x : Nat) (w : World) (h : Mm w b g xs) (hf : ¬ (0 ≤ p ∧ p < xs.length)) (hp : p ≤ 9223372036854775807) :
    Calls Tryz.prog 22 #[.pointer (some ⟨b, 0, none⟩), .int .i64 p, .int .u32 x] w fun e w' => e = .returned (.int .i64 51) ∧ w' = w := by
  have HC : Hid (Calls _ _ _ _ _) := run_out b g xs p 1 w h (by omega) hp
  clear h hf hp
  go_enter Tryz.func22, Tryz.ntmps22
  go_wp2_with fail
  refine HC.out.mono ?_
  rintro e w1 ⟨rfl, hw⟩
  obtain rfl := hw.symm
  clear hw HC
  go_wp2
  go_ret
  exact ⟨rfl, rfl⟩

set_option maxHeartbeats 400000 in
theorem read_in (b g : Nat) (xs : List UInt32) (p : Nat) (w : World) (h : Mm w b g xs) (hf : p < xs.length) :
    Calls Tryz.prog 36 #[.pointer (some ⟨b, 0, none⟩), .int .i64 p] w fun e w' => e = .returned (.tuple #[.int .u32 (xs[p].toNat : Int), .int .i64 0]) ∧ w' = w := by
  have hc := h.row.cell (wvs_get xs p hf)
  have HC : Hid (Calls _ _ _ _ _) := run_in b g xs p 1 w h (by omega)
  rw [at0_in (n := 1) (show p + 1 ≤ xs.length by omega) (by omega)] at HC
  obtain ⟨L, hL⟩ : ∃ L, L = xs.length - p := ⟨_, rfl⟩
  rw [← hL] at HC
  obtain ⟨z, hz'⟩ : ∃ z : Nat, z = xs[p].toNat := ⟨_, rfl⟩
  rw [← hz'] at hc ⊢
  clear h hf hL hz'
  go_enter Tryz.func36, Tryz.ntmps36
  go_wp2_with fail
  refine HC.out.mono ?_
  rintro e w1 ⟨rfl, hw⟩
  obtain rfl := hw.symm
  clear hw HC
  go_wp2
  go_ret2
  exact ⟨rfl, rfl⟩

end Mq
end Go.Proofs.YtfbapgcopidbpaaGreat
