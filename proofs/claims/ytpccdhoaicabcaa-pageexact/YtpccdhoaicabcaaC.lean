import Derived.Test.YtpccdhoaicabcaaB
namespace Go.Proofs.Ytpccdhoaicabcaa
open Go.RowKit
set_option linter.unusedVariables false

/-- What a call that may lay words leaves: the error, the memory's words. -/
def Done (w : World) (b g : Nat) (xs : List UInt32) (p n : Int) (ys : List UInt32) (e : Ending) (w' : World) : Prop :=
  ((0 ≤ p ∧ 0 ≤ n ∧ p + n ≤ xs.length) ∧ e = .returned (.int .i64 0) ∧ Mm w' b g (lay xs p.toNat ys) ∧ Keeps (· = g) w w') ∨
  (¬ (0 ≤ p ∧ 0 ≤ n ∧ p + n ≤ xs.length) ∧ e = .returned (.int .i64 51) ∧ w' = w)

theorem setRow_keeps (w : World) (g : Nat) (cs : Array Value) : Keeps (· = g) w (w.setRow g cs) := (Keeps.refl _ w).setRow g cs fun _ => rfl

set_option maxHeartbeats 400000 in
theorem write_in (b g : Nat) (xs : List UInt32) (p : Nat) (x : UInt32) (w : World) (h : Mm w b g xs) (hf : p < xs.length) :
    Calls Try.prog 29 #[.pointer (some ⟨b, 0, none⟩), .int .i64 p, .int .u32 (x.toNat : Int)] w fun e w' => e = .returned (.int .i64 0) ∧ Mm w' b g (lay xs p [x]) ∧ Keeps (· = g) w w' := by
  have hc := h.row.cell (wvs_get xs p hf)
  have hz := h.row.frozen p
  have HC : Hid (Calls _ _ _ _ _) := run_in b g xs p 1 w h (by omega)
  have hfin : w.setCell ⟨g, p, none⟩ (.int .u32 (x.toNat : Int)) = w.setRow g ((wvs xs).take p ++ wvs [x] ++ (wvs xs).drop (p + [x].length)).toArray := by
    rw [setCell_eq_setRow w g p _ 27 _ _ h.row]
    congr 1
    have hl : p < (wvs xs).length := by rw [wvs_length]; exact hf
    have e : (wvs xs).set p (.int .u32 (x.toNat : Int)) = (wvs xs).take p ++ wvs [x] ++ (wvs xs).drop (p + [x].length) := by
      rw [List.set_eq_take_append_cons_drop, if_pos hl]; simp [wvs]
    rw [← e]; simp
  have hM := h.laid p [x] (by simp; omega)
  rw [← hfin] at hM
  have hK : Keeps (· = g) w (w.setCell ⟨g, p, none⟩ (.int .u32 (x.toNat : Int))) := (Keeps.refl _ w).setCell _ _ fun _ => rfl
  rw [at0_in (n := 1) (show p + 1 ≤ xs.length by omega) (by omega)] at HC
  have HM : Hid (Mm _ _ _ _) := hM
  have HK : Hid (Keeps _ _ _) := hK
  obtain ⟨L, hL⟩ : ∃ L, L = xs.length - p := ⟨_, rfl⟩
  rw [← hL] at HC
  have hL1 : 0 < L := by omega
  obtain ⟨y, hy⟩ : ∃ y : Nat, y = x.toNat := ⟨_, rfl⟩
  obtain ⟨z, hz'⟩ : ∃ z : Nat, z = xs[p].toNat := ⟨_, rfl⟩
  rw [← hz'] at hc
  rw [← hy] at HM HK ⊢
  clear hfin hM hK h hf hL hy hz'
  go_enter Try.func29, Try.ntmps29
  go_wp2_with fail
  refine HC.out.mono ?_
  rintro e w1 ⟨rfl, hw⟩
  obtain rfl := hw.symm
  clear hw HC
  go_wp2
  go_ret
  exact ⟨rfl, HM.out, HK.out⟩

set_option maxHeartbeats 400000 in
theorem write_out (b g : Nat) (xs : List UInt32) (p : Int) (x : Nat) (w : World) (h : Mm w b g xs) (hf : ¬ (0 ≤ p ∧ p < xs.length)) (hp : p ≤ 9223372036854775807) :
    Calls Try.prog 29 #[.pointer (some ⟨b, 0, none⟩), .int .i64 p, .int .u32 x] w fun e w' => e = .returned (.int .i64 51) ∧ w' = w := by
  have HC : Hid (Calls _ _ _ _ _) := run_out b g xs p 1 w h (by omega) hp
  clear h hf hp
  go_enter Try.func29, Try.ntmps29
  go_wp2_with fail
  refine HC.out.mono ?_
  rintro e w1 ⟨rfl, hw⟩
  obtain rfl := hw.symm
  clear hw HC
  go_wp2
  go_ret
  exact ⟨rfl, rfl⟩

set_option maxHeartbeats 400000 in
theorem read_in (b g : Nat) (xs : List UInt32) (p : Nat) (w : World) (h : Mm w b g xs) (hf : p < xs.length) :
    Calls Try.prog 64 #[.pointer (some ⟨b, 0, none⟩), .int .i64 p] w fun e w' => e = .returned (.tuple #[.int .u32 (xs[p].toNat : Int), .int .i64 0]) ∧ w' = w := by
  have hc := h.row.cell (wvs_get xs p hf)
  have HC : Hid (Calls _ _ _ _ _) := run_in b g xs p 1 w h (by omega)
  rw [at0_in (n := 1) (show p + 1 ≤ xs.length by omega) (by omega)] at HC
  obtain ⟨L, hL⟩ : ∃ L, L = xs.length - p := ⟨_, rfl⟩
  rw [← hL] at HC
  obtain ⟨z, hz'⟩ : ∃ z : Nat, z = xs[p].toNat := ⟨_, rfl⟩
  rw [← hz'] at hc ⊢
  clear h hf hL hz'
  go_enter Try.func64, Try.ntmps64
  go_wp2_with fail
  refine HC.out.mono ?_
  rintro e w1 ⟨rfl, hw⟩
  obtain rfl := hw.symm
  clear hw HC
  go_wp2
  go_ret2
  exact ⟨rfl, rfl⟩

set_option maxHeartbeats 400000 in
theorem lay_in (b g : Nat) (xs : List UInt32) (p : Nat) (a : Option Addr) (c : Nat) (ys : List UInt32) (w : World) (h : Mm w b g xs) (hy : SegW w a ys) (hf : p + ys.length ≤ xs.length) :
    Calls Try.prog 62 #[.pointer (some ⟨b, 0, none⟩), .int .i64 p, .slice a ys.length c] w fun e w' => e = .returned (.int .i64 0) ∧ Mm w' b g (lay xs p ys) ∧ Keeps (· = g) w w' := by
  have HC : Hid (Calls _ _ _ _ _) := run_in b g xs p ys.length w h hf
  have hfit := at0_fit hf
  have hM := h.laid (at0 xs.length p) ys hfit
  rw [lay_at0 xs p ys hf] at hM
  have hcp := fun ty => run_copy_wb (w := w) ty g (at0 xs.length p) (xs.length - p) _ 27 h.row a c ys hy (by rw [wvs_length]; exact hfit)
  obtain ⟨W1, hW1⟩ : ∃ W1, W1 = w.setRow g (List.take (at0 xs.length p) (wvs xs) ++ wvs ys ++ List.drop (at0 xs.length p + ys.length) (wvs xs)).toArray := ⟨_, rfl⟩
  have hK : Keeps (· = g) w W1 := by rw [hW1]; exact setRow_keeps w g _
  rw [← hW1] at hM hcp
  have HM : Hid (Mm _ _ _ _) := hM
  have HK : Hid (Keeps _ _ _) := hK
  obtain ⟨L, hL⟩ : ∃ L, L = xs.length - p := ⟨_, rfl⟩
  obtain ⟨o, ho⟩ : ∃ o, o = at0 xs.length p := ⟨_, rfl⟩
  obtain ⟨n, hn⟩ : ∃ n, n = ys.length := ⟨_, rfl⟩
  rw [← hL, ← ho, ← hn] at HC hcp
  rw [← hn]
  have HCP : Hid (∀ ty, _) := hcp
  clear hcp hM hK h hf hL ho hn hW1 hy hfit
  go_enter Try.func62, Try.ntmps62
  go_wp2_with fail
  refine HC.out.mono ?_
  rintro e w1 ⟨rfl, hw⟩
  obtain rfl := hw.symm
  clear hw HC
  go_wp2_with (refine isCopy (.tmp 20) (.tmp 21) 33 33 rfl ?_; go_must (refine wpList_copy_run rfl (.tmp 20) (.tmp 21) 33 33 rfl (.slice (some ⟨g, o, none⟩) n L) (.slice a n c) (goInt n) W1 rfl rfl HCP.out ?_))
  go_ret
  exact ⟨rfl, HM.out, HK.out⟩

set_option maxHeartbeats 400000 in
theorem lay_out (b g : Nat) (xs : List UInt32) (p : Int) (a : Option Addr) (n c : Nat) (w : World) (h : Mm w b g xs) (hf : ¬ (0 ≤ p ∧ p + n ≤ xs.length)) (hp : p ≤ 9223372036854775807) :
    Calls Try.prog 62 #[.pointer (some ⟨b, 0, none⟩), .int .i64 p, .slice a n c] w fun e w' => e = .returned (.int .i64 51) ∧ w' = w := by
  have HC : Hid (Calls _ _ _ _ _) := run_out b g xs p n w h (by omega) hp
  clear h hf hp
  go_enter Try.func62, Try.ntmps62
  go_wp2_with fail
  refine HC.out.mono ?_
  rintro e w1 ⟨rfl, hw⟩
  obtain rfl := hw.symm
  clear hw HC
  go_wp2
  go_ret
  exact ⟨rfl, rfl⟩

end Go.Proofs.Ytpccdhoaicabcaa
