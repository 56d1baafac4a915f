import Derived.Test.YtekijhhpldnmnaaTg
import Derived.Test.YtekijhhpldnmnaaTh
namespace Go.Proofs.Ytekijhhpldnmnaa
open Go.RowKit
set_option linter.unusedVariables false
set_option linter.unusedSimpArgs false

set_option maxRecDepth 20000 in
set_option maxHeartbeats 2000000 in
theorem port_out (a : Option Addr) (M c n d : Nat) (p : Int) (w : World) (hm : M ≤ 256) (hn : n ≤ 16) (hd : d ≤ 8) (ho : ¬ (0 ≤ p ∧ p + (rsz 3 n d : Int) ≤ M)) :
    Calls Try.prog 58 #[.slice a M c, .int .i64 p, .int .i64 n, .int .i64 d] w fun e w' => e = .returned (.tuple #[.agg #[.int .i64 0, .slice none 0 0, .int .u32 0], .int .i64 51]) ∧ Keeps (fun _ => False) w w' := by
  obtain ⟨W1, hW1, hK1, hB1, hs1⟩ := zrow3 w
  have hb := Nat.mul_le_mul hd (show 1 + n ≤ 17 by omega)
  have HS : Hid (Calls _ _ _ _ _) := portWords_any n d W1 hn hd
  have hfit := rfits_any a M c p (rsz 3 n d : Nat) W1 hm ⟨by omega, by rw [rsz_nat]; omega⟩
  rw [decide_eq_false ho] at hfit
  have HF : Hid (Calls _ _ _ _ _) := hfit
  obtain ⟨R, hR⟩ : ∃ R : Int, R = (rsz 3 n d : Nat) := ⟨_, rfl⟩
  rw [← hR] at HS HF
  have HW : Hid (W1 = w.alloc (.cells zc3 92) ∧ Keeps (fun _ => False) w W1 ∧ Blk W1 w.heap.size zc3.toList 92) := ⟨hW1, hK1, hB1⟩
  obtain ⟨O, hO⟩ : ∃ O, O = w.heap.size := ⟨_, rfl⟩
  rw [← hO] at hB1
  have HO : Hid (O = w.heap.size ∧ Blk W1 O zc3.toList 92) := ⟨hO, hB1⟩
  obtain ⟨⟨c0, c1, c2⟩, f0, f1, f2⟩ := z3_facts hB1
  clear hW1 hK1 hB1 hs1 hb hfit hR hO hm hn hd ho
  go_enter Try.func58, Try.ntmps58
  go_wp2_with fail
  rw [← HW.out.1, ← HO.out.1]
  refine HS.out.mono ?_
  rintro e w1 ⟨rfl, rfl⟩
  go_wp2_with fail
  refine HF.out.mono ?_
  rintro e w1 ⟨rfl, rfl⟩
  go_wp2
  obtain ⟨W6, hW6, hB6, hk6, _⟩ := ret92 HW.out.2.1 HO.out.2 rfl (by rw [HO.out.1]; exact Nat.le_refl _) (MsR.nil 0 _) (.int .i64 0) (.slice none 0 0) (.int .u32 0)
  rw [← hW6]
  have d0 := hB6.cell (i := 0) rfl
  have d1 := hB6.cell (i := 1) rfl
  have d2 := hB6.cell (i := 2) rfl
  refine bodyPost_ret (by simp [results, Try.results58, go_sem, d0, d1, d2]; try rfl) rfl ?_
  exact ⟨rfl, hk6⟩

/-- Stage and Port, whatever the place. -/
theorem stage_any (D M c n d : Nat) (p : Int) (xs : List UInt32) (w : World) (hB : Blk w D (wvs xs) 52) (hM : M = xs.length) (hm : M ≤ 256) (hf : fitE false n d = 0) :
    Calls Try.prog 54 #[.slice (some ⟨D, 0, none⟩) M c, .int .i64 p, .int .i64 n, .int .i64 d] w fun e w' => RdP w (lkE false xs p 1 n d) (rdA xs p 1 n d) e w' := by
  obtain ⟨_, f1, f2, f3, f4⟩ := fit_ok hf
  by_cases ho : 0 ≤ p ∧ p + (rsz 1 n d : Int) ≤ M
  · obtain ⟨p', rfl⟩ : ∃ k : Nat, p = k := ⟨p.toNat, by omega⟩
    exact stage_in D M c n d p' xs w hB hM hm hf (by omega)
  · refine (stage_out (some ⟨D, 0, none⟩) M c n d p w hm (by omega) (by omega) ho).mono fun e w' ⟨h1, h2⟩ => ?_
    have : lkE false xs p 1 n d = 51 := lkE_out hf (by rw [← hM]; exact ho)
    rw [this]
    exact .inr ⟨by decide, h1, h2⟩
theorem port_any (D M c n d : Nat) (p : Int) (xs : List UInt32) (w : World) (hB : Blk w D (wvs xs) 52) (hM : M = xs.length) (hm : M ≤ 256) (hf : fitE false n d = 0) :
    Calls Try.prog 58 #[.slice (some ⟨D, 0, none⟩) M c, .int .i64 p, .int .i64 n, .int .i64 d] w fun e w' => RdP w (lkE false xs p 3 n d) (rdA xs p 3 n d) e w' := by
  obtain ⟨_, f1, f2, f3, f4⟩ := fit_ok hf
  by_cases ho : 0 ≤ p ∧ p + (rsz 3 n d : Int) ≤ M
  · obtain ⟨p', rfl⟩ : ∃ k : Nat, p = k := ⟨p.toNat, by omega⟩
    exact port_in D M c n d p' xs w hB hM hm hf (by omega)
  · refine (port_out (some ⟨D, 0, none⟩) M c n d p w hm (by omega) (by omega) ho).mono fun e w' ⟨h1, h2⟩ => ?_
    have : lkE false xs p 3 n d = 51 := lkE_out hf (by rw [← hM]; exact ho)
    rw [this]
    exact .inr ⟨by decide, h1, h2⟩

end Go.Proofs.Ytekijhhpldnmnaa
