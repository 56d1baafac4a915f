import Derived.Test.YtadhldpeklkcmaaC
import Derived.Handy
namespace Go.Proofs.Ytadhldpeklkcmaa
open Go.RowKit
set_option linter.unusedVariables false

/-- Both words of the lock are there. -/
def LkOk (xs : List UInt32) (p : Int) : Prop := 0 ≤ p ∧ p + 1 < xs.length
instance (xs : List UInt32) (p : Int) : Decidable (LkOk xs p) := by unfold LkOk; infer_instance
def nx (xs : List UInt32) (p : Int) : UInt32 := xs.getD p.toNat 0
def tu (xs : List UInt32) (p : Int) : UInt32 := xs.getD (p.toNat + 1) 0

set_option maxHeartbeats 400000 in
theorem read_out (b g : Nat) (xs : List UInt32) (p : Int) (w : World) (h : Mm w b g xs) (hf : ¬ (0 ≤ p ∧ p < xs.length)) (hp : p ≤ 9223372036854775807) :
    Calls Try.prog 62 #[.pointer (some ⟨b, 0, none⟩), .int .i64 p] w fun e w' => e = .returned (.tuple #[.int .u32 0, .int .i64 51]) ∧ w' = w := by
  have HC : Hid (Calls _ _ _ _ _) := run_out b g xs p 1 w h (by omega) hp
  clear h hf hp
  go_enter Try.func62, Try.ntmps62
  go_wp2_with fail
  refine HC.out.mono ?_
  rintro e w1 ⟨rfl, hw⟩
  obtain rfl := hw.symm
  clear hw HC
  go_wp2
  go_ret2
  exact ⟨rfl, rfl⟩

theorem pair_new (w : World) {b g : Nat} {xs : List UInt32} (h : Mm w b g xs) (x y : Value) : Mm (w.alloc (.cells #[x, y] 116)) b g xs := h.kept ((Keeps.refl (fun _ => False) w).alloc _) (fun e => e) (fun e => e)

set_option maxHeartbeats 400000 in
theorem lread_in (b g : Nat) (xs : List UInt32) (p : Int) (w : World) (h : Mm w b g xs) (hf : LkOk xs p) :
    Calls Try.prog 59 #[.pointer (some ⟨b, 0, none⟩), .int .i64 p] w fun e w' => e = .returned (.tuple #[.agg #[.int .u32 ((nx xs p).toNat : Int), .int .u32 ((tu xs p).toNat : Int)], .int .i64 0]) ∧ Keeps (fun _ => False) w w' := by
  obtain ⟨h0, h1⟩ := hf
  obtain ⟨q, rfl⟩ : ∃ q : Nat, p = q := ⟨p.toNat, by omega⟩
  have H1 := read_in b g xs q (w.alloc (.cells #[.int .u32 0, .int .u32 0] 116)) (pair_new w h _ _) (by omega)
  have H2 := read_in b g xs (q + 1) (w.alloc (.cells #[.int .u32 0, .int .u32 0] 116)) (pair_new w h _ _) (by omega)
  have e1 : nx xs q = xs[q]'(by omega) := by simp [nx, List.getD]; rw [List.getElem?_eq_getElem (by omega)]; rfl
  have e2 : tu xs q = xs[q + 1]'(by omega) := by simp [tu, List.getD]; rw [List.getElem?_eq_getElem (by omega)]; rfl
  rw [← e1] at H1
  rw [← e2] at H2
  have hsm := h.small
  have e3 : ((q + 1 : Nat) : Int) = (q : Int) + 1 := by omega
  rw [e3] at H2
  obtain ⟨n, hn⟩ : ∃ n : Nat, n = (nx xs q).toNat := ⟨_, rfl⟩
  obtain ⟨t, ht⟩ : ∃ t : Nat, t = (tu xs q).toNat := ⟨_, rfl⟩
  rw [← hn] at H1 ⊢
  rw [← ht] at H2 ⊢
  have H1 : Hid (Calls _ _ _ _ _) := H1
  have H2 : Hid (Calls _ _ _ _ _) := H2
  have hq : (q : Int) ≤ 16384 := by omega
  clear h e1 e2 e3 hn ht h1 hsm h0
  go_enter Try.func59, Try.ntmps59
  go_wp2_with fail
  refine H1.out.mono ?_
  rintro e w1 ⟨rfl, hw⟩
  obtain rfl := hw.symm
  clear hw H1
  go_wp2_with fail
  refine H2.out.mono ?_
  rintro e w1 ⟨rfl, hw⟩
  obtain rfl := hw.symm
  clear hw H2
  go_wp2
  go_returns
  exact ⟨rfl, (Keeps.refl _ w).alloc _⟩

set_option maxHeartbeats 400000 in
theorem lread_out (b g : Nat) (xs : List UInt32) (p : Int) (w : World) (h : Mm w b g xs) (hf : ¬ LkOk xs p) (hp : p ≤ 9223372036854775807) :
    Calls Try.prog 59 #[.pointer (some ⟨b, 0, none⟩), .int .i64 p] w fun e w' => e = .returned (.tuple #[.agg #[.int .u32 0, .int .u32 0], .int .i64 51]) ∧ Keeps (fun _ => False) w w' := by
  unfold LkOk at hf
  have hsm := h.small
  by_cases h0 : 0 ≤ p ∧ p < xs.length
  · obtain ⟨q, rfl⟩ : ∃ q : Nat, p = q := ⟨p.toNat, by omega⟩
    have H1 := read_in b g xs q (w.alloc (.cells #[.int .u32 0, .int .u32 0] 116)) (pair_new w h _ _) (by omega)
    have H2 : Hid (Calls _ _ _ _ _) := read_out b g xs ((q : Int) + 1) (w.alloc (.cells #[.int .u32 0, .int .u32 0] 116)) (pair_new w h _ _) (by omega) (by omega)
    obtain ⟨n, hn⟩ : ∃ n : Nat, n = (xs[q]'(by omega)).toNat := ⟨_, rfl⟩
    rw [← hn] at H1
    have H1 : Hid (Calls _ _ _ _ _) := H1
    have hq : (q : Int) ≤ 16384 := by omega
    clear h hn h0 hf hp hsm
    go_enter Try.func59, Try.ntmps59
    go_wp2_with fail
    refine H1.out.mono ?_
    rintro e w1 ⟨rfl, hw⟩
    obtain rfl := hw.symm
    clear hw H1
    go_wp2_with fail
    refine H2.out.mono ?_
    rintro e w1 ⟨rfl, hw⟩
    obtain rfl := hw.symm
    clear hw H2
    go_wp2
    go_returns
    exact ⟨rfl, (Keeps.refl _ w).alloc _⟩
  · have H1 : Hid (Calls _ _ _ _ _) := read_out b g xs p (w.alloc (.cells #[.int .u32 0, .int .u32 0] 116)) (pair_new w h _ _) h0 hp
    clear h h0 hf hp hsm
    go_enter Try.func59, Try.ntmps59
    go_wp2_with fail
    refine H1.out.mono ?_
    rintro e w1 ⟨rfl, hw⟩
    obtain rfl := hw.symm
    clear hw H1
    go_wp2
    go_returns
    exact ⟨rfl, (Keeps.refl _ w).alloc _⟩

set_option maxHeartbeats 400000 in
theorem out_any (n t : UInt32) (w : World) :
    Calls Try.prog 60 #[.agg #[.int .u32 (n.toNat : Int), .int .u32 (t.toNat : Int)]] w fun e w' => e = .returned (.int .u32 ((n - t).toNat : Int)) ∧ Keeps (fun _ => False) w w' := by
  have e1 : (((n - t).toNat : Nat) : Int) = ((n.toNat : Int) - t.toNat) % 4294967296 := by
    rw [UInt32.toNat_sub]
    have := n.toNat_lt
    have := t.toNat_lt
    omega
  obtain ⟨r, hr⟩ : ∃ r : Nat, r = (n - t).toNat := ⟨_, rfl⟩
  rw [← hr] at e1 ⊢
  have E1 : Hid (_ = _) := e1
  clear e1 hr
  go_enter Try.func60, Try.ntmps60
  go_wp2
  go_ret
  exact ⟨ret_int (by rw [E1.out]), (Keeps.refl _ w).alloc _⟩

end Go.Proofs.Ytadhldpeklkcmaa
