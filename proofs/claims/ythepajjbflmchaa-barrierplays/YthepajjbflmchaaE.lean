import Derived.Test.YthepajjbflmchaaD
import Derived.Deep.RegionHeld3
import Derived.StillTailTactics
namespace Go.Proofs.Ythepajjbflmchaa
open Go.RowKit
set_option linter.unusedVariables false

theorem Try.mixedR : Try.prog.follows .mixedOrders = true := by kernel_rfl
theorem region_tailR {id : Nat} {Q : Exit → Act → World → Prop} {a : Act} {w : World} {l : List Oper} (n : Nat) (hB : Region.lexTailB .any l.toArray n = true)
    (h : wpStill Try.prog l.toArray (w.drewN 1) (fun a' => wpList Try.prog l.toArray Q (l.drop n) a' (w.drewN 1)) (l.take n) a) : (Code.region id l.toArray true).wp Try.prog Q a w :=
  wp_region_still_tail n Try.mixedR hB h

theorem get2 (xs : List UInt32) (p : Int) (h : BrOk xs p) : (xs.drop p.toNat).take 2 = [cm xs p, ep xs p] := by
  obtain ⟨h0, h1⟩ := h
  obtain ⟨q, rfl⟩ : ∃ q : Nat, p = q := ⟨p.toNat, by omega⟩
  have hq : q + 1 < xs.length := by omega
  apply List.ext_getElem?
  intro i
  match i with
  | 0 => simp [cm, List.getD]; rw [List.getElem?_eq_getElem (by omega)]; rfl
  | 1 => simp [ep, List.getD]; rw [List.getElem?_eq_getElem (by omega)]; rfl
  | (n + 2) => simp [List.getElem?_take]; intro h; omega

set_option maxHeartbeats 400000 in
theorem look_in (b g : Nat) (xs : List UInt32) (p : Int) (w : World) (h : Mm w b g xs) (hf : BrOk xs p) :
    Calls Try.prog 13 #[.pointer (some ⟨b, 0, none⟩), .int .i64 p] w fun e w' => e = .returned (.tuple #[.agg #[.int .i64 ((cm xs p).toNat : Int), .int .i64 ((ep xs p).toNat : Int)], .int .i64 0]) ∧ Keeps (fun _ => False) w w' := by
  have hk := (Keeps.refl (fun _ => False) w).alloc (.cells #[.int .i64 0, .int .i64 0] 42)
  have HT := take_in b g xs p.toNat 2 (w.alloc (.cells #[.int .i64 0, .int .i64 0] 42)) (h.kept hk (fun e => e) (fun e => e)) (by have := hf.1; have := hf.2; omega)
  rw [get2 xs p hf] at HT
  have e0 : ((p.toNat : Nat) : Int) = p := by have := hf.1; omega
  rw [e0] at HT
  have l1 := (cm xs p).toNat_lt
  have l2 := (ep xs p).toNat_lt
  obtain ⟨x, hx⟩ : ∃ x : Nat, x = (cm xs p).toNat := ⟨_, rfl⟩
  obtain ⟨y, hy⟩ : ∃ y : Nat, y = (ep xs p).toNat := ⟨_, rfl⟩
  have ew : wvs [cm xs p, ep xs p] = [.int .u32 (x : Int), .int .u32 (y : Int)] := by simp [wvs, hx, hy]
  rw [ew] at HT
  rw [← hx, ← hy]
  rw [← hx] at l1
  rw [← hy] at l2
  obtain ⟨W0, hW0⟩ : ∃ W0, W0 = w.alloc (.cells #[.int .i64 0, .int .i64 0] 42) := ⟨_, rfl⟩
  have hB0 : Blk W0 w.heap.size [.int .i64 0, .int .i64 0] 42 := by rw [hW0]; exact Blk.new w _ 42
  rw [← hW0] at HT hk
  have HT : Hid (Calls _ _ _ _ _) := HT
  have HK : Hid (Keeps _ _ _) := hk
  have HB : Hid (Blk _ _ _ _) := hB0
  have HW : Hid (W0 = _) := hW0
  have q1 : IntKind.i64.wrap (x : Int) = (x : Int) := by rw [IntKind.wrap_i64]; omega
  have q2 : IntKind.i64.wrap (y : Int) = (y : Int) := by rw [IntKind.wrap_i64]; omega
  clear h hf hx hy ew e0 hk l1 l2 hB0 hW0
  go_enter Try.func13, Try.ntmps13
  go_wp2_with fail
  rw [← HW.out]
  refine HT.out.mono ?_
  rintro e w1 ⟨rfl, h1, h2⟩
  have c1 := h1.cell (i := 0) rfl
  have c2 := h1.cell (i := 1) rfl
  have c3 := HB.out.kept h2 (fun e => e)
  have c4 := c3.cell (i := 0) rfl
  have c5 := c3.cell (i := 1) rfl
  have c6 := c3.frozen 0
  have c7 := c3.frozen 1
  have hne : ¬ W0.heap.size = w.heap.size := fun e => by have := HB.out.lt; omega
  have H2 : Hid (Keeps _ _ _) := h2
  obtain ⟨B, hB⟩ : ∃ B, B = W0.heap.size := ⟨_, rfl⟩
  obtain ⟨A, hA⟩ : ∃ A, A = w.heap.size := ⟨_, rfl⟩
  rw [← hB] at c1 c2 hne ⊢
  rw [← hA] at c4 c5 c6 c7 c3 hne ⊢
  have HA : Hid (A = _) := hA
  have C3 : Hid (Blk _ _ _ _) := c3
  clear hB hA h1 h2 HT c3
  go_wp2_with fail
  refine region_tailR 9 (by kernel_rfl) ?_
  simp only [List.take_succ_cons, List.take_zero, List.drop_succ_cons, List.drop_zero]
  repeat still_step
  refine wpStill_nil ?_
  go_wp2
  have k1 := ((HK.out.trans H2.out (fun _ _ e => e)).drewN 1).setCell ⟨A, 0, none⟩ (.int .i64 (x : Int)) (fun h => by have := HA.out; simp at h; omega)
  have k2 := k1.setCell ⟨A, 1, none⟩ (.int .i64 (y : Int)) (fun h => by have := HA.out; simp at h; omega)
  have d := ((C3.out.drewN 1).setCell 0 (.int .i64 (x : Int))).setCell 1 (.int .i64 (y : Int))
  obtain ⟨W2, hW2⟩ : ∃ W2, W2 = ((w1.drewN 1).setCell ⟨A, 0, none⟩ (.int .i64 (x : Int))).setCell ⟨A, 1, none⟩ (.int .i64 (y : Int)) := ⟨_, rfl⟩
  rw [← hW2] at d k2 ⊢
  have d0 : W2.cell? ⟨A, 0, none⟩ = some (.int .i64 (x : Int)) := d.cell rfl
  have d1 : W2.cell? ⟨A, 1, none⟩ = some (.int .i64 (y : Int)) := d.cell rfl
  have K2 : Hid (Keeps _ _ _) := k2
  clear k1 k2 d hW2
  (try simp only [Exit.inBlock, Exit.then])
  refine bodyPost_ret (by simp [results, Try.results13, go_sem, d0, d1]; try rfl) rfl ?_
  exact ⟨rfl, K2.out⟩

set_option maxHeartbeats 400000 in
theorem look_out (b g : Nat) (xs : List UInt32) (p : Int) (w : World) (h : Mm w b g xs) (hf : ¬ BrOk xs p) (hp : p ≤ 9223372036854775807) :
    Calls Try.prog 13 #[.pointer (some ⟨b, 0, none⟩), .int .i64 p] w fun e w' => e = .returned (.tuple #[.agg #[.int .i64 0, .int .i64 0], .int .i64 51]) ∧ Keeps (fun _ => False) w w' := by
  have hk := (Keeps.refl (fun _ => False) w).alloc (.cells #[.int .i64 0, .int .i64 0] 42)
  have HT := take_out b g xs p 2 (w.alloc (.cells #[.int .i64 0, .int .i64 0] 42)) (h.kept hk (fun e => e) (fun e => e)) (by unfold BrOk at hf; omega) hp
  have HT : Hid (Calls _ _ _ _ _) := HT
  have HK : Hid (Keeps _ _ _) := hk
  clear h hf hp hk
  go_enter Try.func13, Try.ntmps13
  go_wp2_with fail
  refine HT.out.mono ?_
  rintro e w1 ⟨rfl, hw⟩
  obtain rfl := hw.symm
  clear hw HT
  go_wp2
  go_returns
  exact ⟨rfl, HK.out⟩

set_option maxHeartbeats 400000 in
theorem look_nil (p : Int) (w : World) :
    Calls Try.prog 13 #[.pointer none, .int .i64 p] w fun e w' => e = .returned (.tuple #[.agg #[.int .i64 0, .int .i64 0], .int .i64 3]) ∧ Keeps (fun _ => False) w w' := by
  have hk := (Keeps.refl (fun _ => False) w).alloc (.cells #[.int .i64 0, .int .i64 0] 42)
  have HT := take_nil p 2 (w.alloc (.cells #[.int .i64 0, .int .i64 0] 42))
  have HT : Hid (Calls _ _ _ _ _) := HT
  have HK : Hid (Keeps _ _ _) := hk
  clear hk
  go_enter Try.func13, Try.ntmps13
  go_wp2_with fail
  refine HT.out.mono ?_
  rintro e w1 ⟨rfl, hw⟩
  obtain rfl := hw.symm
  clear hw HT
  go_wp2
  go_returns
  exact ⟨rfl, HK.out⟩

end Go.Proofs.Ythepajjbflmchaa
