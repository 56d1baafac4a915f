import Derived.Test.YthepajjbflmchaaF
namespace Go.Proofs.Ythepajjbflmchaa
open Go.RowKit
set_option linter.unusedVariables false

def LF (m : Value) (p c : Int) (w : World) (x y : Nat) (E : Int) : Prop :=
  Calls Try.prog 26 #[m, .int .i64 p, .int .i64 c] w fun e w' => e = .returned (.tuple #[.agg #[.int .i64 (x : Int), .int .i64 (y : Int)], .int .i64 E]) ∧ Keeps (fun _ => False) w w'

set_option maxHeartbeats 400000 in
theorem come_no (m : Value) (p c E : Int) (w : World) (h : LF m p c w 0 0 E) (hE : ¬ E = 0) :
    Calls Try.prog 14 #[m, .int .i64 p, .int .i64 c] w fun e w' => e = .returned (.tuple #[.bool false, .int .i64 E]) ∧ Keeps (fun _ => False) w w' := by
  have HT : Hid (Calls _ _ _ _ _) := h
  clear h
  go_enter Try.func14, Try.ntmps14
  go_wp2_with fail
  refine HT.out.mono ?_
  rintro e w1 ⟨rfl, hk⟩
  have HK : Hid (Keeps _ _ _) := hk
  clear hk HT
  go_wp2
  go_ret2
  exact ⟨rfl, HK.out.alloc _⟩

set_option maxHeartbeats 400000 in
theorem open_no (m : Value) (p c E : Int) (w : World) (h : LF m p c w 0 0 E) (hE : ¬ E = 0) :
    Calls Try.prog 15 #[m, .int .i64 p, .int .i64 c] w fun e w' => e = .returned (.int .i64 E) ∧ Keeps (fun _ => False) w w' := by
  have HT : Hid (Calls _ _ _ _ _) := h
  clear h
  go_enter Try.func15, Try.ntmps15
  go_wp2_with fail
  refine HT.out.mono ?_
  rintro e w1 ⟨rfl, hk⟩
  have HK : Hid (Keeps _ _ _) := hk
  clear hk HT
  go_wp2
  go_ret
  exact ⟨rfl, HK.out.alloc _⟩

set_option maxHeartbeats 400000 in
theorem come_full (m : Value) (p c : Int) (x y : Nat) (w : World) (h : LF m p c w x y 0) (hx : c ≤ (x : Int)) :
    Calls Try.prog 14 #[m, .int .i64 p, .int .i64 c] w fun e w' => e = .returned (.tuple #[.bool false, .int .i64 181]) ∧ Keeps (fun _ => False) w w' := by
  have HT : Hid (Calls _ _ _ _ _) := h
  clear h
  go_enter Try.func14, Try.ntmps14
  go_wp2_with fail
  refine HT.out.mono ?_
  rintro e w1 ⟨rfl, hk⟩
  have HK : Hid (Keeps _ _ _) := hk
  clear hk HT
  go_wp2
  go_ret2
  exact ⟨rfl, HK.out.alloc _⟩

set_option maxHeartbeats 400000 in
theorem open_short (m : Value) (p c : Int) (x y : Nat) (w : World) (h : LF m p c w x y 0) (hx : (x : Int) < c) :
    Calls Try.prog 15 #[m, .int .i64 p, .int .i64 c] w fun e w' => e = .returned (.int .i64 182) ∧ Keeps (fun _ => False) w w' := by
  have HT : Hid (Calls _ _ _ _ _) := h
  clear h
  go_enter Try.func15, Try.ntmps15
  go_wp2_with fail
  refine HT.out.mono ?_
  rintro e w1 ⟨rfl, hk⟩
  have HK : Hid (Keeps _ _ _) := hk
  clear hk HT
  go_wp2
  go_ret
  exact ⟨rfl, HK.out.alloc _⟩

set_option maxHeartbeats 400000 in
theorem open_full (m : Value) (p c : Int) (x y : Nat) (w : World) (h : LF m p c w x y 0) (hx : c < (x : Int)) :
    Calls Try.prog 15 #[m, .int .i64 p, .int .i64 c] w fun e w' => e = .returned (.int .i64 181) ∧ Keeps (fun _ => False) w w' := by
  have HT : Hid (Calls _ _ _ _ _) := h
  have hx2 : ¬ ((x : Int) < c) := by omega
  clear h
  go_enter Try.func15, Try.ntmps15
  go_wp2_with fail
  refine HT.out.mono ?_
  rintro e w1 ⟨rfl, hk⟩
  have HK : Hid (Keeps _ _ _) := hk
  clear hk HT
  go_wp2
  go_ret
  exact ⟨rfl, HK.out.alloc _⟩

set_option maxHeartbeats 400000 in
theorem come_in (b g : Nat) (xs : List UInt32) (p c : Int) (w : World) (hm : Mm w b g xs) (hf : BrOk xs p) (hc : c ≤ 4) (h1 : 1 ≤ c) (hx : ((cm xs p).toNat : Int) < c) :
    Calls Try.prog 14 #[.pointer (some ⟨b, 0, none⟩), .int .i64 p, .int .i64 c] w fun e w' => e = .returned (.tuple #[.bool (((cm xs p).toNat : Int) + 1 == c), .int .i64 0]) ∧ Mm w' b g (lay xs p.toNat [cm xs p + 1]) ∧ Keeps (· = g) w w' := by
  have HT : Hid (Calls _ _ _ _ _) := lookFor_good (.pointer (some ⟨b, 0, none⟩)) p c w _ _ (looks_in hm hf) h1 hc
  have e1 : ((cm xs p + 1).toNat : Int) = ((cm xs p).toNat : Int) + 1 := by
    rw [UInt32.toNat_add]
    have : (1 : UInt32).toNat = 1 := rfl
    omega
  have HM : Hid (Mm w b g xs ∧ BrOk xs p) := ⟨hm, hf⟩
  have HWr : Hid (∀ W, Mm W b g xs → Calls Try.prog 18 #[.pointer (some ⟨b, 0, none⟩), .int .i64 p, .int .u32 (((cm xs p).toNat : Int) + 1)] W fun e w' => e = .returned (.int .i64 0) ∧ Mm w' b g (lay xs p.toNat [cm xs p + 1]) ∧ Keeps (· = g) W w') := by
    intro W hW
    have h2 := write_in b g xs p.toNat (cm xs p + 1) W hW (by have := hf.1; have := hf.2; omega)
    rw [e1] at h2
    have e0 : ((p.toNat : Nat) : Int) = p := by have := hf.1; omega
    rw [e0] at h2
    exact h2
  obtain ⟨x, hxx⟩ : ∃ x : Nat, x = (cm xs p).toNat := ⟨_, rfl⟩
  obtain ⟨y, hyy⟩ : ∃ y : Nat, y = (ep xs p).toNat := ⟨_, rfl⟩
  obtain ⟨ys, hys⟩ : ∃ ys, ys = lay xs p.toNat [cm xs p + 1] := ⟨_, rfl⟩
  rw [← hxx] at HT HWr hx ⊢
  rw [← hyy] at HT
  rw [← hys] at HWr ⊢
  have q1 : IntKind.i64.wrap ((x : Int) + 1) = (x : Int) + 1 := by rw [IntKind.wrap_i64]; omega
  have q2 : IntKind.u32.wrap ((x : Int) + 1) = (x : Int) + 1 := by rw [IntKind.wrap_u32]; omega
  have q3 : ¬ (c ≤ (x : Int)) := by omega
  clear hm hf e1 hxx hyy hys h1 hc
  go_enter Try.func14, Try.ntmps14
  go_wp2_with fail
  refine HT.out.mono ?_
  rintro e w1 ⟨rfl, hk⟩
  have HK : Hid (Keeps _ _ _) := hk
  have HW2 := HWr.out (w1.alloc (.cells #[.int .i64 (x : Int), .int .i64 (y : Int)] 42)) (HM.out.1.kept (hk.alloc _) (fun e => e) (fun e => e))
  have HW2 : Hid (Calls _ _ _ _ _) := HW2
  clear hk HT HWr
  go_wp2_with fail
  refine HW2.out.mono ?_
  rintro e w2 ⟨rfl, h3, h4⟩
  have H3 : Hid (Mm _ _ _ _) := h3
  have H4 : Hid (Keeps _ _ _) := h4
  clear h3 h4 HW2
  go_wp2
  go_ret2
  exact ⟨rfl, H3.out, ((HK.out.alloc _).mono (fun _ _ e => e.elim)).trans H4.out (fun _ _ e => e)⟩

set_option maxHeartbeats 400000 in
theorem open_in (b g : Nat) (xs : List UInt32) (p c : Int) (w : World) (hm : Mm w b g xs) (hf : BrOk xs p) (hc : c ≤ 4) (h1 : 1 ≤ c) (hx : ((cm xs p).toNat : Int) = c) :
    Calls Try.prog 15 #[.pointer (some ⟨b, 0, none⟩), .int .i64 p, .int .i64 c] w fun e w' => e = .returned (.int .i64 0) ∧ Mm w' b g (lay xs p.toNat [0, ep xs p + 1]) ∧ Keeps (· = g) w w' := by
  have HT : Hid (Calls _ _ _ _ _) := lookFor_good (.pointer (some ⟨b, 0, none⟩)) p c w _ _ (looks_in hm hf) h1 hc
  have e1 : ((ep xs p + 1).toNat : Int) = (((ep xs p).toNat : Int) + 1) % 4294967296 := by
    rw [UInt32.toNat_add]
    have : (1 : UInt32).toNat = 1 := rfl
    omega
  have HM : Hid (Mm w b g xs ∧ BrOk xs p) := ⟨hm, hf⟩
  have HWr : Hid (∀ W A, Mm W b g xs → Blk W A (wvs [0, ep xs p + 1]) 23 → Calls Try.prog 27 #[.pointer (some ⟨b, 0, none⟩), .int .i64 p, .slice (some ⟨A, 0, none⟩) 2 2] W fun e w' => e = .returned (.int .i64 0) ∧ Mm w' b g (lay xs p.toNat [0, ep xs p + 1]) ∧ Keeps (· = g) W w') := by
    intro W A hW hB
    have h2 := lay_in b g xs p.toNat (some ⟨A, 0, none⟩) 2 [0, ep xs p + 1] W hW (segW_of_blk hB) (by have := hf.1; have := hf.2; simp; omega)
    have e0 : ((p.toNat : Nat) : Int) = p := by have := hf.1; omega
    rw [e0] at h2
    exact h2
  have hlt := (ep xs p).toNat_lt
  have ew : wvs [0, ep xs p + 1] = [.int .u32 0, .int .u32 ((((ep xs p).toNat : Int) + 1) % 4294967296)] := by simp only [wvs, List.map, e1]; rfl
  rw [ew] at HWr
  obtain ⟨x, hxx⟩ : ∃ x : Nat, x = (cm xs p).toNat := ⟨_, rfl⟩
  obtain ⟨y, hyy⟩ : ∃ y : Nat, y = (ep xs p).toNat := ⟨_, rfl⟩
  obtain ⟨ys, hys⟩ : ∃ ys, ys = lay xs p.toNat [0, ep xs p + 1] := ⟨_, rfl⟩
  rw [← hxx] at HT hx
  rw [← hyy] at HT HWr hlt
  rw [← hys] at HWr ⊢
  obtain ⟨z, hz⟩ : ∃ z : Int, z = ((y : Int) + 1) % 4294967296 := ⟨_, rfl⟩
  have q1 : IntKind.i64.wrap ((y : Int) + 1) = (y : Int) + 1 := by rw [IntKind.wrap_i64]; omega
  have q2 : IntKind.u32.wrap ((y : Int) + 1) = z := by rw [IntKind.wrap_u32, hz]
  rw [← hz] at HWr
  have q3 : ¬ ((x : Int) < c) := by omega
  have q4 : ¬ (c < (x : Int)) := by omega
  clear hm hf e1 hxx hyy hys h1 hc hlt hz ew hx
  go_enter Try.func15, Try.ntmps15
  go_wp2_with fail
  refine HT.out.mono ?_
  rintro e w1 ⟨rfl, hk⟩
  have HK : Hid (Keeps _ _ _) := hk
  clear hk HT
  go_wp2_with fail
  have hB := Blk.new (w1.alloc (.cells #[.int .i64 (x : Int), .int .i64 (y : Int)] 42)) #[.int .u32 0, .int .u32 z] 23
  rw [show (w1.alloc (.cells #[.int .i64 (x : Int), .int .i64 (y : Int)] 42)).heap.size = w1.heap.size + 1 by simp] at hB
  refine (HWr.out _ _ (HM.out.1.kept ((HK.out.alloc _).alloc _) (fun e => e) (fun e => e)) hB).mono ?_
  rintro e w2 ⟨rfl, h3, h4⟩
  have H3 : Hid (Mm _ _ _ _) := h3
  have H4 : Hid (Keeps _ _ _) := h4
  clear h3 h4 HWr hB
  go_wp2
  go_ret
  exact ⟨rfl, H3.out, (((HK.out.alloc _).alloc _).mono (fun _ _ e => e.elim)).trans H4.out (fun _ _ e => e)⟩

end Go.Proofs.Ythepajjbflmchaa
