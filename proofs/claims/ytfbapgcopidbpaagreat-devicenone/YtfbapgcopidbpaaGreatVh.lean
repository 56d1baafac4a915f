import Derived.Test.YtfbapgcopidbpaaGreatVg
namespace Go.Proofs.YtfbapgcopidbpaaGreat
open Go.RowKit Go.Shelf
open Mq (SegW wvs wvs_length wvs_get run_make_words run_copy_wb segW_of_blk Mm lay)
set_option linter.unusedVariables false
set_option maxRecDepth 6000
set_option linter.unusedSimpArgs false

/-- The word at a place. -/
def wAt (xs : List UInt32) (p : Nat) : Nat := (xs.getD p 0).toNat
theorem wAt_eq (xs : List UInt32) (p : Nat) (h : p < xs.length) : xs[p].toNat = wAt xs p := by unfold wAt; rw [List.getD_eq_getElem?_getD, List.getElem?_eq_getElem h]; rfl
/-- The words behind one that was heard. -/
def hrX (xs : List UInt32) (p : Nat) (most : Int) : List UInt32 := if most ≤ wAt xs p then xs else lay xs p [UInt32.ofNat (wAt xs p + 1)]
def hrT (xs : List UInt32) (p : Nat) (most : Int) : Int := if most ≤ wAt xs p then 5 else 0
def HrP (b g : Nat) (xs : List UInt32) (p : Nat) (most : Int) (w : World) (e : Ending) (w' : World) : Prop :=
  e = .returned (.tuple #[.int .i64 (hrT xs p most), .int .i64 0]) ∧ Mm w' b g (hrX xs p most) ∧ Keeps (· = g) w w'
theorem hear_any (b g : Nat) (xs : List UInt32) (p : Nat) (most : Int) (w : World) (h : Mm w b g xs) (hp : p < xs.length) (h0 : 0 ≤ most) (h1 : most ≤ 1000000) :
    Calls Tryz.prog 18 #[.agg #[.int .i64 p, .int .u32 most], .pointer (some ⟨b, 0, none⟩)] w (HrP b g xs p most w) := by
  obtain ⟨W, hW⟩ : ∃ W, W = w.alloc (.cells #[.int .i64 (p : Int), .int .u32 most] 76) := ⟨_, rfl⟩
  obtain ⟨B, hB⟩ : ∃ B, B = w.heap.size := ⟨_, rfl⟩
  have hK : Keeps (fun _ => False) w W := by rw [hW]; exact (Keeps.refl _ _).alloc _
  have hm := h.kept hK (fun h => h) fun h => h
  have hb : Blk W B [.int .i64 (p : Int), .int .u32 most] 76 := by rw [hW, hB]; exact Blk.new _ _ _
  have c0 := hb.cell (i := 0) rfl
  have c1 := hb.cell (i := 1) rfl
  have hr := Mq.read_in b g xs p W hm hp
  rw [wAt_eq xs p hp] at hr
  obtain ⟨V, hV⟩ : ∃ V, wAt xs p = V := ⟨_, rfl⟩
  rw [hV] at hr
  have HC : Hid (Calls Tryz.prog 36 #[.pointer (some ⟨b, 0, none⟩), .int .i64 (p : Int)] W fun e w' => e = .returned (.tuple #[.int .u32 (V : Int), .int .i64 0]) ∧ w' = W) := hr
  have HW : Hid (Mm W b g xs ∧ Keeps (fun _ => False) w W ∧ wAt xs p = V) := ⟨hm, hK, hV⟩
  by_cases hc : most ≤ V
  · have HA : Hid (hrX xs p most = xs ∧ hrT xs p most = 5) := ⟨by unfold hrX; rw [hV, if_pos hc], by unfold hrT; rw [hV, if_pos hc]⟩
    clear h hK hm hb hr hV
    go_enter Tryz.func18, Tryz.ntmps18
    go_upto_region 1 with fail
    rw [← hW, ← hB]
    clear hW hB
    go_wp2_with fail
    refine HC.out.mono ?_
    rintro e w1 ⟨rfl, rfl⟩
    go_wp2
    go_ret2
    exact ⟨by rw [HA.out.2]; rfl, by rw [HA.out.1]; exact HW.out.1, HW.out.2.1.mono fun _ _ h => h.elim⟩
  · have hV1 : (V : Int) < most := by omega
    have hu : (V + 1 : Int) % 4294967296 = V + 1 := by omega
    have hw := Mq.write_in b g xs p (UInt32.ofNat (V + 1)) W hm hp
    have hn : ((UInt32.ofNat (V + 1)).toNat : Int) = V + 1 := by rw [UInt32.toNat_ofNat']; omega
    rw [hn] at hw
    have HX : Hid (Calls Tryz.prog 22 #[.pointer (some ⟨b, 0, none⟩), .int .i64 (p : Int), .int .u32 ((V : Int) + 1)] W fun e w' => e = .returned (.int .i64 0) ∧ Mm w' b g (lay xs p [UInt32.ofNat (V + 1)]) ∧ Keeps (· = g) W w') := hw
    have HA : Hid (hrX xs p most = lay xs p [UInt32.ofNat (V + 1)] ∧ hrT xs p most = 0) := ⟨by unfold hrX; rw [hV, if_neg hc], by unfold hrT; rw [hV, if_neg hc]⟩
    clear h hK hm hb hr hV hw hn hc
    go_enter Tryz.func18, Tryz.ntmps18
    go_upto_region 1 with fail
    rw [← hW, ← hB]
    clear hW hB
    go_wp2_with fail
    refine HC.out.mono ?_
    rintro e w1 ⟨rfl, rfl⟩
    go_wp2_with fail
    refine HX.out.mono ?_
    rintro e w2 ⟨rfl, hm2, hK2⟩
    have H2 : Hid (Mm w2 b g (lay xs p [UInt32.ofNat (V + 1)]) ∧ Keeps (· = g) w1 w2) := ⟨hm2, hK2⟩
    clear hm2 hK2
    go_wp2
    go_ret2
    exact ⟨by rw [HA.out.2]; rfl, by rw [HA.out.1]; exact H2.out.1, (HW.out.2.1.mono fun _ _ h => h.elim).trans H2.out.2 fun _ _ h => h⟩
end Go.Proofs.YtfbapgcopidbpaaGreat
