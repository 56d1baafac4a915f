import Derived.Test.YtfbapgcopidbpaaGreatVf
namespace Go.Proofs.YtfbapgcopidbpaaGreat
open Go.RowKit Go.Shelf
open Mq (SegW wvs wvs_length wvs_get run_make_words run_copy_wb segW_of_blk Mm)
set_option linter.unusedVariables false
set_option maxRecDepth 6000
set_option linter.unusedSimpArgs false

theorem frames_any (b g : Nat) (xs : List UInt32) (w : World) (h : Mm w b g xs) :
    Calls Tryz.prog 35 #[.pointer (some ⟨b, 0, none⟩)] w fun e w' => e = .returned (.int .i64 ((xs.length / 16 : Nat) : Int)) ∧ w' = w := by
  have c0 := h.blk.cell (i := 0) rfl
  have hs := h.small
  obtain ⟨L, hL⟩ : ∃ L, xs.length = L := ⟨_, rfl⟩
  rw [hL] at c0 hs ⊢
  clear hL h
  have hq : IntKind.i64.wrap ((L : Int).tdiv 16) = ((L / 16 : Nat) : Int) := by rw [IntKind.wrap_i64, Int.tdiv_eq_ediv_of_nonneg (by omega)]; omega
  go_enter Tryz.func35, Tryz.ntmps35
  go_wp2
  go_ret
  exact ⟨rfl, rfl⟩
theorem fits_nild (mv sv : Value) (w : World) : Calls Tryz.prog 17 #[.pointer none, mv, sv] w fun e w' => e = .returned (.int .i64 3) ∧ w' = w := by
  go_enter Tryz.func17, Tryz.ntmps17
  go_wp2
  go_ret
  exact ⟨rfl, rfl⟩
/-- Ints can be read at this address. -/
def SegI (w : World) (a : Option Addr) (ps : List Int) : Prop := SegA (fun n : Int => [Value.int .i64 n]) 1 w a ps
/-- Is a number a partition's? -/
def inP (x : Cfg) (p : Int) : Bool := decide (0 ≤ p) && decide (p < x.ps.length)

def FitP (x : Cfg) (ps : List Int) (w : World) (e : Ending) (w' : World) : Prop := e = .returned (.int .i64 (if ps.all (inP x) then 0 else 1)) ∧ Keeps (fun _ => False) w w'
set_option maxHeartbeats 1000000 in
theorem fits_same (x : Cfg) (d E : Nat) (mv : Value) (b g : Nat) (xs : List UInt32) (a : Option Addr) (c : Nat) (ps : List Int) (w : World) (hd : Blk w d [.int .i64 x.frames, .slice (some ⟨E, 0, none⟩) x.ps.length x.ps.length, mv] 71) (hm : Mm w b g xs) (hx : ((xs.length / 16 : Nat) : Int) = x.frames)
    (hs : SegI w a ps) (hc : ps.length ≤ c ∧ c ≤ maxLen) :
    Calls Tryz.prog 17 #[.pointer (some ⟨d, 0, none⟩), .pointer (some ⟨b, 0, none⟩), .slice a ps.length c] w (FitP x ps w) := by
  have d0 := hd.cell (i := 0) rfl
  have HC : Hid (Calls Tryz.prog 35 #[.pointer (some ⟨b, 0, none⟩)] w.drew fun e w' => e = .returned (.int .i64 x.frames) ∧ w' = w.drew) := by
    have := frames_any b g xs w.drew (hm.kept (Keeps.refl (fun _ => False) w).drew (fun h => h) fun h => h)
    rw [hx] at this
    exact this
  obtain ⟨FR, hFR⟩ : ∃ FR : Int, FR = x.frames := ⟨_, rfl⟩
  obtain ⟨P, hP⟩ : ∃ P, P = x.ps.length := ⟨_, rfl⟩
  obtain ⟨L, hL⟩ : ∃ L, ps.length = L := ⟨_, rfl⟩
  have HS : Hid (SegI w.drew a ps ∧ ps.length = L ∧ P = x.ps.length ∧ Blk w.drew d [.int .i64 x.frames, .slice (some ⟨E, 0, none⟩) P P, mv] 71) := ⟨hs, hL, hP, by rw [hP]; exact hd.drew⟩
  rw [← hFR] at HC d0
  rw [hL] at hc ⊢
  have hc1 : (L : Int) ≤ c := by omega
  have hc3 : (c : Int) ≤ 9223372036854775807 := by unfold maxLen at hc; omega
  clear hFR hm hd hx hs hP hL hc
  go_enter Tryz.func17, Tryz.ntmps17
  go_upto_region 3 with fail
  refine wp_region_held_drew (S := (fun w' => w'.cell? ⟨d, 0, none⟩ = some (.int .i64 FR))) Tryz.mixd d0 (fun hHeld => ?_)
  simp only [List.size_toArray, List.length_cons, List.length_nil, Nat.reduceAdd, Array.replicate_succ, Array.replicate_zero, List.push_toArray, List.nil_append, List.cons_append]
  refine wpAnyH_take (i := 0) (oi := { dst := some 15, op := Op.move (Operand.tmp 1), type := 23, pos := "device.go:84", after := #[], guard := none }) (v := .pointer (some ⟨b, 0, none⟩)) rfl (by kernel_rfl) (by kernel_rfl) (by kernel_rfl) (fun _ _ _ h => h) (Or.inl ⟨by kernel_rfl, by (intro w hSw; (try dsimp only at hSw); go_simp; try omega)⟩) hHeld ?_
  simp only [Act.put, List.setIfInBounds_toArray, List.set_cons_zero, List.set_cons_succ]
  refine wpAnyH_take (i := 2) (oi := { dst := some 17, op := Op.move (Operand.tmp 0), type := 22, pos := "device.go:84", after := #[], guard := none }) (v := .pointer (some ⟨d, 0, none⟩)) rfl (by kernel_rfl) (by kernel_rfl) (by kernel_rfl) (fun _ _ _ h => h) (Or.inl ⟨by kernel_rfl, by (intro w hSw; (try dsimp only at hSw); go_simp; try omega)⟩) hHeld ?_
  simp only [Act.put, List.setIfInBounds_toArray, List.set_cons_zero, List.set_cons_succ]
  refine wpAnyH_take (i := 3) (oi := { dst := some 18, op := Op.nilCheck (Operand.tmp 17), type := 0, pos := "device.go:84", after := #[{ on := 2, ground := Ground.data }], guard := none }) (v := .pointer (some ⟨d, 0, none⟩)) rfl (by kernel_rfl) (by kernel_rfl) (by kernel_rfl) (fun _ _ _ h => h) (Or.inl ⟨by kernel_rfl, by (intro w hSw; (try dsimp only at hSw); go_simp; try omega)⟩) hHeld ?_
  simp only [Act.put, List.setIfInBounds_toArray, List.set_cons_zero, List.set_cons_succ]
  refine wpAnyH_take (i := 4) (oi := { dst := some 19, op := Op.fieldAddr 71 (Operand.tmp 18) 0, type := 0, pos := "device.go:84", after := #[{ on := 3, ground := Ground.data }], guard := none }) (v := .pointer (some ⟨d, 0, none⟩)) rfl (by kernel_rfl) (by kernel_rfl) (by kernel_rfl) (fun _ _ _ h => h) (Or.inl ⟨by kernel_rfl, by (intro w hSw; (try dsimp only at hSw); go_simp; try omega)⟩) hHeld ?_
  simp only [Act.put, List.setIfInBounds_toArray, List.set_cons_zero, List.set_cons_succ]
  refine wpAnyH_take (i := 5) (oi := { dst := some 20, op := Op.load 3 (Operand.tmp 19), type := 3, pos := "device.go:84", after := #[{ on := 4, ground := Ground.data }], guard := none }) (v := .int .i64 FR) rfl (by kernel_rfl) (by kernel_rfl) (by kernel_rfl) (fun _ _ _ h => h) (Or.inl ⟨by kernel_rfl, by (intro w hSw; (try dsimp only at hSw); go_simp; try omega)⟩) hHeld ?_
  simp only [Act.put, List.setIfInBounds_toArray, List.set_cons_zero, List.set_cons_succ]
  refine wpAnyH_ready (rs := [1]) (by kernel_rfl) (by simp) ?_
  refine AllReadyH.cons (o := { dst := some 16, op := Op.call { callee := Callee.value (Operand.func 35), args := #[Operand.tmp 15], argTypes := #[23] }, type := 3, pos := "device.go:84", after := #[{ on := 0, ground := Ground.data }], guard := none }) rfl (fun Kq hK => ?_) AllReadyH.nil
  go_simp
  refine HC.out.mono ?_
  rintro e w1 ⟨rfl, rfl⟩
  refine hK _ _ d0 (fun hHeld => ?_)
  simp only [Act.put, List.setIfInBounds_toArray, List.set_cons_zero, List.set_cons_succ]
  refine wpAnyH_take (i := 6) (oi := { dst := some 21, op := Op.binOp BinOp.neq 3 (Operand.tmp 16) (Operand.tmp 20) 3, type := 4, pos := "device.go:84", after := #[{ on := 1, ground := Ground.data }, { on := 5, ground := Ground.data }], guard := none }) (v := .bool false) rfl (by kernel_rfl) (by kernel_rfl) (by kernel_rfl) (fun _ _ _ h => h) (Or.inl ⟨by kernel_rfl, by (intro w hSw; (try dsimp only at hSw); go_simp; try omega)⟩) hHeld ?_
  simp only [Act.put, List.setIfInBounds_toArray, List.set_cons_zero, List.set_cons_succ]
  refine wpAnyH_done (by kernel_rfl) ?_ _
  clear hHeld
  obtain ⟨W, hW⟩ : ∃ W, W = w.drew := ⟨_, rfl⟩
  have HW : Hid (Keeps (fun _ => False) w W) := by rw [hW]; exact (Keeps.refl _ _).drew
  rw [← hW]
  rw [← hW] at HS
  clear hW d0 HC hK Kq
  have d1 := HS.out.2.2.2.cell (i := 1) rfl
  go_wp2
  go_loopw [24] (fun i wr => ∃ j : Nat, j ≤ L ∧ i = .int .i64 j ∧ W = wr ∧ (ps.take j).all (inP x) = true) (fun i _ => L - (intOf i).toNat)
  case atStart => exact ⟨0, by omega, rfl, rfl, rfl⟩
  case round =>
    obtain ⟨j, hj, rfl, rfl, hno⟩ := hrel
    by_cases hlt : j < L
    · obtain ⟨p, hp⟩ : ∃ p, ps[j]? = some p := ⟨_, List.getElem?_eq_getElem (by have := HS.out.2.1; omega)⟩
      obtain ⟨g1, o1, rfl, hg1⟩ := SegA.at HS.out.1 hp
      have y0 := hg1 0 _ rfl
      rw [Nat.mul_one, Nat.add_zero] at y0
      have HK : Hid ((ps.take j).all (inP x) = true ∧ ps[j]? = some p) := ⟨hno, hp⟩
      clear hp hg1 hno
      by_cases h0 : 0 ≤ p
      · have n0 : ¬ p < 0 := by omega
        by_cases h1 : p < P
        · have n1 : ¬ (P : Int) ≤ p := by omega
          have HY : Hid (inP x p = true) := by
            have := HS.out.2.2.1
            show _ = _
            unfold inP
            rw [← this]
            simp [h0, h1]
          go_wp2
          go_roundw
          case rel => exact ⟨j + 1, by omega, by go_num, trivial, by rw [List.take_add_one, HK.out.2, List.all_append, HK.out.1]; simp [HY.out]⟩
          case measure => simp [intOf]; omega
        · have n1 : (P : Int) ≤ p := by omega
          have HY : Hid (ps.all (inP x) = false) := by
            refine List.all_eq_false.2 ⟨p, List.mem_of_getElem? HK.out.2, ?_⟩
            have := HS.out.2.2.1
            unfold inP
            rw [← this]
            simp [h0]
            omega
          clear h0 h1
          go_wp2
          go_ret
          exact ⟨by rw [HY.out]; rfl, HW.out⟩
      · have n0 : p < 0 := by omega
        have HY : Hid (ps.all (inP x) = false) := by
          refine List.all_eq_false.2 ⟨p, List.mem_of_getElem? HK.out.2, ?_⟩
          unfold inP
          simp [h0]
        go_wp2
        go_ret
        exact ⟨by rw [HY.out]; rfl, HW.out⟩
    · obtain rfl : j = L := by omega
      rw [List.take_of_length_le (by have := HS.out.2.1; omega)] at hno
      have HY : Hid (ps.all (inP x) = true) := hno
      clear hno
      go_wp2
      go_ret
      exact ⟨by rw [HY.out]; rfl, HW.out⟩
end Go.Proofs.YtfbapgcopidbpaaGreat
