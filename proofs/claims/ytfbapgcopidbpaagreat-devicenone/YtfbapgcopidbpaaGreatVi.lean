import Derived.Test.YtfbapgcopidbpaaGreatVh
namespace Go.Proofs.YtfbapgcopidbpaaGreat
open Go.RowKit Go.Shelf
open Mq (SegW wvs wvs_length wvs_get run_make_words run_copy_wb segW_of_blk Mm lay)
set_option linter.unusedVariables false
set_option maxRecDepth 6000
set_option linter.unusedSimpArgs false

/-- The word that counts what a partition has told. -/
def atN (x : Cfg) (i : Nat) : Nat := (stA x i + 4).toNat
theorem Gd.atN {x : Cfg} (g : Gd x) {i : Nat} (hi : i < x.ps.length) : ((atN x i : Nat) : Int) = stA x i + 4 ∧ (atN x i : Int) < 16 * x.frames := by
  have := g.at hi
  unfold Go.Proofs.YtfbapgcopidbpaaGreat.atN
  omega
def outs (x : Cfg) (i : Nat) : Int := match x.ps[i]? with | some P => P.outputs | none => 0
theorem Gd.outs {x : Cfg} (g : Gd x) (i : Nat) : 0 ≤ outs x i ∧ outs x i ≤ 16 := by
  unfold Go.Proofs.YtfbapgcopidbpaaGreat.outs
  cases h : x.ps[i]? with
  | none => simp
  | some P =>
    have := (g.gp i P h).dev.2
    rw [inR_iff] at this
    exact this
theorem Ears.at {x : Cfg} {l : List Value} (h : Ears x (stA x) x.ps.length l) (g : Gd x) {i : Nat} (hi : i < x.ps.length) : l[i * 2]? = some (.int .i64 (atN x i : Int)) ∧ l[i * 2 + 1]? = some (.int .u32 (outs x i)) := by
  obtain ⟨P, hP⟩ : ∃ P, x.ps[i]? = some P := ⟨_, List.getElem?_eq_getElem hi⟩
  have h1 := h.each i P hi hP
  rw [← (g.atN hi).1] at h1
  have : outs x i = P.outputs := by unfold outs; rw [hP]
  rw [this]
  exact h1
/-- What Output answers. -/
def OutP (x : Cfg) (b g : Nat) (xs : List UInt32) (p : Int) (w : World) (e : Ending) (w' : World) : Prop :=
  Keeps (· = g) w w' ∧ ((inP x p = true ∧ e = .returned (.tuple #[.int .i64 (hrT xs (atN x p.toNat) (outs x p.toNat)), .int .i64 0]) ∧ Mm w' b g (hrX xs (atN x p.toNat) (outs x p.toNat))) ∨
    (inP x p = false ∧ e = .returned (.tuple #[.int .i64 0, .int .i64 1]) ∧ Mm w' b g xs))
set_option maxHeartbeats 1000000 in
theorem output_any (x : Cfg) (d E : Nat) (mv : Value) (l : List Value) (b g : Nat) (xs : List UInt32) (p : Int) (w : World) (hd : Blk w d [.int .i64 x.frames, .slice (some ⟨E, 0, none⟩) x.ps.length x.ps.length, mv] 71) (he : Blk w E l 76) (hl : Ears x (stA x) x.ps.length l)
    (hg : Gd x) (hm : Mm w b g xs) (hx : (xs.length : Int) = 16 * x.frames) (hne : d ≠ g ∧ E ≠ g) :
    Calls Tryz.prog 8 #[.pointer (some ⟨d, 0, none⟩), .pointer (some ⟨b, 0, none⟩), .int .i64 p] w (OutP x b g xs p w) := by
  obtain ⟨W, hW⟩ : ∃ W, W = w.alloc (.cells #[.int .i64 p] 3) := ⟨_, rfl⟩
  obtain ⟨B, hB⟩ : ∃ B, B = w.heap.size := ⟨_, rfl⟩
  have hK : Keeps (fun _ => False) w W := by rw [hW]; exact (Keeps.refl _ _).alloc _
  have hb : Blk W B [.int .i64 p] 3 := by rw [hW, hB]; exact Blk.new _ _ _
  have hfr := hg.frames
  have hs : SegI W (some ⟨B, 0, none⟩) [p] := by
    refine .inr ⟨B, 0, rfl, fun j q hj i v hv => ?_⟩
    cases j with
    | zero =>
      simp at hj
      subst hj
      cases i with
      | zero => simp at hv; subst hv; exact hb.cell rfl
      | succ i => simp at hv
    | succ j => simp at hj
  have HC : Hid (Calls Tryz.prog 17 #[.pointer (some ⟨d, 0, none⟩), .pointer (some ⟨b, 0, none⟩), .slice (some ⟨B, 0, none⟩) 1 1] W (FitP x [p] W)) :=
    fits_same x d E mv b g xs (some ⟨B, 0, none⟩) 1 [p] W (hd.kept hK fun h => h) (hm.kept hK (fun h => h) fun h => h) (by omega) hs (by unfold maxLen; simp)
  have HW : Hid (Keeps (fun _ => False) w W ∧ Mm w b g xs ∧ Blk w d [.int .i64 x.frames, .slice (some ⟨E, 0, none⟩) x.ps.length x.ps.length, mv] 71 ∧ Blk w E l 76 ∧ Ears x (stA x) x.ps.length l ∧ Gd x ∧ (xs.length : Int) = 16 * x.frames ∧ d ≠ g ∧ E ≠ g) := ⟨hK, hm, hd, he, hl, hg, hx, hne⟩
  clear hK hb hfr hs hd he hl hg hm hx hne
  go_enter Tryz.func8, Tryz.ntmps8
  go_wp2_with fail
  rw [← hW, ← hB]
  clear hW hB
  refine HC.out.mono ?_
  rintro e w1 ⟨rfl, hK1⟩
  have hA : ([p].all (inP x)) = inP x p := by simp
  rw [hA]
  clear hA HC
  have HK1 : Hid (Keeps (fun _ => False) w w1) := HW.out.1.trans hK1 fun _ _ h => h
  clear hK1
  cases hi : inP x p with
  | false =>
    have HI : Hid (inP x p = false) := hi
    clear hi
    rw [if_neg (by decide)]
    go_wp2
    go_ret2
    exact ⟨HK1.out.mono fun _ _ h => h.elim, .inr ⟨HI.out, rfl, HW.out.2.1.kept HK1.out (fun h => h) fun h => h⟩⟩
  | true =>
    have HI : Hid (inP x p = true) := hi
    rw [if_pos rfl]
    unfold inP at hi
    simp only [Bool.and_eq_true, decide_eq_true_eq] at hi
    obtain ⟨i, rfl⟩ : ∃ i : Nat, p = i := ⟨p.toNat, by omega⟩
    have hi2 : i < x.ps.length := by omega
    have hdw := HW.out.2.2.1.kept HK1.out fun h => h
    have hew := HW.out.2.2.2.1.kept HK1.out fun h => h
    have hea := HW.out.2.2.2.2.1.at HW.out.2.2.2.2.2.1 hi2
    have hat := HW.out.2.2.2.2.2.1.atN hi2
    have hou := HW.out.2.2.2.2.2.1.outs i
    have d1 := hdw.cell (i := 1) rfl
    have e0 := hew.cell hea.1
    have e1 := hew.cell hea.2
    have hxl := HW.out.2.2.2.2.2.2.1
    have HC : Hid (Calls Tryz.prog 18 #[.agg #[.int .i64 (atN x i : Int), .int .u32 (outs x i)], .pointer (some ⟨b, 0, none⟩)] w1 (HrP b g xs (atN x i) (outs x i) w1)) := hear_any b g xs (atN x i) (outs x i) w1 (HW.out.2.1.kept HK1.out (fun h => h) fun h => h) (by omega) hou.1 (by omega)
    obtain ⟨L, hL⟩ : ∃ L, x.ps.length = L := ⟨_, rfl⟩
    rw [hL] at d1 hi2
    have hi3 : (i : Int) < L := by omega
    obtain ⟨A, hA⟩ : ∃ A, atN x i = A := ⟨_, rfl⟩
    obtain ⟨O, hO⟩ : ∃ O, outs x i = O := ⟨_, rfl⟩
    rw [hA, hO] at HC
    rw [hA] at e0
    rw [hO] at e1
    have HA : Hid (atN x i = A ∧ outs x i = O) := ⟨hA, hO⟩
    clear hi hdw hew hea hat hou hxl hL hA hO
    go_wp2_with fail
    refine HC.out.mono ?_
    rintro e w2 ⟨rfl, hm2, hK2⟩
    have H2 : Hid (Mm w2 b g (hrX xs A O) ∧ Keeps (· = g) w1 w2) := ⟨hm2, hK2⟩
    clear hm2 hK2 HC e0 e1 d1
    obtain ⟨Tt, hT⟩ : ∃ T, T = hrT xs A O := ⟨_, rfl⟩
    rw [← hT]
    have HT : Hid (Tt = hrT xs A O) := hT
    clear hT
    go_wp2
    go_ret2
    refine ⟨(HK1.out.mono fun _ _ h => h.elim).trans H2.out.2 fun _ _ h => h, .inl ⟨HI.out, ?_, ?_⟩⟩
    · rw [Int.toNat_natCast, HA.out.1, HA.out.2, ← HT.out]; rfl
    · rw [Int.toNat_natCast, HA.out.1, HA.out.2]; exact H2.out.1
end Go.Proofs.YtfbapgcopidbpaaGreat
