import Derived.Test.YtfbapgcopidbpaaGreatVi
namespace Go.Proofs.YtfbapgcopidbpaaGreat
open Go.RowKit Go.Shelf
open Mq (SegW wvs wvs_length wvs_get run_make_words run_copy_wb segW_of_blk Mm lay)
set_option linter.unusedVariables false
set_option maxRecDepth 6000
set_option linter.unusedSimpArgs false

/-- The words behind a Begin. -/
def begX (x : Cfg) (ps : List Int) (xs : List UInt32) : List UInt32 := ps.foldl (fun xs p => lay xs (atN x p.toNat) [0]) xs
def BegP (x : Cfg) (b g : Nat) (xs : List UInt32) (ps : List Int) (w : World) (e : Ending) (w' : World) : Prop :=
  Keeps (· = g) w w' ∧ ((ps.all (inP x) = true ∧ e = .returned (.int .i64 0) ∧ Mm w' b g (begX x ps xs)) ∨ (ps.all (inP x) = false ∧ e = .returned (.int .i64 1) ∧ Mm w' b g xs))
theorem lay_len1 (xs : List UInt32) (p : Nat) (y : UInt32) (h : p < xs.length) : (lay xs p [y]).length = xs.length := Mq.lay_length xs p [y] (by simp; omega)
theorem begX_len {x : Cfg} (hg : Gd x) {xs : List UInt32} (hx : (xs.length : Int) = 16 * x.frames) : ∀ {ps : List Int}, ps.all (inP x) = true → (begX x ps xs).length = xs.length := by
  intro ps
  induction ps generalizing xs with
  | nil => intro _; rfl
  | cons p ps ih =>
    intro h
    rw [List.all_cons, Bool.and_eq_true] at h
    obtain ⟨h1, h2⟩ := h
    unfold inP at h1
    simp only [Bool.and_eq_true, decide_eq_true_eq] at h1
    have h3 := hg.atN (i := p.toNat) (by omega)
    have h4 := lay_len1 xs (atN x p.toNat) 0 (by omega)
    show (begX x ps (lay xs (atN x p.toNat) [0])).length = _
    rw [ih (by rw [h4]; exact hx) h2, h4]
theorem begX_snoc (x : Cfg) (ps : List Int) (p : Int) (xs : List UInt32) : begX x (ps ++ [p]) xs = lay (begX x ps xs) (atN x p.toNat) [0] := by
  unfold begX
  rw [List.foldl_append]
  rfl
set_option maxHeartbeats 1000000 in
theorem begins_any (x : Cfg) (d E : Nat) (mv : Value) (l : List Value) (b g : Nat) (xs : List UInt32) (a : Option Addr) (c : Nat) (ps : List Int) (w : World) (hd : Blk w d [.int .i64 x.frames, .slice (some ⟨E, 0, none⟩) x.ps.length x.ps.length, mv] 71) (he : Blk w E l 76) (hl : Ears x (stA x) x.ps.length l)
    (hg : Gd x) (hm : Mm w b g xs) (hx : (xs.length : Int) = 16 * x.frames) (hne : d ≠ g ∧ E ≠ g) (hs : SegI w a ps) (hsg : ps ≠ [] → ∀ y, a = some y → y.block ≠ g) (hc : ps.length ≤ c ∧ c ≤ maxLen) :
    Calls Tryz.prog 11 #[.pointer (some ⟨d, 0, none⟩), .pointer (some ⟨b, 0, none⟩), .slice a ps.length c] w (BegP x b g xs ps w) := by
  have hfr := hg.frames
  have HC : Hid (Calls Tryz.prog 17 #[.pointer (some ⟨d, 0, none⟩), .pointer (some ⟨b, 0, none⟩), .slice a ps.length c] w (FitP x ps w)) := fits_same x d E mv b g xs a c ps w hd hm (by omega) hs hc
  obtain ⟨L, hL⟩ : ∃ L, ps.length = L := ⟨_, rfl⟩
  obtain ⟨PL, hPL⟩ : ∃ PL, x.ps.length = PL := ⟨_, rfl⟩
  have HW : Hid (Mm w b g xs ∧ Blk w d [.int .i64 x.frames, .slice (some ⟨E, 0, none⟩) PL PL, mv] 71 ∧ Blk w E l 76 ∧ Ears x (stA x) x.ps.length l ∧ Gd x ∧ (xs.length : Int) = 16 * x.frames ∧ (d ≠ g ∧ E ≠ g) ∧ SegI w a ps ∧ (ps ≠ [] → ∀ y, a = some y → y.block ≠ g) ∧ ps.length = L ∧ x.ps.length = PL) := ⟨hm, by rw [← hPL]; exact hd, he, hl, hg, hx, hne, hs, hsg, hL, hPL⟩
  rw [hL] at hc HC ⊢
  have hc1 : (L : Int) ≤ c := by omega
  have hc3 : (c : Int) ≤ 9223372036854775807 := by unfold maxLen at hc; omega
  clear hd he hl hg hm hx hne hs hsg hL hPL hfr hc
  go_enter Tryz.func11, Tryz.ntmps11
  go_wp2_with fail
  refine HC.out.mono ?_
  rintro e w1 ⟨rfl, hK1⟩
  have HK1 : Hid (Keeps (fun _ => False) w w1) := hK1
  clear hK1 HC
  cases hi : ps.all (inP x) with
  | false =>
    have HI : Hid (ps.all (inP x) = false) := hi
    clear hi
    rw [if_neg (by decide)]
    go_wp2
    go_ret
    exact ⟨HK1.out.mono fun _ _ h => h.elim, .inr ⟨HI.out, rfl, HW.out.1.kept HK1.out (fun h => h) fun h => h⟩⟩
  | true =>
    have HI : Hid (ps.all (inP x) = true) := hi
    rw [if_pos rfl]
    clear hi
    go_wp2
    go_loopw [20] (fun i wr => ∃ j : Nat, j ≤ L ∧ i = .int .i64 j ∧ Mm wr b g (begX x (ps.take j) xs) ∧ Keeps (· = g) w wr) (fun i _ => L - (intOf i).toNat)
    case atStart => exact ⟨0, by omega, rfl, HW.out.1.kept HK1.out (fun h => h) fun h => h, HK1.out.mono fun _ _ h => h.elim⟩
    case round =>
      obtain ⟨j, hj, rfl, hM, hK⟩ := hrel
      by_cases hlt : j < L
      · obtain ⟨p, hp⟩ : ∃ p, ps[j]? = some p := ⟨_, List.getElem?_eq_getElem (by have := HW.out.2.2.2.2.2.2.2.2.2.1; omega)⟩
        have hpi : inP x p = true := List.all_eq_true.1 HI.out p (List.mem_of_getElem? hp)
        unfold inP at hpi
        simp only [Bool.and_eq_true, decide_eq_true_eq] at hpi
        obtain ⟨i, rfl⟩ : ∃ i : Nat, p = i := ⟨p.toNat, by omega⟩
        have hi2 : i < x.ps.length := by omega
        obtain ⟨g1, o1, rfl, hg1⟩ := SegA.at (SegA.kept HW.out.2.2.2.2.2.2.2.1 hK HW.out.2.2.2.2.2.2.2.2.1) hp
        have y0 := hg1 0 _ rfl
        rw [Nat.mul_one, Nat.add_zero] at y0
        have hdw := HW.out.2.1.kept hK HW.out.2.2.2.2.2.2.1.1
        have hew := HW.out.2.2.1.kept hK HW.out.2.2.2.2.2.2.1.2
        have hea := HW.out.2.2.2.1.at HW.out.2.2.2.2.1 hi2
        have hat := HW.out.2.2.2.2.1.atN hi2
        have d1 := hdw.cell (i := 1) rfl
        have e0 := hew.cell hea.1
        have hxl := HW.out.2.2.2.2.2.1
        have hal : (ps.take j).all (inP x) = true := List.all_eq_true.2 fun q hq => List.all_eq_true.1 HI.out q (List.mem_of_mem_take hq)
        have hbl := begX_len HW.out.2.2.2.2.1 hxl hal
        have HC : Hid (Calls Tryz.prog 22 #[.pointer (some ⟨b, 0, none⟩), .int .i64 (atN x i : Int), .int .u32 0] wr fun e w' => e = .returned (.int .i64 0) ∧ Mm w' b g (lay (begX x (ps.take j) xs) (atN x i) [0]) ∧ Keeps (· = g) wr w') := by
          have := Mq.write_in b g (begX x (ps.take j) xs) (atN x i) 0 wr hM (by omega)
          exact this
        have hi3 : (i : Int) < PL := by have := HW.out.2.2.2.2.2.2.2.2.2.2; omega
        obtain ⟨A, hA⟩ : ∃ A, atN x i = A := ⟨_, rfl⟩
        rw [hA] at HC e0
        have HA : Hid (atN x i = A ∧ ps[j]? = some (i : Int) ∧ Keeps (· = g) w wr) := ⟨hA, hp, hK⟩
        clear hp hpi hi2 hg1 hdw hew hea hat hxl hal hbl hA hM hK
        go_wp2_with fail
        refine HC.out.mono ?_
        rintro e w2 ⟨rfl, hm2, hK2⟩
        have H2 : Hid (Mm w2 b g (lay (begX x (ps.take j) xs) A [0]) ∧ Keeps (· = g) wr w2) := ⟨hm2, hK2⟩
        clear hm2 hK2 HC y0 d1 e0
        go_wp2
        go_roundw
        case rel =>
          refine ⟨j + 1, by omega, by go_num, ?_, HA.out.2.2.trans H2.out.2 fun _ _ h => h⟩
          rw [List.take_add_one, HA.out.2.1]
          show Mm _ b g (begX x (List.take j ps ++ [(i : Int)]) xs)
          rw [begX_snoc, Int.toNat_natCast, HA.out.1]
          exact H2.out.1
        case measure => simp [intOf]; omega
      · obtain rfl : j = L := by omega
        rw [List.take_of_length_le (by have := HW.out.2.2.2.2.2.2.2.2.2.1; omega)] at hM
        have H2 : Hid (Mm wr b g (begX x ps xs) ∧ Keeps (· = g) w wr) := ⟨hM, hK⟩
        clear hM hK
        go_wp2
        go_ret
        exact ⟨H2.out.2, .inl ⟨HI.out, rfl, H2.out.1⟩⟩
end Go.Proofs.YtfbapgcopidbpaaGreat
