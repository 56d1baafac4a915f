import Derived.Test.YtfcgpjojjehkiaaP
namespace Go.Proofs.Ytfcgpjojjehkiaa
open Go.RowKit
set_option linter.unusedVariables false
set_option linter.unusedSimpArgs false

set_option maxHeartbeats 400000 in
theorem fill_zero (b g : Nat) (xs : List UInt32) (p n : Nat) (w : World) (h : Mm w b g xs) (hf : p + n ≤ xs.length) :
    Calls Try.prog 56 #[.pointer (some ⟨b, 0, none⟩), .int .i64 p, .int .i64 n, .int .u32 0] w fun e w' => e = .returned (.int .i64 0) ∧ Mm w' b g (lay xs p (List.replicate n 0)) ∧ Keeps (· = g) w w' := by
  have HC : Hid (Calls _ _ _ _ _) := run_in b g xs p n w h hf
  have hfit := at0_fit hf
  have hM := h.laid (at0 xs.length p) (List.replicate n 0) (by rw [List.length_replicate]; exact hfit)
  rw [lay_at0 xs p _ (by rw [List.length_replicate]; exact hf), ← rep_wvs] at hM
  have hcl := fun ty => run_clear_wb (w := w) ty g (at0 xs.length p) n (xs.length - p) _ 34 h.row (by rw [wvs_length]; exact hfit)
  obtain ⟨W1, hW1⟩ : ∃ W1, W1 = w.setRow g (List.take (at0 xs.length p) (wvs xs) ++ List.replicate n (Value.int .u32 0) ++ List.drop (at0 xs.length p + n) (wvs xs)).toArray := ⟨_, rfl⟩
  have hK : Keeps (· = g) w W1 := by rw [hW1]; exact setRow_keeps w g _
  rw [← hW1] at hcl
  have hM : Mm W1 b g (lay xs p (List.replicate n 0)) := by rw [hW1]; exact hM
  have HM : Hid (Mm _ _ _ _) := hM
  have HK : Hid (Keeps _ _ _) := hK
  obtain ⟨L, hL⟩ : ∃ L, L = xs.length - p := ⟨_, rfl⟩
  obtain ⟨o, ho⟩ : ∃ o, o = at0 xs.length p := ⟨_, rfl⟩
  rw [← hL, ← ho] at HC hcl
  have HCL : Hid (∀ ty, _) := hcl
  clear hcl hM hK h hf hL ho hW1 hfit
  go_enter Try.func56, Try.ntmps56
  go_wp2_with fail
  refine HC.out.mono ?_
  rintro e w1 ⟨rfl, hw⟩
  obtain rfl := hw.symm
  clear hw HC
  go_wp2_with (refine isClear (.tmp 24) 22 rfl ?_; go_must (refine wpList_clear_run rfl (.tmp 24) 22 rfl (.slice (some ⟨g, o, none⟩) n L) (.tuple #[]) W1 rfl HCL.out ?_))
  go_ret
  exact ⟨rfl, HM.out, HK.out⟩


def ageX (xs : List UInt32) (ps : List Bx) : List UInt32 := ps.foldl (fun ys q => lay ys (q.p.toNat + 1) [0]) xs
def briX (xs : List UInt32) (n : Nat) (ms : List UInt32) (ps : List Bx) : List UInt32 := ps.foldl (fun ys q => lay ys q.p.toNat (fillW 3 n ms)) xs
theorem ageX_snoc {xs : List UInt32} {ps : List Bx} {j : Nat} {y : Bx} (h : ps[j]? = some y) : ageX xs (ps.take (j + 1)) = lay (ageX xs (ps.take j)) (y.p.toNat + 1) [0] := by
  unfold ageX
  rw [List.take_add_one, h, List.foldl_append]
  rfl
theorem briX_snoc {xs : List UInt32} {n : Nat} {ms : List UInt32} {ps : List Bx} {j : Nat} {y : Bx} (h : ps[j]? = some y) : briX xs n ms (ps.take (j + 1)) = lay (briX xs n ms (ps.take j)) y.p.toNat (fillW 3 n ms) := by
  unfold briX
  rw [List.take_add_one, h, List.foldl_append]
  rfl

set_option maxHeartbeats 1000000 in
theorem age_any (b g : Nat) (xs : List UInt32) (ga oa c : Nat) (ps : List Bx) (w : World) (hm : Mm w b g xs) (hs : SegB w (some ⟨ga, oa, none⟩) ps) (hne : ga ≠ g) (hN : ps.length ≤ 5) (hc : ps.length ≤ c ∧ c ≤ maxLen) (hp : ∀ y ∈ ps, 0 ≤ y.p ∧ y.p + 1 < xs.length) :
    Calls Try.prog 37 #[.pointer (some ⟨b, 0, none⟩), .slice (some ⟨ga, oa, none⟩) ps.length c] w fun e w' => e = .returned (.int .i64 0) ∧ Mm w' b g (ageX xs ps) ∧ Keeps (· = g) w w' := by
  obtain ⟨N, hNN⟩ : ∃ N, N = ps.length := ⟨_, rfl⟩
  have HP : Hid (Mm w b g xs ∧ SegB w (some ⟨ga, oa, none⟩) ps ∧ ga ≠ g ∧ N = ps.length ∧ ∀ y ∈ ps, 0 ≤ y.p ∧ y.p + 1 < xs.length) := ⟨hm, hs, hne, hNN, hp⟩
  rw [← hNN]
  have n1 : (N : Int) ≤ 5 := by omega
  have n2 : (N : Int) ≤ c := by omega
  have n4 : (c : Int) ≤ 9223372036854775807 := by have := hc.2; unfold maxLen at this; omega
  have HSm : Hid (xs.length ≤ 16384) := hm.small
  clear hm hs hne hNN hN hc hp
  go_enter Try.func37, Try.ntmps37
  go_wp2
  go_loopw [10] (fun i wr => ∃ j : Nat, j ≤ N ∧ i = .int .i64 j ∧ Mm wr b g (ageX xs (ps.take j)) ∧ (ageX xs (ps.take j)).length = xs.length ∧ Keeps (· = g) w wr) (fun i _ => N - (intOf i).toNat)
  case atStart => exact ⟨0, by omega, rfl, HP.out.1, rfl, Keeps.refl _ _⟩
  case round =>
    obtain ⟨j, hj, rfl, hM, hlen, hK⟩ := hrel
    by_cases hlt : j < N
    · have hlt' : (j : Int) < N := by omega
      obtain ⟨y, hy⟩ : ∃ y, ps[j]? = some y := ⟨_, List.getElem?_eq_getElem (by have := HP.out.2.2.2.1; omega)⟩
      obtain ⟨g', o', ha, hg⟩ := (HP.out.2.1.kept hK (fun x e => by cases e; exact HP.out.2.2.1)).at hy
      simp at ha
      obtain ⟨rfl, rfl⟩ := ha
      obtain ⟨y0, y1, y2⟩ := hg
      have hyp := HP.out.2.2.2.2 y (List.mem_of_getElem? hy)
      obtain ⟨W2, hW2, hK2, hB2⟩ := box_new wr y.p y.h y.n
      have HW := write_in b g (ageX xs (ps.take j)) (y.p.toNat + 1) 0 W2 (hM.kept hK2 (fun e => e) (fun e => e)) (by omega)
      rw [← ageX_snoc hy, show ((y.p.toNat + 1 : Nat) : Int) = y.p + 1 by omega, show ((0 : UInt32).toNat : Int) = 0 from rfl] at HW
      have HW : Hid (Calls _ _ _ _ _) := HW
      have hy1 : 0 ≤ y.p := hyp.1
      have hy2 : y.p ≤ 16384 := by have := HSm.out; omega
      have HX : Hid (W2 = _ ∧ Keeps (· = g) w W2 ∧ (ageX xs (ps.take (j + 1))).length = xs.length) := ⟨hW2, hK.trans (hK2.mono (T := (· = g)) fun _ _ e => e.elim) (fun _ _ e => e), by rw [ageX_snoc hy, lay_length _ _ _ (by simp; omega)]; exact hlen⟩
      obtain ⟨bp, bh, bn⟩ := y
      simp only at *
      clear hj hM hlen hK hy hyp hW2 hK2 hB2
      go_wp2_with fail
      rw [← HX.out.1]
      refine HW.out.mono ?_
      rintro e w1 ⟨rfl, hM1, hk1⟩
      have HY : Hid (Mm w1 b g (ageX xs (ps.take (j + 1))) ∧ Keeps (· = g) w w1) := ⟨hM1, HX.out.2.1.trans hk1 fun _ _ e => e⟩
      clear hM1 hk1 HW y0 y1 y2
      go_wp2
      go_roundw
      case rel => exact ⟨j + 1, by omega, by go_num, HY.out.1, HX.out.2.2, HY.out.2⟩
      case measure => simp [intOf]; omega
    · obtain rfl : j = N := by omega
      have HF : Hid (Mm wr b g (ageX xs ps) ∧ Keeps (· = g) w wr) := by
        rw [List.take_of_length_le (by have := HP.out.2.2.2.1; omega)] at hM
        exact ⟨hM, hK⟩
      clear hM hlen hK
      go_wp2
      go_ret
      exact ⟨rfl, HF.out⟩

end Go.Proofs.Ytfcgpjojjehkiaa
