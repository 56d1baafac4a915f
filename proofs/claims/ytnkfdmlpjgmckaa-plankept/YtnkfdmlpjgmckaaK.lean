import Derived.Test.YtnkfdmlpjgmckaaJ
namespace Go.Proofs.Ytnkfdmlpjgmckaa
open Go.RowKit
set_option linter.unusedVariables false
set_option maxRecDepth 6000

def mxC (n : Nat) (cs : List Core) : Nat → Int
  | 0 => 0
  | j + 1 => match cs[j]? with
    | some X => max (mxC n cs j) (rdC n X.ws X.ws.length)
    | none => mxC n cs j
theorem mxC_succ {n : Nat} {cs : List Core} {j : Nat} {X : Core} (hX : cs[j]? = some X) : mxC n cs (j + 1) = max (mxC n cs j) (rdC n X.ws X.ws.length) := by
  simp only [mxC, hX]
theorem mxC_bound {n : Nat} {cs : List Core} (hn : n ≤ 4) (h : allMay cs = true) (j : Nat) : 0 ≤ mxC n cs j ∧ mxC n cs j ≤ 640000 := by
  induction j with
  | zero => simp [mxC]
  | succ j ih =>
    cases hX : cs[j]? with
    | none => simp only [mxC, hX]; exact ih
    | some X =>
      rw [mxC_succ hX]
      unfold allMay at h
      rw [List.all_eq_true] at h
      have hm := may_iff.1 (h X (List.mem_of_getElem? hX))
      have := rdC_bound hn hm.2.2 X.ws.length
      omega
def rounds (cs : List Core) : Int := if cs.length = 0 ∨ 4 < cs.length ∨ allMay cs = false then 0 else 4 + mxC cs.length cs cs.length

set_option maxHeartbeats 1000000 in
theorem rounds_any (x : Cfg) (w : World) (N : Nat) (hi : x.In w N) (hN : N ≤ w.heap.size) :
    Calls Try.prog 31 #[x.v] w fun e w' => e = .returned (.int .i64 (rounds x.cs)) ∧ Keeps (fun _ => False) w w' := by
  obtain ⟨f, mj, kn, rm, ca, cc, cs, pa, pc, ps, ha, hc, hs⟩ := x
  have HO := One.mk' hi hN
  obtain ⟨W, hW⟩ : ∃ W, W = Cfg.laid w ⟨f, mj, kn, rm, ca, cc, cs, pa, pc, ps, ha, hc, hs⟩ := ⟨_, rfl⟩
  obtain ⟨C, hC⟩ : ∃ C, C = w.heap.size := ⟨_, rfl⟩
  rw [← hW, ← hC] at HO
  have HO : Hid (One w ⟨f, mj, kn, rm, ca, cc, cs, pa, pc, ps, ha, hc, hs⟩ C N W) := HO
  have HC := allMayBe_any ⟨f, mj, kn, rm, ca, cc, cs, pa, pc, ps, ha, hc, hs⟩ W N HO.out.cin HO.out.nn
  obtain ⟨L, hL⟩ : ∃ L, cs.length = L := ⟨_, rfl⟩
  have HL : Hid (cs.length = L) := hL
  have hcc : (L : Int) ≤ cc ∧ (cc : Int) ≤ 9223372036854775807 := by have := hi.clen; unfold maxLen at this; dsimp only at this; omega
  obtain ⟨R, hR⟩ : ∃ R, rounds cs = R := ⟨_, rfl⟩
  have HR : Hid (rounds cs = R) := hR
  simp only [hR] 
  simp only [Cfg.v, Cfg.laid, hL] at hW HC ⊢
  obtain ⟨P, hP⟩ : ∃ P, ps.length = P := ⟨_, rfl⟩
  obtain ⟨H, hH⟩ : ∃ P, hs.length = P := ⟨_, rfl⟩
  have HPH : Hid (ps.length = P ∧ hs.length = H) := ⟨hP, hH⟩
  have c0 : W.cell? ⟨C, 0, none⟩ = some (.int .i64 f) := HO.out.cfg.cell (i := 0) rfl
  have c1 : W.cell? ⟨C, 1, none⟩ = some (.int .i64 mj) := HO.out.cfg.cell (i := 1) rfl
  have c2 : W.cell? ⟨C, 2, none⟩ = some (.int .i64 kn) := HO.out.cfg.cell (i := 2) rfl
  have c3 : W.cell? ⟨C, 3, none⟩ = some (.int .i64 rm) := HO.out.cfg.cell (i := 3) rfl
  have c4 : W.cell? ⟨C, 4, none⟩ = some (.slice ca L cc) := by have := HO.out.cfg.cell (i := 4) rfl; rw [← hL]; exact this
  have c5 : W.cell? ⟨C, 5, none⟩ = some (.slice pa P pc) := by have := HO.out.cfg.cell (i := 5) rfl; rw [← hP]; exact this
  have c6 : W.cell? ⟨C, 6, none⟩ = some (.slice ha H hc) := by have := HO.out.cfg.cell (i := 6) rfl; rw [← hH]; exact this
  rw [hP, hH] at hW HC ⊢
  have HC : Hid (Calls _ _ _ _ _) := HC
  clear hi hN hL hP hH hR
  go_enter Try.func31, Try.ntmps31
  go_upto_region 1 with fail
  rw [← hW, ← hC]
  clear hW hC
  by_cases h0 : L = 0
  · subst h0
    have e0 : R = 0 := by rw [← HR.out]; unfold rounds; rw [if_pos (.inl HL.out)]
    go_wp2
    go_ret
    rw [e0]
    exact ⟨rfl, HO.out.keeps⟩
  have h0' : ((L : Int) == 0) = false := by simp; omega
  by_cases h4 : 4 < L
  · have h4' : decide (4 < (L : Int)) = true := by simp; omega
    have e0 : R = 0 := by rw [← HR.out]; unfold rounds; rw [if_pos (.inr (.inl (by rw [HL.out]; exact h4)))]
    go_wp2
    go_ret
    rw [e0]
    exact ⟨rfl, HO.out.keeps⟩
  have h4' : decide (4 < (L : Int)) = false := by simp; omega
  go_wp2_with fail
  refine HC.out.mono ?_
  rintro e w1 ⟨rfl, hK⟩
  have HO1 : Hid (One w ⟨f, mj, kn, rm, ca, cc, cs, pa, pc, ps, ha, hc, hs⟩ C N w1) := HO.out.kept hK
  clear hK HC HO c0 c1 c2 c3 c4 c5 c6
  obtain ⟨b, hb⟩ : ∃ b, allMay cs = b := ⟨_, rfl⟩
  rw [hb]
  have HB : Hid (allMay cs = b) := hb
  clear hb
  cases b with
  | false =>
    have e0 : R = 0 := by rw [← HR.out]; unfold rounds; rw [if_pos (.inr (.inr HB.out))]
    go_wp2
    go_ret
    rw [e0]
    exact ⟨rfl, HO1.out.keeps⟩
  | true =>
    have eR : R = 4 + mxC L cs L := by rw [← HR.out]; unfold rounds; rw [if_neg (by rw [HB.out, HL.out]; simp; omega), HL.out]
    have ER : Hid (R = 4 + mxC L cs L) := eR
    have c4 : w1.cell? ⟨C, 4, none⟩ = some (.slice ca L cc) := by have := HO1.out.cfg.cell (i := 4) rfl; rw [← HL.out]; exact this
    clear eR
    go_wp2
    go_loopw [4, 24] (fun z i wr => ∃ j : Nat, j ≤ L ∧ i = .int .i64 j ∧ z = .int .i64 (mxC L cs j) ∧ One w ⟨f, mj, kn, rm, ca, cc, cs, pa, pc, ps, ha, hc, hs⟩ C N wr) (fun _ i _ => L - (intOf i).toNat)
    case atStart => exact ⟨0, by omega, rfl, rfl, HO1.out⟩
    case round =>
      obtain ⟨j, hj, rfl, rfl, hO⟩ := hrel
      clear c4 HO1
      by_cases hlt : j < L
      · obtain ⟨X, hX⟩ : ∃ X, cs[j]? = some X := ⟨_, List.getElem?_eq_getElem (by have := HL.out; omega)⟩
        obtain ⟨g, o, e, hc⟩ := hO.cin.core hX
        dsimp only at e
        subst e
        have hXi := hO.cin.cin X (List.mem_of_getElem? hX)
        have hm : may X.ws = true := by have h := HB.out; unfold allMay at h; rw [List.all_eq_true] at h; exact h X (List.mem_of_getElem? hX)
        have hb := rdC_bound (n := L) (by omega) (may_iff.1 hm).2.2 X.ws.length
        have hb2 := (may_iff.1 hm).2.1
        have hb3 := mxC_bound (n := L) (by omega) HB.out j
        have HC : Hid (Calls Try.prog 50 #[X.v, .int .i64 L] wr fun e w' => e = .returned (.int .i64 (rdC L X.ws X.ws.length)) ∧ Keeps (fun _ => False) wr w') := coreRounds_any L (by omega) X.a X.c X.ws wr hXi.seg hXi.len hm
        obtain ⟨B, hB⟩ : ∃ B, rdC L X.ws X.ws.length = B := ⟨_, rfl⟩
        obtain ⟨M, hM⟩ : ∃ B, mxC L cs j = B := ⟨_, rfl⟩
        have HK : Hid (One w ⟨f, mj, kn, rm, some ⟨g, o, none⟩, cc, cs, pa, pc, ps, ha, _, hs⟩ C N wr ∧ mxC L cs (j + 1) = max M B) := ⟨hO, by rw [mxC_succ hX, hB, hM]⟩
        rw [hB] at HC hb
        rw [hM] at hb3 ⊢
        clear hO hX hXi hm hB hM
        go_wp2_with fail
        refine HC.out.mono ?_
        rintro e w2 ⟨rfl, hK⟩
        have HO1 : Hid (One w ⟨f, mj, kn, rm, some ⟨g, o, none⟩, cc, cs, pa, pc, ps, ha, _, hs⟩ C N w2) := HK.out.1.kept hK
        clear hK hc HC
        go_wp2
        go_roundw
        case rel => exact ⟨j + 1, by omega, by go_num, by rw [HK.out.2]; congr 1; split <;> omega, HO1.out⟩
        case measure => simp [intOf]; omega
      · obtain rfl : j = L := by omega
        have hb3 := mxC_bound (n := j) (by omega) HB.out j
        have HK : Hid (One w ⟨f, mj, kn, rm, ca, cc, cs, pa, pc, ps, ha, hc, hs⟩ C N wr) := hO
        obtain ⟨M, hM⟩ : ∃ B, mxC j cs j = B := ⟨_, rfl⟩
        rw [hM] at ER hb3 ⊢
        have q1 : IntKind.i64.wrap (4 + M) = 4 + M := by rw [IntKind.wrap_i64]; omega
        clear hO hM
        go_wp2
        go_ret
        rw [ER.out]
        exact ⟨rfl, HK.out.keeps⟩
end Go.Proofs.Ytnkfdmlpjgmckaa
