import Derived.Test.YtnkfdmlpjgmckaaLa
namespace Go.Proofs.Ytnkfdmlpjgmckaa
open Go.RowKit
set_option linter.unusedVariables false
set_option maxRecDepth 6000

def eInt : Elem Int := ⟨ivs, 1, 3, fun _ => rfl, by decide, fun _ _ => True, fun _ => [], fun h _ _ => h⟩
def RsP (w : World) (x : Cfg) (k : Int) (e : Ending) (w' : World) : Prop :=
  Keeps (fun _ => False) w w' ∧ (((k < 0 ∨ x.cs.length ≤ k) ∧ e = .returned (.tuple #[.slice none 0 0, .int .i64 140])) ∨ ∃ (n : Nat) (X : Core), k = n ∧ x.cs[n]? = some X ∧
    ((may X.ws = false ∧ e = .returned (.tuple #[.slice none 0 0, .int .i64 1])) ∨ (may X.ws = true ∧ ∃ u, e = .returned (.tuple #[u, .int .i64 0]) ∧ Row eInt w' w.heap.size u (begs X.ws))))
theorem begs_take {ws : List Win} {j : Nat} (hj : j < ws.length) : (begs ws).take (j + 1) = (begs ws).take j ++ [beg ws j] := by
  have : (begs ws)[j]? = some (beg ws j) := by simp [begs, hj]
  rw [List.take_add_one, this]; rfl

set_option maxHeartbeats 1000000 in
theorem rstarts_any (x : Cfg) (k : Int) (w : World) (N : Nat) (hi : x.In w N) (hN : N ≤ w.heap.size) :
    Calls Try.prog 14 #[x.v, .int .i64 k] w (RsP w x k) := by
  obtain ⟨W, hW⟩ : ∃ W, W = x.laid w := ⟨_, rfl⟩
  have hsz : w.heap.size + 1 ≤ W.heap.size := by rw [hW]; simp [Cfg.laid]
  obtain ⟨C, hC⟩ : ∃ C, C = w.heap.size := ⟨_, rfl⟩
  have HO : Hid (One w x C N W ∧ C = w.heap.size ∧ C + 1 ≤ W.heap.size) := by refine ⟨?_, hC, by rw [hC]; exact hsz⟩; rw [hW, hC]; exact One.mk' hi hN
  have hcc : (x.cs.length : Int) ≤ x.cc ∧ (x.cc : Int) ≤ 9223372036854775807 := by have := hi.clen; unfold maxLen at this; omega
  clear hi hN hsz
  unfold Cfg.laid at hW
  by_cases hk : k < 0 ∨ x.cs.length ≤ k
  · have HK : Hid (k < 0 ∨ x.cs.length ≤ k) := hk
    have hk1 : decide (k < 0) = true ∨ (decide (k < 0) = false ∧ decide ((x.cs.length : Int) ≤ k) = true) := by simp; omega
    rcases hk1 with e1 | ⟨e1, e2⟩
    · clear hk
      go_enter Try.func14, Try.ntmps14
      go_upto_region 2 with fail
      rw [← hW, ← hC]
      clear hW hC
      go_wp2
      go_ret2
      exact ⟨HO.out.1.keeps, .inl ⟨HK.out, rfl⟩⟩
    · clear hk
      go_enter Try.func14, Try.ntmps14
      go_upto_region 2 with fail
      rw [← hW, ← hC]
      clear hW hC
      go_wp2
      go_ret2
      exact ⟨HO.out.1.keeps, .inl ⟨HK.out, rfl⟩⟩
  · obtain ⟨q, rfl⟩ : ∃ q : Nat, k = q := ⟨k.toNat, by omega⟩
    obtain ⟨X, hX⟩ : ∃ X, x.cs[q]? = some X := ⟨_, List.getElem?_eq_getElem (by omega)⟩
    have hqk : (q : Int) < x.cs.length := by omega
    have HX : Hid (x.cs[q]? = some X) := hX
    obtain ⟨g, o, ha, hc⟩ := HO.out.1.cin.core hX
    have hXi := HO.out.1.cin.cin X (List.mem_of_getElem? hX)
    have c4 := HO.out.1.cells.2.2.2.2.1
    obtain ⟨XL, hXL⟩ : ∃ XL, X.ws.length = XL := ⟨_, rfl⟩
    have HXL : Hid (X.ws.length = XL) := hXL
    have hv : Core.v X = .slice X.a XL X.c := by unfold Core.v; rw [hXL]
    have HV : Hid (Core.v X = .slice X.a XL X.c ∧ x.ca = some ⟨g, o, none⟩) := ⟨hv, ha⟩
    have hxc : (XL : Int) ≤ X.c ∧ (X.c : Int) ≤ 9223372036854775807 := by have := hXi.len; unfold maxLen at this; omega
    have HC : Hid (Calls Try.prog 33 #[.slice X.a XL X.c] W fun e w' => e = .returned (.bool (may X.ws)) ∧ w' = W) := by
      have h := rmay_any X.a X.c X.ws W hXi.seg hXi.len
      rw [hXL] at h
      exact h
    rw [hv] at hc
    rw [ha] at hW c4
    clear hX hXi hXL hv hk
    go_enter Try.func14, Try.ntmps14
    go_upto_region 3 with fail
    rw [← hW, ← hC]
    clear hW hC
    go_wp2_with fail
    refine HC.out.mono ?_
    rintro e w1 ⟨rfl, hw⟩
    obtain rfl := hw.symm
    clear hw HC hc c4
    obtain ⟨b, hb⟩ : ∃ b, may X.ws = b := ⟨_, rfl⟩
    rw [hb]
    have HB : Hid (may X.ws = b) := hb
    clear hb
    cases b with
    | false =>
      go_wp2
      go_ret2
      exact ⟨HO.out.1.keeps, .inr ⟨q, X, rfl, HX.out, .inl ⟨HB.out, rfl⟩⟩⟩
    | true =>
      have hl16 : XL ≤ 16 := by have := (may_iff.1 HB.out).2.1; have := HXL.out; omega
      rw [← HV.out.2]
      clear ha
      go_wp2
      go_loopw [6, 7] (fun u i wr => ∃ j : Nat, j ≤ XL ∧ i = .int .i64 j ∧ Row eInt wr (C + 1) u ((begs X.ws).take j) ∧ One w x C N wr ∧ C + 1 ≤ wr.heap.size) (fun _ i _ => XL - (intOf i).toNat)
      case atStart => exact ⟨0, by omega, rfl, Row.nil _ _, HO.out.1, HO.out.2.2⟩
      case round =>
        obtain ⟨j, hj, rfl, hRow, hO, hlo⟩ := hrel
        have c4 := hO.cells.2.2.2.2.1
        obtain ⟨g', o', ha, hc⟩ := hO.cin.core HX.out
        rw [HV.out.1] at hc
        rw [ha] at c4
        have HK : Hid (One w x C N wr ∧ Row eInt wr (C + 1) u6 ((begs X.ws).take j) ∧ C + 1 ≤ wr.heap.size) := ⟨hO, hRow, hlo⟩
        clear hO hRow hlo
        by_cases hlt : j < XL
        · have hXi := HK.out.1.cin.cin X (List.mem_of_getElem? HX.out)
          obtain ⟨B, hBd⟩ : ∃ B, beg X.ws j = B := ⟨_, rfl⟩
          have HBd : Hid (beg X.ws j = B) := hBd
          have HC : Hid (Calls Try.prog 34 #[.slice X.a XL X.c, .int .i64 j] wr fun e w'' => e = .returned (.int .i64 B) ∧ Keeps (fun _ => False) wr w'' ∧ w''.heap.size = wr.heap.size) := by
            have h := rbegin_any X.a X.c X.ws j (by have := HXL.out; omega) wr hXi.seg hXi.len HB.out
            rw [HXL.out, hBd] at h
            exact h
          have hlt' : (j : Int) < XL := by omega
          clear hXi hBd
          go_wp2_with fail
          refine HC.out.mono ?_
          rintro e w2 ⟨rfl, hK, hz⟩
          have hRow2 := HK.out.2.1.kept hK fun _ e => e.elim
          have hlo2 := Nat.le_trans HK.out.2.2 hK.size
          have hO2 := HK.out.1.kept hK
          obtain ⟨i0, hi, hz0, hz1, hz2⟩ := info_parts Try.info3
          have hlen : ((begs X.ws).take j).length = j := by rw [List.length_take, begs_len, HXL.out]; omega
          obtain ⟨v', W', happ, hown', hfr', hKa⟩ := append_new 35 3 i0 (.int .i64 0) 1 8 Try.underlying35 hi hz0 hz1 hz2 rfl (by omega) u6 ((begs X.ws).take j).length (((begs X.ws).take j).flatMap ivs) hRow2.own #[.int .i64 B] rfl (by simp; rfl) (by rw [hlen]; unfold maxLen; omega) (by rw [hlen]; omega)
          have HN : Hid (Row eInt W' (C + 1) v' ((begs X.ws).take (j + 1)) ∧ One w x C N W' ∧ C + 1 ≤ W'.heap.size) := by
            rw [begs_take (by have := HXL.out; omega), HBd.out]
            refine ⟨hRow2.push (x := B) trivial (fun k hk => by cases hk) hlo2 hown' hfr' hKa, hO2.up hKa fun b e => ?_, Nat.le_trans hlo2 hKa.size⟩
            have := hRow2.low b e.symm
            have := HO.out.2.1
            omega
          have HAP : Hid (∀ ty, (Builtin.append_ #[35, 35] ty #[u6, .slice (some ⟨w2.heap.size, 0, none⟩) 1 1]).run Try.prog (w2.alloc (.cells #[.int .i64 B] 3)) = .ok v' W') := happ
          clear hi hz0 hz1 hz2 happ hown' hfr' hKa hlen hRow2 hlo2 hO2 hK hz c4 hc
          go_wp2_with (at_builtin; go_must (refine wpList_append_run rfl (.tmp 34) (.tmp 42) 35 35 rfl u6 (.slice (some ⟨w2.heap.size, 0, none⟩) 1 1) v' W' rfl rfl HAP.out ?_; refine Hid.out ?_))
          unfold Hid
          clear HAP
          rw [← ha]
          clear ha
          go_wp2
          go_roundw
          case rel => exact ⟨j + 1, by omega, by go_num, HN.out.1, HN.out.2.1, HN.out.2.2⟩
          case measure => simp [intOf]; omega
        · obtain rfl : j = XL := by omega
          go_wp2
          go_ret2
          refine ⟨HK.out.1.keeps, .inr ⟨q, X, rfl, HX.out, .inr ⟨HB.out, _, rfl, ?_⟩⟩⟩
          have h := HK.out.2.1
          rw [List.take_of_length_le (by rw [begs_len, HXL.out]; exact Nat.le_refl _)] at h
          refine ⟨h.own, fun b hb => ?_, h.ok, fun x hx b hb => by cases hb⟩
          have := h.low b hb
          have := HO.out.2.1
          omega
end Go.Proofs.Ytnkfdmlpjgmckaa
