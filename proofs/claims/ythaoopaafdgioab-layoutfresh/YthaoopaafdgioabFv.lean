import Derived.Test.YthaoopaafdgioabCn
import Derived.Handy
namespace Go.Proofs.Ythaoopaafdgioab
open Go.RowKit
set_option linter.unusedVariables false
set_option linter.unusedSimpArgs false
set_option maxRecDepth 8000

/-- No list of it is longer than the bound. -/
def Small (x : Cfg) : Prop := x.cs.length ≤ 2147483647 ∧ x.ps.length ≤ 2147483647 ∧ x.hs.length ≤ 2147483647 ∧ (∀ (k : Nat) (c : Core), x.cs[k]? = some c → c.ws.length ≤ 2147483647) ∧ ∀ (k : Nat) (P : Par), x.ps[k]? = some P → P.rs.length ≤ 2147483647 ∧ P.ps.length ≤ 2147483647

set_option maxHeartbeats 4000000 in
theorem vast_any (x : Cfg) (w : World) (N : Nat) (hi : x.In w N) (hN : N ≤ w.heap.size) : Calls Try.prog 5 #[x.v] w fun e w' => (e = .returned (.bool true) ∨ e = .returned (.bool false) ∧ Small x) ∧ Keeps (fun _ => False) w w' := by
  obtain ⟨W, hW⟩ : ∃ W, W = x.laid w := ⟨_, rfl⟩
  obtain ⟨C, hC⟩ : ∃ C, C = w.heap.size := ⟨_, rfl⟩
  have HO : Hid (One w x C N W) := by rw [hW, hC]; exact One.mk' hi hN
  obtain ⟨NC, hNC⟩ : ∃ n, x.cs.length = n := ⟨_, rfl⟩
  obtain ⟨NP, hNP⟩ : ∃ n, x.ps.length = n := ⟨_, rfl⟩
  obtain ⟨NH, hNH⟩ : ∃ n, x.hs.length = n := ⟨_, rfl⟩
  have HN : Hid (x.cs.length = NC ∧ x.ps.length = NP ∧ x.hs.length = NH) := ⟨hNC, hNP, hNH⟩
  have hcc : (NC : Int) ≤ x.cc ∧ (x.cc : Int) ≤ 9223372036854775807 := by have := hi.clen; unfold maxLen at this; omega
  have hpc : (NP : Int) ≤ x.pc ∧ (x.pc : Int) ≤ 9223372036854775807 := by have := hi.plen; unfold maxLen at this; omega
  clear hi hN hNC hNP hNH
  unfold Cfg.laid at hW
  go_enter Try.func5, Try.ntmps5
  go_upto_region 2 with fail
  rw [← hW, ← hC]
  clear hW hC
  obtain ⟨q0, q1, q2, q3, q4, q5, q6⟩ := HO.out.cells
  rw [HN.out.1] at q4
  rw [HN.out.2.1] at q5
  rw [HN.out.2.2] at q6
  have HF : Hid (Keeps (fun _ => False) w W) := HO.out.keeps
  by_cases c1 : (2147483647 : Int) < NC
  · go_wp2
    go_ret
    exact ⟨.inl rfl, HF.out⟩
  by_cases c2 : (2147483647 : Int) < NP
  · go_wp2
    go_ret
    exact ⟨.inl rfl, HF.out⟩
  by_cases c3 : (2147483647 : Int) < NH
  · go_wp2
    go_ret
    exact ⟨.inl rfl, HF.out⟩
  go_wp2
  go_loopw [3, 29] (fun l i wr => ∃ (j : Nat) (lv : Int), j ≤ NC ∧ i = .int .i64 j ∧ l = .int .i64 lv ∧ 0 ≤ lv ∧ lv ≤ 2147483647 ∧ (∀ (k : Nat) (c : Core), k < j → x.cs[k]? = some c → c.ws.length ≤ 2147483647) ∧ W = wr) (fun _ i _ => NC - (intOf i).toNat)
  case atStart => exact ⟨0, 2147483647, by omega, rfl, rfl, by omega, by omega, fun k c hk => by omega, rfl⟩
  case round =>
    obtain ⟨j, lv, hj, rfl, rfl, hl0, hl1, hS, rfl⟩ := hrel
    by_cases hlt : j < NC
    · obtain ⟨c, hc⟩ : ∃ c, x.cs[j]? = some c := ⟨_, List.getElem?_eq_getElem (by have := HN.out.1; omega)⟩
      have hci := HO.out.cin.cin c (List.mem_of_getElem? hc)
      obtain ⟨g, o, ha, hg⟩ := HO.out.cin.cseg.at hc
      have r0 := hg 0 _ rfl
      rw [Nat.mul_one, Nat.add_zero] at r0
      rw [ha] at q4
      obtain ⟨wl, hwl⟩ : ∃ n, c.ws.length = n := ⟨_, rfl⟩
      rw [hwl] at r0
      have hwc : (wl : Int) ≤ c.c ∧ (c.c : Int) ≤ 9223372036854775807 := by have := hci.len; unfold maxLen at this; omega
      have hlt' : (j : Int) < NC := by omega
      have HS : Hid (∀ (k : Nat) (c : Core), k < j → x.cs[k]? = some c → c.ws.length ≤ 2147483647) := hS
      have HJ : Hid (j < NC ∧ x.cs[j]? = some c ∧ c.ws.length = wl) := ⟨hlt, hc, hwl⟩
      clear hS hg hci hc hwl hj hlt ha
      by_cases hov : lv < (wl : Int)
      · go_wp2
        go_ret
        exact ⟨.inl rfl, HF.out⟩
      · have w1 : IntKind.i64.wrap (lv - (wl : Int)) = lv - wl := by rw [IntKind.wrap_i64]; omega
        go_wp2
        go_roundw
        case rel =>
          refine ⟨j + 1, lv - wl, by have := HJ.out; omega, by go_num, rfl, by omega, by omega, fun k c' hk hc' => ?_, trivial⟩
          by_cases e : k = j
          · subst e
            rw [HJ.out.2.1] at hc'
            cases hc'
            rw [HJ.out.2.2]; omega
          · exact HS.out k c' (by omega) hc'
        case measure => have := HJ.out; simp [intOf]; omega
    · obtain rfl : NC = j := by omega
      have HS : Hid (∀ (k : Nat) (c : Core), x.cs[k]? = some c → c.ws.length ≤ 2147483647) := fun k c hc => hS k c (by have := (List.getElem?_eq_some_iff.1 hc).1; have := HN.out.1; omega) hc
      clear hS hj hlt
      go_wp2
      clear q0 q1 q2 q3 q4 q5 q6
      go_loopw [3, 52] (fun l i wr => ∃ (j : Nat) (lv : Int), j ≤ NP ∧ i = .int .i64 j ∧ l = .int .i64 lv ∧ 0 ≤ lv ∧ lv ≤ 2147483647 ∧ (∀ (k : Nat) (P : Par), k < j → x.ps[k]? = some P → P.rs.length ≤ 2147483647 ∧ P.ps.length ≤ 2147483647) ∧ Keeps (fun _ => False) W wr) (fun _ i _ => NP - (intOf i).toNat)
      case atStart => exact ⟨0, lv, by omega, rfl, rfl, by omega, by omega, fun k c hk => by omega, Keeps.refl _ _⟩
      case round =>
        obtain ⟨j, lw, hj, rfl, rfl, hm0, hm1, hS2, hK⟩ := hrel
        by_cases hlt : j < NP
        · have hO := HO.out.kept hK
          obtain ⟨q0, q1, q2, q3, q4, q5, q6⟩ := hO.cells
          rw [HN.out.2.1] at q5
          obtain ⟨X, hX⟩ : ∃ X, x.ps[j]? = some X := ⟨_, List.getElem?_eq_getElem (by have := HN.out.2.1; omega)⟩
          have hXi := hO.cin.pin X (List.mem_of_getElem? hX)
          obtain ⟨g, o, ha, hc⟩ := hO.cin.par hX
          have p0 := hc 0 _ rfl
          rw [Nat.add_zero] at p0
          have p1 := hc 1 _ rfl
          have p2 := hc 2 _ rfl
          have p3 := hc 3 _ rfl
          have p4 := hc 4 _ rfl
          have p5 := hc 5 _ rfl
          have p6 := hc 6 _ rfl
          have p7 := hc 7 _ rfl
          rw [ha] at q5
          obtain ⟨rl, hrl⟩ : ∃ n, X.rs.length = n := ⟨_, rfl⟩
          obtain ⟨pl, hpl⟩ : ∃ n, X.ps.length = n := ⟨_, rfl⟩
          rw [hrl] at p6
          rw [hpl] at p7
          have hrc : (rl : Int) ≤ 9223372036854775807 := by have := hXi.rlen; unfold maxLen at this; omega
          have hpc2 : (pl : Int) ≤ 9223372036854775807 := by have := hXi.plen; unfold maxLen at this; omega
          obtain ⟨W1, hW1⟩ : ∃ W1, W1 = wr.alloc (.cells #[.string X.name, .int .i64 X.entry, .int .i64 X.action, .int .i64 X.restarts, .int .i64 X.inputs, .int .i64 X.outputs, .slice X.ra rl X.rc, .slice X.pa pl X.pc] 52) := ⟨_, rfl⟩
          obtain ⟨E, hE⟩ : ∃ E, E = wr.heap.size := ⟨_, rfl⟩
          have k1 : Keeps (fun _ => False) wr W1 := by rw [hW1]; exact (Keeps.refl _ _).alloc _
          have hB1 : Blk W1 E [.string X.name, .int .i64 X.entry, .int .i64 X.action, .int .i64 X.restarts, .int .i64 X.inputs, .int .i64 X.outputs, .slice X.ra rl X.rc, .slice X.pa pl X.pc] 52 := by rw [hW1, hE]; exact Blk.new _ _ _
          have d6 := hB1.cell (i := 6) rfl
          have d7 := hB1.cell (i := 7) rfl
          have hlt' : (j : Int) < NP := by omega
          have HK1 : Hid (Keeps (fun _ => False) W W1) := hK.trans k1 fun _ _ e => e
          have HS2 : Hid (∀ (k : Nat) (P : Par), k < j → x.ps[k]? = some P → P.rs.length ≤ 2147483647 ∧ P.ps.length ≤ 2147483647) := hS2
          have HJ : Hid (j < NP ∧ x.ps[j]? = some X ∧ X.rs.length = rl ∧ X.ps.length = pl) := ⟨hlt, hX, hrl, hpl⟩
          have HFF : Hid (Keeps (fun _ => False) w W1) := HF.out.trans HK1.out fun _ _ e => e
          clear hS2 hO hX hXi hc hrl hpl k1 hB1 hK hj hlt ha
          go_upto_region 15 with fail
          rw [← hW1, ← hE]
          clear hW1 hE p0 p1 p2 p3 p4 p5 p6 p7 q0 q1 q2 q3 q4 q5 q6
          by_cases o1 : lw < (rl : Int)
          · go_wp2
            go_ret
            exact ⟨.inl rfl, HFF.out⟩
          have w1 : IntKind.i64.wrap (lw - (rl : Int)) = lw - rl := by rw [IntKind.wrap_i64]; omega
          by_cases o2 : lw - (rl : Int) < (pl : Int)
          · go_wp2
            go_ret
            exact ⟨.inl rfl, HFF.out⟩
          have w2 : IntKind.i64.wrap ((rl : Int) + (pl : Int)) = rl + pl := by rw [IntKind.wrap_i64]; omega
          have w3 : IntKind.i64.wrap (lw - ((rl : Int) + (pl : Int))) = lw - (rl + pl) := by rw [IntKind.wrap_i64]; omega
          go_wp2
          go_roundw
          case rel =>
            refine ⟨j + 1, lw - (rl + pl), by have := HJ.out; omega, by go_num, rfl, by omega, by omega, fun k P hk hP => ?_, HK1.out⟩
            by_cases e : k = j
            · subst e
              rw [HJ.out.2.1] at hP
              cases hP
              rw [HJ.out.2.2.1, HJ.out.2.2.2]; omega
            · exact HS2.out k P (by omega) hP
          case measure => have := HJ.out; simp [intOf]; omega
        · obtain rfl : NP = j := by omega
          have HSM : Hid (Small x ∧ Keeps (fun _ => False) w wr) := by
            refine ⟨⟨by have := HN.out; omega, by have := HN.out; omega, by have := HN.out; omega, HS.out, fun k P hP => hS2 k P (by have := (List.getElem?_eq_some_iff.1 hP).1; have := HN.out.2.1; omega) hP⟩, HF.out.trans hK fun _ _ e => e⟩
          clear hS2 hK hj hlt
          go_wp2
          go_ret
          exact ⟨.inr ⟨rfl, HSM.out.1⟩, HSM.out.2⟩
end Go.Proofs.Ythaoopaafdgioab
