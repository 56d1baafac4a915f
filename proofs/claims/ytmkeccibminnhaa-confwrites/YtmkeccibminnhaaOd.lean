import Derived.Test.YtmkeccibminnhaaFe
import Derived.Test.YtmkeccibminnhaaOc
namespace Go.Proofs.Ytmkeccibminnhaa
open Go.RowKit
set_option linter.unusedVariables false
set_option maxRecDepth 6000

set_option maxHeartbeats 2000000 in
theorem confWrites_any (N : Nat) (x : Cfg) (w : World) (hi : x.In w N) (hN : N ≤ w.heap.size) :
    Calls Try.prog 3 #[x.v] w fun e w' => e = .returned (.bool true) ∧ Keeps (fun _ => False) w w' := by
  obtain ⟨n1, n2, n3, n4, ca, cc, cs, pa, pc, ps, ha, hc, hs⟩ := x
  obtain ⟨X, hXX⟩ : ∃ X : Cfg, X = ⟨n1, n2, n3, n4, ca, cc, cs, pa, pc, ps, ha, hc, hs⟩ := ⟨_, rfl⟩
  rw [← hXX] at hi ⊢
  obtain ⟨L1, hL1⟩ : ∃ L, cs.length = L := ⟨_, rfl⟩
  obtain ⟨L2, hL2⟩ : ∃ L, ps.length = L := ⟨_, rfl⟩
  obtain ⟨L3, hL3⟩ : ∃ L, hs.length = L := ⟨_, rfl⟩
  have hv : X.v = .agg #[.int .i64 n1, .int .i64 n2, .int .i64 n3, .int .i64 n4, .slice ca L1 cc, .slice pa L2 pc, .slice ha L3 hc] := by rw [hXX, ← hL1, ← hL2, ← hL3]
  rw [hv]
  obtain ⟨C, hC⟩ : ∃ C, C = w.heap.size := ⟨_, rfl⟩
  obtain ⟨W, hW⟩ : ∃ W, W = w.alloc (.cells #[.int .i64 n1, .int .i64 n2, .int .i64 n3, .int .i64 n4, .slice ca L1 cc, .slice pa L2 pc, .slice ha L3 hc] 26) := ⟨_, rfl⟩
  have hKW : Keeps (fun _ => False) w W := by rw [hW]; exact (Keeps.refl _ _).alloc _
  have hBW : Blk W C [.int .i64 n1, .int .i64 n2, .int .i64 n3, .int .i64 n4, .slice ca L1 cc, .slice pa L2 pc, .slice ha L3 hc] 26 := by rw [hW, hC]; exact Blk.new w _ _
  have HE : Hid (Calls _ _ _ _ _) := encode_any N X W (hi.below (hKW.below hN fun _ e => e.elim)) (Nat.le_trans hN hKW.size)
  rw [hv] at HE
  have HRe : Hid (∀ w1, Keeps (fun _ => False) W w1 → Calls Try.prog 10 #[.agg #[.int .i64 n1, .int .i64 n2, .int .i64 n3, .int .i64 n4, .slice ca L1 cc, .slice pa L2 pc, .slice ha L3 hc]] w1 fun e w' => Keeps (fun _ => False) w1 w' ∧ ((X.d = true ∧ e = .returned (.tuple #[.slice none 0 0, .int .i64 112])) ∨ (X.d = false ∧ 16384 < (form X).length ∧ e = .returned (.tuple #[.slice none 0 0, .int .i64 2])) ∨
      (X.d = false ∧ (form X).length ≤ 16384 ∧ ∃ a c, Seg w' a (form X) ∧ e = .returned (.tuple #[.slice a (form X).length c, .int .i64 0])))) := by
    intro w1 hK1
    have hKa : Keeps (fun _ => False) w w1 := hKW.trans hK1 fun _ _ e => e
    have := rencode_any N X w1 (hi.below (hKa.below hN fun _ e => e.elim)) (Nat.le_trans hN hKa.size)
    rw [hv] at this
    exact this
  have HA : Hid (X.In w N ∧ N ≤ w.heap.size ∧ Keeps (fun _ => False) w W ∧ Blk W C [.int .i64 n1, .int .i64 n2, .int .i64 n3, .int .i64 n4, .slice ca L1 cc, .slice pa L2 pc, .slice ha L3 hc] 26) := ⟨hi, hN, hKW, hBW⟩
  clear hi hN hXX hL1 hL2 hL3 hv hKW hBW
  go_enter Try.func3, Try.ntmps3
  go_wp2_with fail
  rw [← hW, ← hC]
  clear hW hC
  refine HE.out.mono ?_
  clear HE
  rintro e w1 ⟨hK1, hres⟩
  have hB1 := HA.out.2.2.2.kept hK1 fun e => e
  have c0 := hB1.cell (i := 0) rfl
  have c1 := hB1.cell (i := 1) rfl
  have c2 := hB1.cell (i := 2) rfl
  have c3 := hB1.cell (i := 3) rfl
  have c4 := hB1.cell (i := 4) rfl
  have c5 := hB1.cell (i := 5) rfl
  have c6 := hB1.cell (i := 6) rfl
  have HR := HRe.out w1 hK1
  have HR : Hid (Calls _ _ _ _ _) := HR
  have HK1 : Hid (Keeps (fun _ => False) w w1) := HA.out.2.2.1.trans hK1 fun _ _ e => e
  clear hK1 hB1 HRe
  rcases hres with ⟨h1, rfl⟩ | ⟨h1, h2, rfl⟩ | ⟨h1, h2, g, hg, hB, rfl⟩
  · have HX : Hid (X.d = true) := h1
    clear h1
    go_wp2_with fail
    refine HR.out.mono ?_
    rintro e w2 ⟨hK2, ⟨_, rfl⟩ | ⟨k1, _⟩ | ⟨k1, _⟩⟩
    · have HB : Hid (Calls _ _ _ _ _) := sameBytes_eq none none 0 0 [] w2 (.inl rfl) (.inl rfl)
      have HK2 : Hid (Keeps (fun _ => False) w w2) := HK1.out.trans hK2 fun _ _ e => e
      clear hK2 HR c0 c1 c2 c3 c4 c5 c6
      go_wp2_with fail
      refine HB.out.mono ?_
      rintro e w3 ⟨rfl, hw⟩
      obtain rfl := hw.symm
      clear hw HB
      go_wp2
      go_ret
      exact ⟨rfl, HK2.out⟩
    · rw [HX.out] at k1; cases k1
    · rw [HX.out] at k1; cases k1
  · have HX : Hid (X.d = false ∧ 16384 < (form X).length) := ⟨h1, h2⟩
    clear h1 h2
    go_wp2_with fail
    refine HR.out.mono ?_
    rintro e w2 ⟨hK2, ⟨k1, _⟩ | ⟨_, _, rfl⟩ | ⟨_, k2, _⟩⟩
    · rw [HX.out.1] at k1; cases k1
    · have HB : Hid (Calls _ _ _ _ _) := sameBytes_eq none none 0 0 [] w2 (.inl rfl) (.inl rfl)
      have HK2 : Hid (Keeps (fun _ => False) w w2) := HK1.out.trans hK2 fun _ _ e => e
      clear hK2 HR c0 c1 c2 c3 c4 c5 c6
      go_wp2_with fail
      refine HB.out.mono ?_
      rintro e w3 ⟨rfl, hw⟩
      obtain rfl := hw.symm
      clear hw HB
      go_wp2
      go_ret
      exact ⟨rfl, HK2.out⟩
    · have := HX.out.2; omega
  · have HX : Hid (X.d = false ∧ (form X).length ≤ 16384 ∧ Seg w1 (some ⟨g, 0, none⟩) (form X)) := ⟨h1, h2, seg_blk hB⟩
    obtain ⟨M, hM⟩ : ∃ M, (form X).length = M := ⟨_, rfl⟩
    have HM : Hid ((form X).length = M) := hM
    rw [hM]
    clear h1 h2 hg hB hM
    go_wp2_with fail
    refine HR.out.mono ?_
    rintro e w2 ⟨hK2, ⟨k1, _⟩ | ⟨_, k2, _⟩ | ⟨_, _, a2, k2, hs2, rfl⟩⟩
    · rw [HX.out.1] at k1; cases k1
    · have := HX.out.2.1; omega
    · have HB : Hid (Calls _ _ _ _ _) := sameBytes_eq (some ⟨g, 0, none⟩) a2 M k2 (form X) w2 (HX.out.2.2.keptB hK2 fun _ _ _ e => e) hs2
      have HK2 : Hid (Keeps (fun _ => False) w w2) := HK1.out.trans hK2 fun _ _ e => e
      rw [HM.out] at HB ⊢
      clear hK2 HR hs2 c0 c1 c2 c3 c4 c5 c6
      go_wp2_with fail
      refine HB.out.mono ?_
      rintro e w3 ⟨rfl, hw⟩
      obtain rfl := hw.symm
      clear hw HB
      go_wp2
      go_ret
      exact ⟨rfl, HK2.out⟩
end Go.Proofs.Ytmkeccibminnhaa
