import Derived.Test.YtmkeccibminnhaaGj
import Derived.Test.YtmkeccibminnhaaSb
namespace Go.Proofs.Ytmkeccibminnhaa
open Go.RowKit
set_option linter.unusedVariables false
set_option maxRecDepth 6000

theorem refDecode_any (B : List UInt8) (a : Option Addr) (cap : Nat) (w : World) (hs : Seg w a B) (hcap : B.length ≤ cap ∧ cap ≤ maxLen) (hlt : B ≠ [] → ∀ y, a = some y → y.block < w.heap.size) :
    Calls Try.prog 13 #[.slice a B.length cap] w (DecP w B) := by
  by_cases hl : 16384 < B.length
  · exact (refDecode_long B.length a cap w hl (by omega)).mono fun e w' h => ⟨h.1, .inl ⟨hl, h.2⟩⟩
  · by_cases h4 : B.length < 4
    · exact refDecode_tiny B a cap w h4
    · have hne : B ≠ [] := by intro e; rw [e] at h4; simp at h4
      rcases hs with h0 | ⟨g, o, rfl, hc⟩
      · exact (hne h0).elim
      · have hs : Seg w (some ⟨g, o, none⟩) B := .inr ⟨g, o, rfl, hc⟩
        by_cases hm : (B.drop 0).take 4 = [66, 75, 67, 49]
        · exact refDecode_go B g o cap w hs hcap (by omega) (by omega) (hlt hne _ rfl) hm
        · exact refDecode_mark B g o cap w hs hcap (by omega) (by omega) (hlt hne _ rfl) hm

def zC : Cfg := ⟨0, 0, 0, 0, none, 0, [], none, 0, [], none, 0, []⟩
theorem zC_ok (w : World) : zC.Ok w := ⟨.inl rfl, ⟨Nat.le_refl _, Nat.zero_le _⟩, fun c h => (by cases h), .inl rfl, ⟨Nat.le_refl _, Nat.zero_le _⟩, fun c h => (by cases h), .inl rfl, ⟨Nat.le_refl _, Nat.zero_le _⟩⟩
/-- Decode's answer, as one. -/
def decA (B : List UInt8) : PCfg × Nat × Int := if 16384 < B.length then (zC.pure, 0, 2) else match dec B with | .ok p => (p, 0, 0) | .error r => (zC.pure, r.1, r.2)
theorem DecP.open {w w' : World} {B : List UInt8} {e : Ending} (h : DecP w B e w') : ∃ (m1 m2 m3 m4 : Int) (ca : Option Addr) (L1 cc : Nat) (pa : Option Addr) (L2 pc : Nat) (ha : Option Addr) (L3 hc : Nat) (q : Nat) (k : Int),
    e = .returned (.tuple #[.agg #[.int .i64 m1, .int .i64 m2, .int .i64 m3, .int .i64 m4, .slice ca L1 cc, .slice pa L2 pc, .slice ha L3 hc], .int .i64 q, .int .i64 k]) ∧ Keeps (fun _ => False) w w' ∧ ∃ x : Cfg, x.v = .agg #[.int .i64 m1, .int .i64 m2, .int .i64 m3, .int .i64 m4, .slice ca L1 cc, .slice pa L2 pc, .slice ha L3 hc] ∧ x.Ok w' ∧ decA B = (x.pure, q, k) := by
  obtain ⟨hK, ⟨hl, rfl⟩ | ⟨hl, ⟨x, hd, rfl, hX⟩ | ⟨q, k, hd, rfl⟩⟩⟩ := h
  · exact ⟨0, 0, 0, 0, none, 0, 0, none, 0, 0, none, 0, 0, 0, 2, rfl, hK, zC, rfl, zC_ok w', by unfold decA; rw [if_pos hl]⟩
  · have hO := hX.in.ok
    obtain ⟨n1, n2, n3, n4, ca, cc, cs, pa, pc, ps, ha, hc, hs⟩ := x
    exact ⟨n1, n2, n3, n4, ca, cs.length, cc, pa, ps.length, pc, ha, hs.length, hc, 0, 0, rfl, hK, _, rfl, hO, by unfold decA; rw [if_neg (by omega), hd]⟩
  · exact ⟨0, 0, 0, 0, none, 0, 0, none, 0, 0, none, 0, 0, q, k, rfl, hK, zC, rfl, zC_ok w', by unfold decA; rw [if_neg (by omega), hd]⟩

set_option maxHeartbeats 2000000 in
theorem confReads_any (B : List UInt8) (a : Option Addr) (cap : Nat) (w : World) (hs : Seg w a B) (hcap : B.length ≤ cap ∧ cap ≤ maxLen) (hlt : B ≠ [] → ∀ y, a = some y → y.block < w.heap.size) :
    Calls Try.prog 4 #[.slice a B.length cap] w fun e w' => e = .returned (.bool true) ∧ Keeps (fun _ => False) w w' := by
  have HD : Hid (Calls Try.prog 12 #[.slice a B.length cap] w (DecP w B)) := by
    by_cases hl : 16384 < B.length
    · exact (decode_long B.length a cap w hl (by omega)).mono fun e w' h => ⟨h.1, .inl ⟨hl, h.2⟩⟩
    · exact decode_short B a cap w hs hcap (by omega) hlt
  have HR : Hid (∀ W, Keeps (fun _ => False) w W → Calls Try.prog 13 #[.slice a B.length cap] W (DecP W B)) := fun W hK =>
    refDecode_any B a cap W (hs.keptB hK fun _ _ _ e => e) hcap fun h1 y h2 => Nat.lt_of_lt_of_le (hlt h1 y h2) hK.size
  obtain ⟨L, hL⟩ : ∃ L, B.length = L := ⟨_, rfl⟩
  rw [hL] at HD HR ⊢
  clear hs hcap hlt hL
  go_enter Try.func4, Try.ntmps4
  go_wp2_with fail
  refine HD.out.mono ?_
  clear HD
  intro e w1 hP
  obtain ⟨n1, n2, n3, n4, ca, L1, cc, pa, L2, pc, ha, L3, hc, q, k, rfl, hK1, hx⟩ := hP.open
  clear hP
  obtain ⟨C, hC⟩ : ∃ C, C = w1.heap.size := ⟨_, rfl⟩
  obtain ⟨W, hW⟩ : ∃ W, W = w1.alloc (.cells #[.int .i64 n1, .int .i64 n2, .int .i64 n3, .int .i64 n4, .slice ca L1 cc, .slice pa L2 pc, .slice ha L3 hc] 26) := ⟨_, rfl⟩
  have hKW : Keeps (fun _ => False) w1 W := by rw [hW]; exact (Keeps.refl _ _).alloc _
  have hBW : Blk W C [.int .i64 n1, .int .i64 n2, .int .i64 n3, .int .i64 n4, .slice ca L1 cc, .slice pa L2 pc, .slice ha L3 hc] 26 := by rw [hW, hC]; exact Blk.new w1 _ _
  have HR2 : Hid (Calls _ _ _ _ _) := HR.out W (hK1.trans hKW fun _ _ e => e)
  have HA : Hid (Keeps (fun _ => False) w W ∧ Blk W C [.int .i64 n1, .int .i64 n2, .int .i64 n3, .int .i64 n4, .slice ca L1 cc, .slice pa L2 pc, .slice ha L3 hc] 26 ∧ ∃ x : Cfg, x.v = .agg #[.int .i64 n1, .int .i64 n2, .int .i64 n3, .int .i64 n4, .slice ca L1 cc, .slice pa L2 pc, .slice ha L3 hc] ∧ x.Ok W ∧ decA B = (x.pure, q, k)) := by
    obtain ⟨x, h1, h2, h3⟩ := hx
    exact ⟨hK1.trans hKW fun _ _ e => e, hBW, x, h1, h2.grown hKW, h3⟩
  clear HR hK1 hKW hBW hx
  go_wp2_with fail
  rw [← hW, ← hC]
  clear hW hC
  refine HR2.out.mono ?_
  clear HR2
  intro e w2 hP
  obtain ⟨m1, m2, m3, m4, da, K1, dc, qa, K2, qc, ea, K3, ec, q', k', rfl, hK2, hy⟩ := hP.open
  clear hP
  obtain ⟨W2, hW2⟩ : ∃ W2, W2 = w2.alloc (.cells #[.int .i64 m1, .int .i64 m2, .int .i64 m3, .int .i64 m4, .slice da K1 dc, .slice qa K2 qc, .slice ea K3 ec] 26) := ⟨_, rfl⟩
  have hKW2 : Keeps (fun _ => False) w2 W2 := by rw [hW2]; exact (Keeps.refl _ _).alloc _
  have hall : q' = q ∧ k' = k ∧ Calls Try.prog 14 #[.agg #[.int .i64 n1, .int .i64 n2, .int .i64 n3, .int .i64 n4, .slice ca L1 cc, .slice pa L2 pc, .slice ha L3 hc], .agg #[.int .i64 m1, .int .i64 m2, .int .i64 m3, .int .i64 m4, .slice da K1 dc, .slice qa K2 qc, .slice ea K3 ec]] W2 fun e w' => e = .returned (.bool true) ∧ Keeps (fun _ => False) W2 w' := by
    obtain ⟨x, h1, h2, h3⟩ := HA.out.2.2
    obtain ⟨y, h4, h5, h6⟩ := hy
    rw [h3] at h6
    injection h6 with e1 e2
    injection e2 with e2 e3
    refine ⟨e2.symm, e3.symm, ?_⟩
    rw [← h1, ← h4]
    exact same_eq x y W2 e1 ((h2.grown hK2).grown hKW2) (h5.grown hKW2)
  obtain ⟨rfl, rfl, hsm⟩ := hall
  have HSm : Hid (Calls _ _ _ _ _) := hsm
  have hBd := (HA.out.2.1.kept hK2 fun e => e).kept hKW2 fun e => e
  have c0 := hBd.cell (i := 0) rfl
  have c1 := hBd.cell (i := 1) rfl
  have c2 := hBd.cell (i := 2) rfl
  have c3 := hBd.cell (i := 3) rfl
  have c4 := hBd.cell (i := 4) rfl
  have c5 := hBd.cell (i := 5) rfl
  have c6 := hBd.cell (i := 6) rfl
  have HK9 : Hid (Keeps (fun _ => False) w W2) := (HA.out.1.trans hK2 fun _ _ e => e).trans hKW2 fun _ _ e => e
  clear hsm hBd hK2 hKW2 hy HA
  rw [hW2] at c0 c1 c2 c3 c4 c5 c6
  go_wp2_with fail
  rw [← hW2]
  refine HSm.out.mono ?_
  rintro e w3 ⟨rfl, hK3⟩
  have HK3 : Hid (Keeps (fun _ => False) w w3) := HK9.out.trans hK3 fun _ _ e => e
  clear hK3 HSm c0 c1 c2 c3 c4 c5 c6 hW2
  go_wp2
  go_ret
  exact ⟨rfl, HK3.out⟩
end Go.Proofs.Ytmkeccibminnhaa
