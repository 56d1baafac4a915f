import Derived.Test.YtfcgpjojjehkiaaRe
import Derived.Laws.ResultCell
namespace Go.Proofs.Ytfcgpjojjehkiaa
open Go.RowKit
set_option linter.unusedVariables false

theorem results_row_tmp {P : Program} {fn : Func} {p u : Tmp} {ty : TypeId} (h : fn.results = #[.cell p ty, .tmp u]) (tmps : Array Value) (w : World) (g : Nat) (t : TypeId) (cs : Array Value) (fr : Nat × Nat) (d : TypeDesc)
    (hp : tmps.getD p undef = .pointer (some ⟨g, 0, none⟩)) (hg : w.heap[g]? = some (.cells cs t fr))
    (hu : P.underlying ty = some d) (hd : (match d with | .struct _ | .array _ _ => true | _ => false) = true) (hi : (P.info? ty).map (·.size) = some cs.size) :
    (results fn tmps).run P w = .ok (.tuple #[.agg cs, tmps.getD u undef]) w := by
  rw [results_cell_tmp h, hp]
  simp [asAddr, run_loadVar_row w g t ty cs fr d hg hu hd hi]

theorem set3 {w : World} {g : Nat} {a0 a1 a2 : Value} {t : TypeId} (h : Blk w g [a0, a1, a2] t) (x y z : Value) : Blk (((w.setCell ⟨g, 0, none⟩ x).setCell ⟨g, 1, none⟩ y).setCell ⟨g, 2, none⟩ z) g [x, y, z] t ∧ Keeps (· = g) w (((w.setCell ⟨g, 0, none⟩ x).setCell ⟨g, 1, none⟩ y).setCell ⟨g, 2, none⟩ z) :=
  ⟨((h.setCell 0 x).setCell 1 y).setCell 2 z, (((Keeps.refl (· = g) w).setCell ⟨g, 0, none⟩ x fun _ => rfl).setCell ⟨g, 1, none⟩ y fun _ => rfl).setCell ⟨g, 2, none⟩ z fun _ => rfl⟩

set_option maxRecDepth 20000 in
set_option maxHeartbeats 2000000 in
theorem hread_zero (h n G c : Nat) (l : List UInt32) (w : World) (hs : SegW w (some ⟨G, 0, none⟩) l) (hl : l.length = h + n) (hh : h = 2 ∨ h = 3) (hn1 : 1 ≤ n) (hn : n ≤ 16) (h0 : wd l 0 = 0) :
    Calls Try.prog 49 #[.slice (some ⟨G, 0, none⟩) l.length c, .int .i64 h] w (RdR w h n l G c) := by
  obtain ⟨W0, hW0⟩ : ∃ W0, W0 = (w.alloc (.cells #[.bool false, .bool false, .slice none 0 0] 83)).alloc (.cells #[.bool false, .bool false, .slice none 0 0] 83) := ⟨_, rfl⟩
  have hK : Keeps (fun _ => False) w W0 := by rw [hW0]; exact ((Keeps.refl _ w).alloc _).alloc _
  have hB1 : Blk W0 w.heap.size [.bool false, .bool false, .slice none 0 0] 83 := by rw [hW0]; exact (Blk.new w _ 83).alloc _
  have hB2 : Blk W0 (w.heap.size + 1) [.bool false, .bool false, .slice none 0 0] 83 := by
    rw [hW0]; have := Blk.new (w.alloc (.cells #[.bool false, .bool false, .slice none 0 0] 83)) #[.bool false, .bool false, .slice none 0 0] 83
    simpa using this
  have hs2 := hs.kept hK (fun _ _ e => e)
  have c0 := hs2.wd (j := 0) (by omega)
  rw [Nat.zero_add, h0, show ((0 : UInt32).toNat : Int) = 0 from rfl] at c0
  have HWd := hwords_any h n false false none 0 [] W0 (.inl rfl) hh (fun e => by cases e) (Nat.zero_le _) hn
  obtain ⟨ws, hws⟩ : ∃ ws, ws = hdW h n false false [] := ⟨_, rfl⟩
  have hwl : ws.length = l.length := by rw [hws, hl]; simp [hdW]
  have hRB : rightB h n l = decide (ws = l) := by
    unfold rightB
    rw [if_pos h0, zeroB_eq, hws, hl]; rfl
  unfold WdP at HWd
  rw [← hws, hwl] at HWd
  obtain ⟨L, hL⟩ : ∃ L, L = l.length := ⟨_, rfl⟩
  obtain ⟨O1, hO1⟩ : ∃ O, O = w.heap.size := ⟨_, rfl⟩
  obtain ⟨O2, hO2⟩ : ∃ O, O = w.heap.size + 1 := ⟨_, rfl⟩
  rw [← hL] at HWd ⊢
  rw [← hO1] at hB1
  rw [← hO2] at hB2
  have d0 := hB2.cell (i := 0) rfl
  have d1 := hB2.cell (i := 1) rfl
  have d2 := hB2.cell (i := 2) rfl
  have HWd : Hid (Calls _ _ _ _ _) := HWd
  have HP : Hid (W0 = _ ∧ Keeps (fun _ => False) w W0 ∧ Blk W0 O1 [.bool false, .bool false, .slice none 0 0] 83 ∧ Blk W0 O2 [.bool false, .bool false, .slice none 0 0] 83 ∧ O1 = w.heap.size ∧ O2 = w.heap.size + 1) := ⟨hW0, hK, hB1, hB2, hO1, hO2⟩
  have HQ : Hid (SegW W0 (some ⟨G, 0, none⟩) l ∧ L = l.length ∧ ws.length = l.length ∧ rightB h n l = decide (ws = l) ∧ wd l 0 = 0) := ⟨hs2, hL, hwl, hRB, h0⟩
  have g0 : 0 < (L : Int) := by omega
  have g4 : (L : Int) - (h : Int) = (n : Int) := by omega
  have g2 : 2 ≤ (h : Int) := by omega
  have g3 : (h : Int) ≤ 3 := by omega
  have g5 : (n : Int) ≤ 16 := by omega
  have g6 : (L : Int) ≤ 19 := by omega
  have c0' : ((w.alloc (.cells #[.bool false, .bool false, .slice none 0 0] 83)).alloc (.cells #[.bool false, .bool false, .slice none 0 0] 83)).cell? ⟨G, 0, none⟩ = some (.int .u32 0) := by rw [← hW0]; exact c0
  clear hs hs2 hl hh hn1 hn h0 hK hB1 hB2 hW0 hws hwl hRB hL hO1 hO2 c0
  go_enter Try.func49, Try.ntmps49
  go_wp2_with fail
  rw [← HP.out.1, ← HP.out.2.2.2.2.2, ← HP.out.2.2.2.2.1]
  refine HWd.out.mono ?_
  rintro e w2 ⟨Gw, hGs, rfl, hGB, hk2⟩
  have H2 : Hid (Blk w2 Gw (wvs ws) 34 ∧ Keeps (fun _ => False) W0 w2) := ⟨hGB, hk2⟩
  clear hGs hGB hk2 HWd c0' d0 d1 d2
  go_wp2
  go_loopw [57] (fun i wr => ∃ j : Nat, j ≤ L ∧ i = .int .i64 j ∧ ws.take j = l.take j ∧ Keeps (fun _ => False) w2 wr) (fun i _ => L - (intOf i).toNat)
  case atStart => exact ⟨0, by omega, rfl, by simp, Keeps.refl _ _⟩
  case round =>
    obtain ⟨j, hj, rfl, ht, hk⟩ := hrel
    have hK0 : Keeps (fun _ => False) W0 wr := H2.out.2.trans hk fun _ _ e => e
    have hO1 := HP.out.2.2.1.kept hK0 fun e => e
    have hO2 := HP.out.2.2.2.1.kept hK0 fun e => e
    have HO : Hid (Blk wr O1 [.bool false, .bool false, .slice none 0 0] 83 ∧ Blk wr O2 [.bool false, .bool false, .slice none 0 0] 83 ∧ Keeps (fun _ => False) w wr) := ⟨hO1, hO2, HP.out.2.1.trans hK0 fun _ _ e => e⟩
    by_cases hlt : j < L
    · have hlt' : (j : Int) < L := by omega
      have hjl : j < l.length := by have := HQ.out.2.1; omega
      have hjw : j < ws.length := by have := HQ.out.2.2.1; omega
      have cl := (HQ.out.1.kept hK0 (fun _ _ e => e)).wd hjl
      rw [Nat.zero_add] at cl
      have cw := (H2.out.1.kept hk fun e => e).cell (wvs_wd hjw)
      by_cases hx : wd ws j = wd l j
      · rw [hx] at cw
        have HT : Hid (ws.take (j + 1) = l.take (j + 1)) := by
          show ws.take (j + 1) = l.take (j + 1)
          rw [List.take_add_one, List.take_add_one, ht, List.getElem?_eq_getElem hjl, List.getElem?_eq_getElem hjw, ← wd_get hjl, ← wd_get hjw, hx]
        have HK : Hid (Keeps (fun _ => False) w2 wr) := hk
        obtain ⟨x, hxx⟩ : ∃ x : Nat, x = (wd l j).toNat := ⟨_, rfl⟩
        rw [← hxx] at cl cw
        clear hj ht hk hK0 hO1 hO2 hjl hjw hx hxx HO
        go_wp2
        go_quiet (fail)
        go_wp2
        go_roundw
        case rel => exact ⟨j + 1, by omega, by go_num, HT.out, HK.out.drewN _⟩
        case measure => simp [intOf]; omega
      · have HN : Hid (rightB h n l = false) := by
          show rightB h n l = false
          rw [HQ.out.2.2.2.1, decide_eq_false]
          intro e; exact hx (by rw [e])
        obtain ⟨x, hxx⟩ : ∃ x : Nat, x = (wd l j).toNat := ⟨_, rfl⟩
        obtain ⟨y, hyy⟩ : ∃ x : Nat, x = (wd ws j).toNat := ⟨_, rfl⟩
        rw [← hxx] at cl
        rw [← hyy] at cw
        have hxy : ((y : Int) != (x : Int)) = true := bne_iff_ne.2 (by rw [hxx, hyy]; exact fun e => hx (UInt32.toNat_inj.1 (by omega)))
        have a0 := hO1.cell (i := 0) rfl
        have a1 := hO1.cell (i := 1) rfl
        have a2 := hO1.cell (i := 2) rfl
        have z0 := hO1.frozen 0
        have z1 := hO1.frozen 1
        have z2 := hO1.frozen 2
        clear hj ht hk hK0 hO1 hO2 hjl hjw hx hxx hyy
        go_wp2
        go_quiet (fail)
        go_wp2
        obtain ⟨hB3, hK3⟩ := set3 (HO.out.1.drewN nq) (.bool false) (.bool false) (.slice none 0 0)
        obtain ⟨Wb, hWb⟩ : ∃ Wb, Wb = ((((wr.drewN nq).setCell ⟨O1, 0, none⟩ (.bool false)).setCell ⟨O1, 1, none⟩ (.bool false)).setCell ⟨O1, 2, none⟩ (.slice none 0 0)) := ⟨_, rfl⟩
        rw [← hWb] at hB3 hK3 ⊢
        have HKb : Hid (Keeps (fun _ => False) w Wb) := (HO.out.2.2.drewN nq).trans hK3 fun b hb e => by have := HP.out.2.2.2.2.1; omega
        clear hK3 hWb a0 a1 a2 z0 z1 z2 cl cw
        refine bodyPost_ret (results_row_tmp rfl _ _ O1 83 #[.bool false, .bool false, .slice none 0 0] (0, 0) _ rfl hB3 Try.underlying83 rfl (by kernel_rfl)) rfl ?_
        exact ⟨_, _, _, _, _, by rw [HN.out]; rfl, (fun e => by rw [HN.out] at e; cases e), HKb.out⟩
    · obtain rfl : j = L := by omega
      have HY : Hid (rightB h n l = true) := by
        show rightB h n l = true
        rw [HQ.out.2.2.2.1, decide_eq_true]
        rw [List.take_of_length_le (by have := HQ.out.2.2.1; have := HQ.out.2.1; omega), List.take_of_length_le (by have := HQ.out.2.1; omega)] at ht
        exact ht
      have a0 := hO1.cell (i := 0) rfl
      have a1 := hO1.cell (i := 1) rfl
      have a2 := hO1.cell (i := 2) rfl
      have z0 := hO1.frozen 0
      have z1 := hO1.frozen 1
      have z2 := hO1.frozen 2
      have d0 := hO2.cell (i := 0) rfl
      have d1 := hO2.cell (i := 1) rfl
      have d2 := hO2.cell (i := 2) rfl
      clear hj ht hk hK0 hO1 hO2 hlt
      go_wp2
      obtain ⟨hB3, hK3⟩ := set3 HO.out.1 (.bool false) (.bool false) (.slice none 0 0)
      obtain ⟨Wb, hWb⟩ : ∃ Wb, Wb = (((wr.setCell ⟨O1, 0, none⟩ (.bool false)).setCell ⟨O1, 1, none⟩ (.bool false)).setCell ⟨O1, 2, none⟩ (.slice none 0 0)) := ⟨_, rfl⟩
      rw [← hWb] at hB3 hK3 ⊢
      have HKb : Hid (Keeps (fun _ => False) w Wb) := HO.out.2.2.trans hK3 fun b hb e => by have := HP.out.2.2.2.2.1; omega
      clear hK3 hWb a0 a1 a2 z0 z1 z2 d0 d1 d2
      refine bodyPost_ret (results_row_tmp rfl _ _ O1 83 #[.bool false, .bool false, .slice none 0 0] (0, 0) _ rfl hB3 Try.underlying83 rfl (by kernel_rfl)) rfl ?_
      refine ⟨_, _, _, _, _, by rw [HY.out]; rfl, (fun e => ?_), HKb.out⟩
      unfold hT hF hV hT
      rw [HQ.out.2.2.2.2]
      exact ⟨rfl, rfl, rfl⟩

end Go.Proofs.Ytfcgpjojjehkiaa
