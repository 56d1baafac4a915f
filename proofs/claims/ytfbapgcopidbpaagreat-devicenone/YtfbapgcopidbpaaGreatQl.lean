import Derived.Test.YtfbapgcopidbpaaGreatQk
namespace Go.Proofs.YtfbapgcopidbpaaGreat
open Go.RowKit
set_option linter.unusedVariables false
set_option linter.unusedSimpArgs false
set_option maxRecDepth 6000

theorem takenClo (P : Par) (nm : ByteArray) (A : Nat) (w : World) (hE : Bls [(A, [.string nm], 9)] w) : Calls Tryz.prog 152 #[P.v, .pointer (some ⟨A, 0, none⟩)] w fun e w' => e = .returned (.bool (P.name.toList == nm.toList)) ∧ Keeps (fun _ => False) w w' := by
  obtain ⟨name, en, ac, re, inp, ou, ra, rc, rs, pa, pc, ps⟩ := P
  obtain ⟨L, hL⟩ : ∃ L, rs.length = L := ⟨_, rfl⟩
  obtain ⟨M, hM⟩ : ∃ M, ps.length = M := ⟨_, rfl⟩
  simp only [Par.v, hL, hM]
  obtain ⟨W, hW⟩ : ∃ W, W = w.alloc (.cells #[.string name, .int .i64 en, .int .i64 ac, .int .i64 re, .int .i64 inp, .int .i64 ou, .slice ra L rc, .slice pa M pc] 55) := ⟨_, rfl⟩
  obtain ⟨Q, hQ⟩ : ∃ Q, Q = w.heap.size := ⟨_, rfl⟩
  have hb : BI w [(Q, [.string name, .int .i64 en, .int .i64 ac, .int .i64 re, .int .i64 inp, .int .i64 ou, .slice ra L rc, .slice pa M pc], 55), (A, [.string nm], 9)] W := by rw [hW, hQ]; exact BI.box hE _ _
  have HQ : Hid (Keeps (fun _ => False) w W) := hb.2
  have c0 := (hb.1 _ (.head _)).cell (i := 0) rfl
  have d0 := (hb.1 _ (.tail _ (.head _))).cell (i := 0) rfl
  clear hb hL hM hE
  go_enter Tryz.func152, Tryz.ntmps152
  go_upto_region 1 with fail
  rw [← hW, ← hQ]
  clear hW hQ
  go_wp2
  go_ret
  exact ⟨rfl, HQ.out⟩
theorem isTaken_any (nm : ByteArray) (Ps : List Par) (a : Option Addr) (cap : Nat) (hlen : Ps.length ≤ cap ∧ cap ≤ maxLen) (w : World) (hS : SegA Par.vs 8 w a Ps) :
    Calls Tryz.prog 105 #[.string nm, .slice a Ps.length cap] w fun e w' => e = .returned (.bool (Ps.any fun P => P.name.toList == nm.toList)) ∧ Keeps (fun _ => False) w w' := by
  obtain ⟨W, hW⟩ : ∃ W, W = w.alloc (.cells #[.string nm] 9) := ⟨_, rfl⟩
  obtain ⟨A, hA⟩ : ∃ A, A = w.heap.size := ⟨_, rfl⟩
  have hb : BI w [(A, [.string nm], 9)] W := by rw [hW, hA]; exact BI.box (fun b hb => by cases hb) _ _
  have HC : Hid (Calls Tryz.prog 151 #[.slice a Ps.length cap, .func (.func 152) #[] #[.pointer (some ⟨A, 0, none⟩)]] W fun e w' => e = .returned (.bool (Ps.any fun P => P.name.toList == nm.toList)) ∧ Keeps (fun _ => False) W w') := by
    refine containsFunc_par Ps a cap 152 _ (fun w' => Bls [(A, [.string nm], 9)] w' ∧ SegA Par.vs 8 w' a Ps) _ (fun args w => enter_fn Tryz.func152 rfl rfl args w) (fun w w' h k => ⟨h.1.kept k, h.2.kept k fun _ _ _ h => h⟩) (fun w h => h.2) hlen (fun r hr1 w' h => ?_) W ⟨hb.1, hS.kept hb.2 fun _ _ _ h => h⟩
    exact takenClo r nm A w' h.1
  have HK : Hid (Keeps (fun _ => False) w W) := hb.2
  obtain ⟨L, hL⟩ : ∃ L, Ps.length = L := ⟨_, rfl⟩
  obtain ⟨B, hB⟩ : ∃ B, (Ps.any fun P => P.name.toList == nm.toList) = B := ⟨_, rfl⟩
  rw [hL, hB] at HC
  rw [hL, hB]
  clear hL hB hb hS hlen
  go_enter Tryz.func105, Tryz.ntmps105
  go_upto_region 1 with fail
  rw [← hW, ← hA]
  clear hW hA
  go_wp2_with fail
  refine HC.out.mono ?_
  rintro e w1 ⟨rfl, hK⟩
  have HK1 : Hid (Keeps (fun _ => False) w w1) := HK.out.trans hK fun _ _ h => h
  clear hK HC
  go_wp2
  go_ret
  exact ⟨rfl, HK1.out⟩

theorem winClo (y : Win) (p : Int) (A : Nat) (w : World) (hE : Bls [(A, [.int .i64 p], 3)] w) : Calls Tryz.prog 180 #[y.v, .pointer (some ⟨A, 0, none⟩)] w fun e w' => e = .returned (.bool (y.p == p)) ∧ Keeps (fun _ => False) w w' := by
  obtain ⟨yp, yu, ys⟩ := y
  obtain ⟨W, hW⟩ : ∃ W, W = w.alloc (.cells #[.int .i64 yp, .int .i64 yu, .int .i64 ys] 94) := ⟨_, rfl⟩
  obtain ⟨Q, hQ⟩ : ∃ Q, Q = w.heap.size := ⟨_, rfl⟩
  have hb : BI w [(Q, [.int .i64 yp, .int .i64 yu, .int .i64 ys], 94), (A, [.int .i64 p], 3)] W := by rw [hW, hQ]; exact BI.box hE _ _
  have HQ : Hid (Keeps (fun _ => False) w W) := hb.2
  have c0 := (hb.1 _ (.head _)).cell (i := 0) rfl
  have d0 := (hb.1 _ (.tail _ (.head _))).cell (i := 0) rfl
  clear hb hE
  go_enter Tryz.func180, Tryz.ntmps180
  go_upto_region 1 with fail
  rw [← hW, ← hQ]
  clear hW hQ
  go_wp2
  go_ret
  exact ⟨rfl, HQ.out⟩
theorem coreClo (X : Core) (p : Int) (A : Nat) (hlen : X.ws.length ≤ X.c ∧ X.c ≤ maxLen) (w : World) (hE : Bls [(A, [.int .i64 p], 3)] w) (hS : SegA Win.vs 3 w X.a X.ws) :
    Calls Tryz.prog 178 #[X.v, .pointer (some ⟨A, 0, none⟩)] w fun e w' => e = .returned (.bool (X.ws.any fun y => y.p == p)) ∧ Keeps (fun _ => False) w w' := by
  have HC : Hid (Calls Tryz.prog 179 #[.slice X.a X.ws.length X.c, .func (.func 180) #[] #[.pointer (some ⟨A, 0, none⟩)]] w fun e w' => e = .returned (.bool (X.ws.any fun y => y.p == p)) ∧ Keeps (fun _ => False) w w') := by
    refine containsFunc_win X.ws X.a X.c 180 _ (fun w' => Bls [(A, [.int .i64 p], 3)] w' ∧ SegA Win.vs 3 w' X.a X.ws) _ (fun args w => enter_fn Tryz.func180 rfl rfl args w) (fun w w' h k => ⟨h.1.kept k, h.2.kept k fun _ _ _ h => h⟩) (fun w h => h.2) hlen (fun r hr1 w' h => ?_) w ⟨hE, hS⟩
    exact winClo r p A w' h.1
  obtain ⟨a, c, ws⟩ := X
  dsimp only [Core.v] at HC ⊢
  obtain ⟨L, hL⟩ : ∃ L, ws.length = L := ⟨_, rfl⟩
  obtain ⟨B, hB⟩ : ∃ B, (ws.any fun y => y.p == p) = B := ⟨_, rfl⟩
  rw [hL, hB] at HC
  rw [hL, hB]
  clear hL hB hS hlen hE
  go_enter Tryz.func178, Tryz.ntmps178
  go_wp2_with fail
  refine HC.out.mono ?_
  rintro e w1 ⟨rfl, hK⟩
  have HK1 : Hid (Keeps (fun _ => False) w w1) := hK
  clear hK HC
  go_wp2
  go_ret
  exact ⟨rfl, HK1.out⟩
/-- One of the cores has a window of this partition. -/
def hasW (p : Int) (cs : List Core) : Bool := if p = -1 then false else cs.any fun X => X.ws.any fun y => y.p == p
theorem hasWindow_any (p : Int) (cs : List Core) (a : Option Addr) (cap : Nat) (hlen : cs.length ≤ cap ∧ cap ≤ maxLen) (w : World) (hS : SegA Core.vs 1 w a cs) (hC : ∀ X ∈ cs, SegA Win.vs 3 w X.a X.ws ∧ X.ws.length ≤ X.c ∧ X.c ≤ maxLen) :
    Calls Tryz.prog 167 #[.slice a cs.length cap, .int .i64 p] w fun e w' => e = .returned (.bool (hasW p cs)) ∧ Keeps (fun _ => False) w w' := by
  obtain ⟨W, hW⟩ : ∃ W, W = w.alloc (.cells #[.int .i64 p] 3) := ⟨_, rfl⟩
  obtain ⟨A, hA⟩ : ∃ A, A = w.heap.size := ⟨_, rfl⟩
  have hb : BI w [(A, [.int .i64 p], 3)] W := by rw [hW, hA]; exact BI.box (fun b hb => by cases hb) _ _
  have HC : Hid (Calls Tryz.prog 177 #[.slice a cs.length cap, .func (.func 178) #[] #[.pointer (some ⟨A, 0, none⟩)]] W fun e w' => e = .returned (.bool (cs.any fun X => X.ws.any fun y => y.p == p)) ∧ Keeps (fun _ => False) W w') := by
    refine containsFunc_core cs a cap 178 _ (fun w' => Bls [(A, [.int .i64 p], 3)] w' ∧ SegA Core.vs 1 w' a cs ∧ ∀ X ∈ cs, SegA Win.vs 3 w' X.a X.ws) _ (fun args w => enter_fn Tryz.func178 rfl rfl args w) (fun w w' h k => ⟨h.1.kept k, h.2.1.kept k fun _ _ _ h => h, fun X hX => (h.2.2 X hX).kept k fun _ _ _ h => h⟩) (fun w h => h.2.1) hlen (fun X hX w' h => ?_) W ⟨hb.1, hS.kept hb.2 fun _ _ _ h => h, fun X hX => (hC X hX).1.kept hb.2 fun _ _ _ h => h⟩
    exact coreClo X p A (hC X hX).2 w' h.1 (h.2.2 X hX)
  have HK : Hid (Keeps (fun _ => False) w W) := hb.2
  have c0 := (hb.1 _ (.head _)).cell (i := 0) rfl
  obtain ⟨L, hL⟩ : ∃ L, cs.length = L := ⟨_, rfl⟩
  unfold hasW
  obtain ⟨B, hB⟩ : ∃ B, (cs.any fun X => X.ws.any fun y => y.p == p) = B := ⟨_, rfl⟩
  rw [hL, hB] at HC
  rw [hL, hB]
  clear hL hB hb hS hlen hC
  go_enter Tryz.func167, Tryz.ntmps167
  go_upto_region 1 with fail
  rw [← hW, ← hA]
  clear hW hA
  by_cases hp : p = -1
  · subst hp
    go_wp2
    go_ret
    exact ⟨rfl, HK.out⟩
  · have q1 : (p == -1) = false := by simpa using hp
    go_wp2_with fail
    refine HC.out.mono ?_
    rintro e w1 ⟨rfl, hK⟩
    have HK1 : Hid (Keeps (fun _ => False) w w1) := HK.out.trans hK fun _ _ h => h
    clear hK HC
    go_wp2
    go_ret
    exact ⟨rfl, HK1.out⟩
end Go.Proofs.YtfbapgcopidbpaaGreat
