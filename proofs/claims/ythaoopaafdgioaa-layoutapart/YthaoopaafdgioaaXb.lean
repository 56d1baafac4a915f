import Derived.Test.YthaoopaafdgioaaXa
import Derived.Test.YthaoopaafdgioaaP
import Derived.Handy
import Derived.Deep.RegionHeld3
import Derived.Deep.RegionHeld2
namespace Go.Proofs.Ythaoopaafdgioaa
open Go.RowKit
set_option linter.unusedVariables false
set_option linter.unusedSimpArgs false
set_option maxRecDepth 8000

/-- The memory has all of the kernel's words. -/
def Fit (x : Cfg) : Prop := x.mayB = true ∧ x.frames ≤ 1024 ∧ rtAt x (rtB x (16 * x.kernel)) x.ps.length / 16 ≤ x.frames
theorem Fit.end16 {x : Cfg} (h : Fit x) : rtAt x (rtB x (16 * x.kernel)) x.ps.length % 16 = 0 ∧ rtB x (16 * x.kernel) ≤ rtAt x (rtB x (16 * x.kernel)) x.ps.length ∧ rtAt x (rtB x (16 * x.kernel)) x.ps.length ≤ 16384 ∧ 0 ≤ 16 * x.kernel ∧ 16 * x.kernel ≤ 16384 := by
  have h1 := rt_ge x
  have h2 := rtAt_bd x (rtB x (16 * x.kernel)) x.ps.length
  have h3 := h.2
  have hk := Cfg.mayB_iff.1 h.1
  have h4 := h2.2.2 h1.2.2
  omega
theorem Fit.own {x : Cfg} (h : Fit x) {t : Int} (h1 : 16 * x.kernel ≤ t) (h2 : t < rtAt x (rtB x (16 * x.kernel)) x.ps.length) : ownA x t = (ownO x t, 0) := by
  have e := h.end16
  have h3 := h.2
  unfold ownA
  rw [if_neg (by rw [h.1]; decide), if_neg]
  have : isW x.frames t = true := isW_iff.2 (by omega)
  rw [this]; decide
theorem Fit.piece {x : Cfg} (h : Fit x) {p : Pc} (hp : p ∈ pcAll x (16 * x.kernel)) {t : Int} (h1 : p.pos ≤ t) (h2 : t < p.pos + p.size) : ownA x t = (p.ow, 0) ∧ 16 * x.kernel ≤ t ∧ t < 16384 := by
  have hh : ∀ e ∈ headH x, 0 ≤ e.2 := fun e he => (headH_ok h.1 e he).1
  have ht : ∀ e ∈ tabsH x x.ps.length, 0 ≤ e.2 := fun e he => (tabsH_ok x e he).1
  have e := h.end16
  have h5 := rt_ge x
  have h6 := szH_headH x (16 * x.kernel)
  have h7 := szH_tabsH (x := x) (rtB x (16 * x.kernel)) x.ps.length (Nat.le_refl _)
  have z1 := szH_nonneg _ hh
  have hb : 16 * x.kernel ≤ p.pos ∧ p.pos + p.size ≤ rtAt x (rtB x (16 * x.kernel)) x.ps.length := by
    rw [pcAll_eq] at hp
    rcases List.mem_append.1 hp with q | q
    · have := ann_mem hh q; omega
    · have := ann_mem ht q; omega
  rw [h.own (by omega) (by omega), own_piece h.1 hp h1 h2]
  exact ⟨rfl, by omega, by omega⟩

set_option maxHeartbeats 4000000 in
theorem owned_any (x : Cfg) (t K : Int) (k : Nat) (o : Ow) (hK0 : K = k) (h0 : -100000 ≤ t ∧ t ≤ 100000) (hk : k ≤ 100000) (h : ∀ i : Nat, i < k → ownA x (t + i) = (o, 0)) (w : World) (N : Nat) (hi : x.In w N) (hN : N ≤ w.heap.size) :
    Calls Try.prog 22 #[x.v, .int .i64 t, .int .i64 K, .agg #[.int .i64 o.kind, .int .i64 o.idx, .int .i64 o.port]] w fun e w' => e = .returned (.bool true) ∧ Keeps (fun _ => False) w w' := by
  subst hK0
  obtain ⟨W, hW⟩ : ∃ W, W = (x.laid w).alloc (.cells #[.int .i64 o.kind, .int .i64 o.idx, .int .i64 o.port] 40) := ⟨_, rfl⟩
  obtain ⟨C, hC⟩ : ∃ C, C = w.heap.size := ⟨_, rfl⟩
  have HO : Hid (One w x C N W ∧ Blk W (C + 1) [.int .i64 o.kind, .int .i64 o.idx, .int .i64 o.port] 40) := by
    rw [hW, hC]
    refine ⟨(One.mk' hi hN).kept ((Keeps.refl _ _).alloc _), ?_⟩
    have := Blk.new (x.laid w) #[.int .i64 o.kind, .int .i64 o.idx, .int .i64 o.port] 40
    simpa [Cfg.laid] using this
  have HA : Hid (∀ i : Nat, i < k → ownA x (t + i) = (o, 0)) := h
  obtain ⟨k1, k2, k3⟩ := o
  dsimp only at HO hW ⊢
  clear hi hN h
  unfold Cfg.laid at hW
  go_enter Try.func22, Try.ntmps22
  go_upto_region 1 with fail
  rw [← hW, ← hC]
  clear hW hC
  go_wp2
  go_loopw [13] (fun i wr => ∃ j : Nat, j ≤ k ∧ i = .int .i64 j ∧ Keeps (fun _ => False) W wr) (fun i _ => k - (intOf i).toNat)
  case atStart => exact ⟨0, by omega, rfl, Keeps.refl _ _⟩
  case round =>
    obtain ⟨j, hj, rfl, hK⟩ := hrel
    by_cases hlt : j < k
    · have hlt' : (j : Int) < k := by omega
      have hO := HO.out.1.kept hK
      obtain ⟨q0, q1, q2, q3, q4, q5, q6⟩ := hO.cells
      have HC := Owner_any x (t + j) (by unfold I64; omega) wr N hO.cin hO.nn
      rw [HA.out j hlt] at HC
      have HC : Hid (Calls Try.prog 14 #[x.v, .int .i64 (t + j)] wr fun e w' => e = .returned (.tuple #[.agg #[.int .i64 k1, .int .i64 k2, .int .i64 k3], .int .i64 0]) ∧ Keeps (fun _ => False) wr w') := HC
      have w1 : IntKind.i64.wrap (t + j) = t + j := by rw [IntKind.wrap_i64]; omega
      have HKr : Hid (Keeps (fun _ => False) W wr ∧ j < k) := ⟨hK, hlt⟩
      clear hO hK hj hlt
      go_wp2_with fail
      refine HC.out.mono ?_
      rintro e w2 ⟨rfl, hK2⟩
      obtain ⟨W3, hW3⟩ : ∃ W3, W3 = w2.alloc (.cells #[.int .i64 k1, .int .i64 k2, .int .i64 k3] 40) := ⟨_, rfl⟩
      obtain ⟨E, hE⟩ : ∃ E, E = w2.heap.size := ⟨_, rfl⟩
      have k3' : Keeps (fun _ => False) w2 W3 := by rw [hW3]; exact (Keeps.refl _ _).alloc _
      have hB3 : Blk W3 E [.int .i64 k1, .int .i64 k2, .int .i64 k3] 40 := by rw [hW3, hE]; exact Blk.new _ _ _
      have kk : Keeps (fun _ => False) W W3 := (HKr.out.1.trans hK2 fun _ _ e => e).trans k3' fun _ _ e => e
      have hB1 := HO.out.2.kept kk fun e => e
      have e0 := hB3.cell (i := 0) rfl
      have e1 := hB3.cell (i := 1) rfl
      have e2 := hB3.cell (i := 2) rfl
      have f0 := hB1.cell (i := 0) rfl
      have f1 := hB1.cell (i := 1) rfl
      have f2 := hB1.cell (i := 2) rfl
      have HKK : Hid (Keeps (fun _ => False) W W3) := kk
      clear hK2 k3' hB3 kk hB1 q0 q1 q2 q3 q4 q5 q6 HC
      go_upto_region 5 with fail
      rw [← hW3, ← hE]
      clear hW3 hE w1
      go_wp2
      go_roundw
      case rel => exact ⟨j + 1, by have := HKr.out.2; omega, by go_num, HKK.out⟩
      case measure => have := HKr.out.2; simp [intOf]; omega
    · obtain rfl : k = j := by omega
      have HK : Hid (Keeps (fun _ => False) w wr) := HO.out.1.keeps.trans hK fun _ _ e => e
      clear hK
      go_wp2
      go_ret
      exact ⟨rfl, HK.out⟩

set_option maxHeartbeats 4000000 in
theorem ownedPartition_any (x : Cfg) (hf : Fit x) (i : Nat) (P : Par) (hP : x.ps[i]? = some P) (LK SV SU RT : Int) (e1 : LK = 16 * x.kernel + 2 + 24 * i) (e2 : SV = 16 * x.kernel + 2 + 24 * i + 2) (e3 : SU = 16 * x.kernel + 2 + 24 * i + 2 + 17) (e4 : RT = rtAt x (rtB x (16 * x.kernel)) i / 16)
    (ad : Option Addr) (cp TL : Nat) (T : List Int) (hT : T = tabL (rtAt x (rtB x (16 * x.kernel)) i) (cntT P.rs 16)) (hTL : TL = T.length) (w : World) (N : Nat) (hi : x.In w N) (hN : N ≤ w.heap.size) (hl : Lst eInt w 0 ad cp T) :
    Calls Try.prog 23 #[x.v, .agg #[.int .i64 LK, .int .i64 SV, .int .i64 SU, .int .i64 RT, .slice ad TL cp], .int .i64 i] w fun e w' => e = .returned (.bool true) ∧ Keeps (fun _ => False) w w' := by
  obtain ⟨W, hW⟩ : ∃ W, W = (x.laid w).alloc (.cells #[.int .i64 LK, .int .i64 SV, .int .i64 SU, .int .i64 RT, .slice ad TL cp] 55) := ⟨_, rfl⟩
  obtain ⟨C, hC⟩ : ∃ C, C = w.heap.size := ⟨_, rfl⟩
  have HO : Hid (One w x C N W ∧ Blk W (C + 1) [.int .i64 LK, .int .i64 SV, .int .i64 SU, .int .i64 RT, .slice ad TL cp] 55) := by
    rw [hW, hC]
    refine ⟨(One.mk' hi hN).kept ((Keeps.refl _ _).alloc _), ?_⟩
    have := Blk.new (x.laid w) #[.int .i64 LK, .int .i64 SV, .int .i64 SU, .int .i64 RT, .slice ad TL cp] 55
    simpa [Cfg.laid] using this
  have hil : i < x.ps.length := (List.getElem?_eq_some_iff.1 hP).1
  have hkb := Cfg.mayB_iff.1 hf.1
  have hpt := mem_partH (16 * x.kernel + 2) hil
  have hall : ∀ p, (p ∈ ann (16 * x.kernel + 2) (partH x.ps.length) ∨ p ∈ ann (rtB x (16 * x.kernel)) (tabsH x x.ps.length)) → p ∈ pcAll x (16 * x.kernel) := fun p hp => by
    rw [pcAll_eq, head_app]
    rcases hp with q | q
    · exact List.mem_append_left _ (List.mem_cons_of_mem _ (List.mem_append_left _ q))
    · exact List.mem_append_right _ q
  have hb := rtAt_bd x (rtB x (16 * x.kernel)) i
  have hrg := rt_ge x
  have hce := chAt_bd hf.1 (chB x (16 * x.kernel)) x.hs.length
  have hcB : chB x (16 * x.kernel) = 16 * x.kernel + 2 + 24 * x.ps.length := rfl
  have hcE : chE x (16 * x.kernel) = chAt x (chB x (16 * x.kernel)) x.hs.length := rfl
  have hr16 := hb.2.2 hrg.2.2
  have HOW : Hid (∀ w', Keeps (fun _ => False) W w' → (Calls Try.prog 22 #[x.v, .int .i64 LK, .int .i64 2, .agg #[.int .i64 3, .int .i64 i, .int .i64 0]] w' fun e w'' => e = .returned (.bool true) ∧ Keeps (fun _ => False) w' w'') ∧
      (Calls Try.prog 22 #[x.v, .int .i64 SV, .int .i64 17, .agg #[.int .i64 4, .int .i64 i, .int .i64 0]] w' fun e w'' => e = .returned (.bool true) ∧ Keeps (fun _ => False) w' w'') ∧
      (Calls Try.prog 22 #[x.v, .int .i64 SU, .int .i64 5, .agg #[.int .i64 5, .int .i64 i, .int .i64 0]] w' fun e w'' => e = .returned (.bool true) ∧ Keeps (fun _ => False) w' w'') ∧
      (∀ k : Nat, k < 1 + cntT P.rs 16 → Calls Try.prog 22 #[x.v, .int .i64 (rtAt x (rtB x (16 * x.kernel)) i + 16 * k), .int .i64 16, .agg #[.int .i64 9, .int .i64 i, .int .i64 0]] w' fun e w'' => e = .returned (.bool true) ∧ Keeps (fun _ => False) w' w'')) := fun w' hK => by
    have hO := HO.out.1.kept hK
    have hcn := cntT_le P.rs 16
    refine ⟨owned_any x LK 2 2 ⟨3, i, 0⟩ rfl (by omega) (by omega) (fun j hj => (hf.piece (hall _ (.inl hpt.1)) (by dsimp only; omega) (by dsimp only; omega)).1) w' N hO.cin hO.nn,
      owned_any x SV 17 17 ⟨4, i, 0⟩ rfl (by omega) (by omega) (fun j hj => (hf.piece (hall _ (.inl hpt.2.1)) (by dsimp only; omega) (by dsimp only; omega)).1) w' N hO.cin hO.nn,
      owned_any x SU 5 5 ⟨5, i, 0⟩ rfl (by omega) (by omega) (fun j hj => (hf.piece (hall _ (.inl hpt.2.2)) (by dsimp only; omega) (by dsimp only; omega)).1) w' N hO.cin hO.nn,
      fun k hk => owned_any x _ 16 16 ⟨9, i, 0⟩ rfl (by omega) (by omega) (fun j hj => (hf.piece (hall _ (.inr (mem_tabsH _ hil (Nat.le_refl _) hP hk))) (by dsimp only; omega) (by dsimp only; omega)).1) w' N hO.cin hO.nn⟩
  have hTl : T.length = cntT P.rs 16 := by rw [hT]; simp [tabL]
  have HTB : Hid (∀ (k : Nat) (y : Int), T[k]? = some y → 16 * y = rtAt x (rtB x (16 * x.kernel)) i + 16 * ((k + 1 : Nat) : Int) ∧ k + 1 < 1 + cntT P.rs 16 ∧ 0 ≤ y ∧ y ≤ 100000) := fun k y hy => by
    have hk : k < T.length := (List.getElem?_eq_some_iff.1 hy).1
    have hcn := cntT_le P.rs 16
    rw [hT] at hy
    unfold tabL at hy
    rw [List.getElem?_map, List.getElem?_range (by omega)] at hy
    simp only [Option.map_some, Option.some.injEq] at hy
    omega
  obtain ⟨R0, hR0⟩ : ∃ R0, rtAt x (rtB x (16 * x.kernel)) i = R0 := ⟨_, rfl⟩
  rw [hR0] at HOW HTB e4 hr16 hb
  have wr0 : IntKind.i64.wrap (16 * RT) = R0 := by rw [IntKind.wrap_i64, e4]; omega
  have HL : Hid (Lst eInt W 0 ad cp T ∧ TL = T.length) := ⟨hl.kept (show Keeps (fun _ => False) w W by rw [hW]; exact ((Keeps.refl _ _).alloc _).alloc _) fun _ h => h.elim, hTL⟩
  have htc : (TL : Int) ≤ cp ∧ (cp : Int) ≤ 9223372036854775807 := by have := hl.len; unfold maxLen at this; omega
  clear hi hN hl hP hil hkb hpt hall hb hrg hce hcB hcE hr16 e1 e2 e3 e4 hT hTL hTl hR0 hf
  unfold Cfg.laid at hW
  go_enter Try.func23, Try.ntmps23
  go_upto_region 1 with fail
  rw [← hW, ← hC]
  clear hW hC
  have HCL : Hid (∀ w', Keeps (fun _ => False) W w' → One w x C N w' ∧ Blk w' (C + 1) [.int .i64 LK, .int .i64 SV, .int .i64 SU, .int .i64 RT, .slice ad TL cp] 55) := fun w' hK => ⟨HO.out.1.kept hK, HO.out.2.kept hK fun e => e⟩
  obtain ⟨hO, hB⟩ := HCL.out W (Keeps.refl _ _)
  obtain ⟨q0, q1, q2, q3, q4, q5, q6⟩ := hO.cells
  have p0 := hB.cell (i := 0) rfl
  have p1 := hB.cell (i := 1) rfl
  have p2 := hB.cell (i := 2) rfl
  have p3 := hB.cell (i := 3) rfl
  have HX : Hid (Calls _ _ _ _ _) := (HOW.out W (Keeps.refl _ _)).1
  clear hO hB
  go_wp2_with fail
  refine HX.out.mono ?_
  rintro e w9 ⟨rfl, hK9⟩
  have HK9 : Hid (Keeps (fun _ => False) W w9) := hK9
  clear hK9 HX q0 q1 q2 q3 q4 q5 q6 p0 p1 p2 p3
  have HK := HK9
  clear HK9
  obtain ⟨wz, hwz⟩ : ∃ wz, wz = w9 := ⟨_, rfl⟩
  subst hwz
  obtain ⟨hO, hB⟩ := HCL.out wz HK.out
  obtain ⟨q0, q1, q2, q3, q4, q5, q6⟩ := hO.cells
  have p0 := hB.cell (i := 0) rfl
  have p1 := hB.cell (i := 1) rfl
  have p2 := hB.cell (i := 2) rfl
  have p3 := hB.cell (i := 3) rfl
  have HX : Hid (Calls _ _ _ _ _) := (HOW.out wz HK.out).2.1
  clear hO hB
  go_wp2_with fail
  refine HX.out.mono ?_
  rintro e w9 ⟨rfl, hK9⟩
  have HK9 : Hid (Keeps (fun _ => False) W w9) := HK.out.trans hK9 fun _ _ e => e
  clear hK9 HX q0 q1 q2 q3 q4 q5 q6 p0 p1 p2 p3
  clear HK
  have HK := HK9
  clear HK9
  obtain ⟨wz, hwz⟩ : ∃ wz, wz = w9 := ⟨_, rfl⟩
  subst hwz
  obtain ⟨hO, hB⟩ := HCL.out wz HK.out
  obtain ⟨q0, q1, q2, q3, q4, q5, q6⟩ := hO.cells
  have p0 := hB.cell (i := 0) rfl
  have p1 := hB.cell (i := 1) rfl
  have p2 := hB.cell (i := 2) rfl
  have p3 := hB.cell (i := 3) rfl
  have HX : Hid (Calls _ _ _ _ _) := (HOW.out wz HK.out).2.2.1
  clear hO hB
  go_wp2_with fail
  refine HX.out.mono ?_
  rintro e w9 ⟨rfl, hK9⟩
  have HK9 : Hid (Keeps (fun _ => False) W w9) := HK.out.trans hK9 fun _ _ e => e
  clear hK9 HX q0 q1 q2 q3 q4 q5 q6 p0 p1 p2 p3
  clear HK
  have HK := HK9
  clear HK9
  obtain ⟨wz, hwz⟩ : ∃ wz, wz = w9 := ⟨_, rfl⟩
  subst hwz
  obtain ⟨hO, hB⟩ := HCL.out wz HK.out
  obtain ⟨q0, q1, q2, q3, q4, q5, q6⟩ := hO.cells
  have p0 := hB.cell (i := 0) rfl
  have p1 := hB.cell (i := 1) rfl
  have p2 := hB.cell (i := 2) rfl
  have p3 := hB.cell (i := 3) rfl
  have HX : Hid (Calls Try.prog 22 #[x.v, .int .i64 R0, .int .i64 16, .agg #[.int .i64 9, .int .i64 i, .int .i64 0]] wz fun e w'' => e = .returned (.bool true) ∧ Keeps (fun _ => False) wz w'') := by have := (HOW.out wz HK.out).2.2.2 0 (by omega); rw [show R0 + 16 * ((0 : Nat) : Int) = R0 by omega] at this; exact this
  clear hO hB
  go_wp2_with fail
  refine HX.out.mono ?_
  rintro e w9 ⟨rfl, hK9⟩
  have HK9 : Hid (Keeps (fun _ => False) W w9) := HK.out.trans hK9 fun _ _ e => e
  clear hK9 HX q0 q1 q2 q3 q4 q5 q6 p0 p1 p2 p3
  clear HK
  have HK := HK9
  clear HK9
  obtain ⟨wz, hwz⟩ : ∃ wz, wz = w9 := ⟨_, rfl⟩
  subst hwz
  obtain ⟨_, hB⟩ := HCL.out wz HK.out
  have p4 := hB.cell (i := 4) rfl
  clear hB
  go_wp2
  clear p4
  go_loopw [44] (fun i wr => ∃ j : Nat, j ≤ TL ∧ i = .int .i64 j ∧ Keeps (fun _ => False) W wr) (fun i _ => TL - (intOf i).toNat)
  case atStart => exact ⟨0, by omega, rfl, HK.out⟩
  case round =>
    obtain ⟨k, hk, rfl, hKr⟩ := hrel
    by_cases hlt : k < TL
    · have hlt' : (k : Int) < TL := by omega
      obtain ⟨y, hy⟩ : ∃ y, T[k]? = some y := ⟨_, List.getElem?_eq_getElem (by have := HL.out.2; omega)⟩
      obtain ⟨y1, y2, y3, y4⟩ := HTB.out k y hy
      obtain ⟨g, o, hgo, _⟩ := HL.out.1.seg.at hy
      subst hgo
      obtain ⟨Y, hY⟩ : ∃ Y, R0 + 16 * ((k + 1 : Nat) : Int) = Y := ⟨_, rfl⟩
      have w1 : IntKind.i64.wrap (16 * y) = Y := by rw [IntKind.wrap_i64]; omega
      have HOT : Hid (∀ w', Keeps (fun _ => False) W w' → Calls Try.prog 22 #[x.v, .int .i64 Y, .int .i64 16, .agg #[.int .i64 9, .int .i64 i, .int .i64 0]] w' fun e w'' => e = .returned (.bool true) ∧ Keeps (fun _ => False) w' w'') := fun w' hK => by rw [← hY]; exact (HOW.out w' hK).2.2.2 (k + 1) y2
      have HS : Hid (∀ w', Keeps (fun _ => False) W w' → (w'.cell? ⟨C, 0, none⟩ = some (.int .i64 x.frames) ∧ w'.cell? ⟨C, 1, none⟩ = some (.int .i64 x.major) ∧ w'.cell? ⟨C, 2, none⟩ = some (.int .i64 x.kernel) ∧ w'.cell? ⟨C, 3, none⟩ = some (.int .i64 x.room) ∧ w'.cell? ⟨C, 4, none⟩ = some (.slice x.ca x.cs.length x.cc) ∧ w'.cell? ⟨C, 5, none⟩ = some (.slice x.pa x.ps.length x.pc) ∧ w'.cell? ⟨C, 6, none⟩ = some (.slice x.ha x.hs.length x.hc)) ∧ w'.cell? ⟨C + 1, 4, none⟩ = some (.slice (some ⟨g, o, none⟩) TL cp) ∧ w'.cell? ⟨g, o + k, none⟩ = some (.int .i64 y)) := fun w' hK => by
        obtain ⟨hO, hB⟩ := HCL.out w' hK
        obtain ⟨g2, o2, e9, hg2⟩ := (HL.out.1.kept hK fun _ h => h.elim).seg.at hy
        cases e9
        have t1 := hg2 0 _ rfl
        simp only [eInt, Nat.mul_one, Nat.add_zero] at t1
        exact ⟨hO.cells, hB.cell (i := 4) rfl, t1⟩
      have HKo := HK
      have HKT : Hid (k < TL) := hlt
      clear HK hy y1 y2 y3 y4 hY hk hlt
      have HK : Hid (Keeps (fun _ => False) W wr) := hKr
      clear hKr
      go_wp2
      refine wp_region_held_drew (S := (fun w' => (w'.cell? ⟨C, 0, none⟩ = some (.int .i64 x.frames) ∧ w'.cell? ⟨C, 1, none⟩ = some (.int .i64 x.major) ∧ w'.cell? ⟨C, 2, none⟩ = some (.int .i64 x.kernel) ∧ w'.cell? ⟨C, 3, none⟩ = some (.int .i64 x.room) ∧ w'.cell? ⟨C, 4, none⟩ = some (.slice x.ca x.cs.length x.cc) ∧ w'.cell? ⟨C, 5, none⟩ = some (.slice x.pa x.ps.length x.pc) ∧ w'.cell? ⟨C, 6, none⟩ = some (.slice x.ha x.hs.length x.hc)) ∧ w'.cell? ⟨C + 1, 4, none⟩ = some (.slice (some ⟨g, o, none⟩) TL cp) ∧ w'.cell? ⟨g, o + k, none⟩ = some (.int .i64 y))) Try.mixed (HS.out _ HK.out.drew) (fun hHeld => ?_)
      simp only [List.size_toArray, List.length_cons, List.length_nil, Nat.reduceAdd, Array.replicate_succ, Array.replicate_zero, List.push_toArray, List.append_toArray, List.nil_append, List.cons_append]
      refine wpAnyH_take (i := 0) (oi := { dst := some 47, op := Op.load 26 (Operand.tmp 3), type := 26, pos := "law.go:122", after := #[], guard := none }) (v := .agg #[.int .i64 x.frames, .int .i64 x.major, .int .i64 x.kernel, .int .i64 x.room, .slice x.ca x.cs.length x.cc, .slice x.pa x.ps.length x.pc, .slice x.ha x.hs.length x.hc]) rfl (by kernel_rfl) (by kernel_rfl) (by kernel_rfl) (fun _ _ _ h => h) (Or.inl ⟨by kernel_rfl, by (intro w hSw; (try dsimp only at hSw); obtain ⟨⟨s0, s1, s2, s3, s4, s5, s6⟩, hSw1, hSw2⟩ := hSw; go_simp; try omega)⟩) hHeld ?_
      simp only [Act.put, List.setIfInBounds_toArray, List.set_cons_zero, List.set_cons_succ]
      refine wpAnyH_take (i := 1) (oi := { dst := some 48, op := Op.fieldAddr 55 (Operand.tmp 4) 4, type := 0, pos := "law.go:122", after := #[], guard := none }) (v := .pointer (some ⟨C + 1, 4, none⟩)) rfl (by kernel_rfl) (by kernel_rfl) (by kernel_rfl) (fun _ _ _ h => h) (Or.inl ⟨by kernel_rfl, by (intro w hSw; (try dsimp only at hSw); go_simp; try omega)⟩) hHeld ?_
      simp only [Act.put, List.setIfInBounds_toArray, List.set_cons_zero, List.set_cons_succ]
      refine wpAnyH_take (i := 2) (oi := { dst := some 49, op := Op.load 38 (Operand.tmp 48), type := 38, pos := "law.go:122", after := #[{ on := 1, ground := Ground.data }], guard := none }) (v := .slice (some ⟨g, o, none⟩) TL cp) rfl (by kernel_rfl) (by kernel_rfl) (by kernel_rfl) (fun _ _ _ h => h) (Or.inl ⟨by kernel_rfl, by (intro w hSw; (try dsimp only at hSw); obtain ⟨⟨s0, s1, s2, s3, s4, s5, s6⟩, hSw1, hSw2⟩ := hSw; go_simp; try omega)⟩) hHeld ?_
      simp only [Act.put, List.setIfInBounds_toArray, List.set_cons_zero, List.set_cons_succ]
      refine wpAnyH_take (i := 3) (oi := { dst := some 50, op := Op.move (Operand.tmp 7), type := 3, pos := "law.go:122", after := #[], guard := none }) (v := .int .i64 (k : Int)) rfl (by kernel_rfl) (by kernel_rfl) (by kernel_rfl) (fun _ _ _ h => h) (Or.inl ⟨by kernel_rfl, by (intro w hSw; (try dsimp only at hSw); go_simp; try omega)⟩) hHeld ?_
      simp only [Act.put, List.setIfInBounds_toArray, List.set_cons_zero, List.set_cons_succ]
      refine wpAnyH_take (i := 4) (oi := { dst := some 51, op := Op.indexAddr 38 (Operand.tmp 49) (Operand.tmp 50), type := 0, pos := "law.go:122", after := #[{ on := 2, ground := Ground.data }, { on := 3, ground := Ground.data }], guard := none }) (v := .pointer (some ⟨g, o + k, none⟩)) rfl (by kernel_rfl) (by kernel_rfl) (by kernel_rfl) (fun _ _ _ h => h) (Or.inl ⟨by kernel_rfl, by (intro w hSw; (try dsimp only at hSw); go_simp; try omega)⟩) hHeld ?_
      simp only [Act.put, List.setIfInBounds_toArray, List.set_cons_zero, List.set_cons_succ]
      refine wpAnyH_take (i := 5) (oi := { dst := some 52, op := Op.load 3 (Operand.tmp 51), type := 3, pos := "law.go:122", after := #[{ on := 4, ground := Ground.data }], guard := none }) (v := .int .i64 y) rfl (by kernel_rfl) (by kernel_rfl) (by kernel_rfl) (fun _ _ _ h => h) (Or.inl ⟨by kernel_rfl, by (intro w hSw; (try dsimp only at hSw); obtain ⟨⟨s0, s1, s2, s3, s4, s5, s6⟩, hSw1, hSw2⟩ := hSw; go_simp; try omega)⟩) hHeld ?_
      simp only [Act.put, List.setIfInBounds_toArray, List.set_cons_zero, List.set_cons_succ]
      refine wpAnyH_take (i := 6) (oi := { dst := some 53, op := Op.binOp BinOp.mul 3 (Operand.const (Value.int IntKind.i64 16)) (Operand.tmp 52) 3, type := 3, pos := "law.go:122", after := #[{ on := 5, ground := Ground.data }], guard := none }) (v := .int .i64 Y) rfl (by kernel_rfl) (by kernel_rfl) (by kernel_rfl) (fun _ _ _ h => h) (Or.inl ⟨by kernel_rfl, by (intro w hSw; (try dsimp only at hSw); go_simp; try omega)⟩) hHeld ?_
      simp only [Act.put, List.setIfInBounds_toArray, List.set_cons_zero, List.set_cons_succ]
      refine wpAnyH_take (i := 7) (oi := { dst := some 54, op := Op.move (Operand.tmp 2), type := 3, pos := "law.go:122", after := #[], guard := none }) (v := .int .i64 (i : Int)) rfl (by kernel_rfl) (by kernel_rfl) (by kernel_rfl) (fun _ _ _ h => h) (Or.inl ⟨by kernel_rfl, by (intro w hSw; (try dsimp only at hSw); go_simp; try omega)⟩) hHeld ?_
      simp only [Act.put, List.setIfInBounds_toArray, List.set_cons_zero, List.set_cons_succ]
      refine wpAnyH_take (i := 8) (oi := { dst := some 55, op := Op.build 40 #[(0, Operand.const (Value.int IntKind.i64 9)), (1, Operand.tmp 54)], type := 40, pos := "law.go:122", after := #[{ on := 7, ground := Ground.data }], guard := none }) (v := .agg #[.int .i64 9, .int .i64 (i : Int), .int .i64 0]) rfl (by kernel_rfl) (by kernel_rfl) (by kernel_rfl) (fun _ _ _ h => h) (Or.inl ⟨by kernel_rfl, by (intro w hSw; (try dsimp only at hSw); go_simp; try omega)⟩) hHeld ?_
      simp only [Act.put, List.setIfInBounds_toArray, List.set_cons_zero, List.set_cons_succ]
      refine wpAnyH_ready (rs := [9]) (by kernel_rfl) (by simp) ?_
      refine AllReadyH.cons (o := { dst := some 56, op := Op.call { callee := Callee.value (Operand.func 22), args := #[Operand.tmp 47, Operand.tmp 53, Operand.const (Value.int IntKind.i64 16), Operand.tmp 55], argTypes := #[26, 3, 3, 40] }, type := 4, pos := "law.go:122", after := #[{ on := 0, ground := Ground.data }, { on := 6, ground := Ground.data }, { on := 8, ground := Ground.data }], guard := none }) rfl (fun Kq hK => ?_) AllReadyH.nil
      go_simp
      refine (HOT.out _ HK.out.drew).mono ?_
      rintro e w5 ⟨rfl, hk5⟩
      have hk6 := HK.out.drew.trans hk5 fun _ _ e => e
      refine hK.out _ _ (HS.out _ hk6) (fun hHeld => ?_)
      simp only [Act.put, List.setIfInBounds_toArray, List.set_cons_zero, List.set_cons_succ]
      refine wpAnyH_take (i := 10) (oi := { dst := some 57, op := Op.unOp UnOp.not 4 (Operand.tmp 56), type := 4, pos := "law.go:122", after := #[{ on := 9, ground := Ground.data }], guard := none }) (v := .bool false) rfl (by kernel_rfl) (by kernel_rfl) (by kernel_rfl) (fun _ _ _ h => h) (Or.inl ⟨by kernel_rfl, by (intro w hSw; (try dsimp only at hSw); go_simp; try omega)⟩) hHeld ?_
      simp only [Act.put, List.setIfInBounds_toArray, List.set_cons_zero, List.set_cons_succ]
      refine wpAnyH_done (by kernel_rfl) ?_ _
      clear hHeld
      have HKF : Hid (Keeps (fun _ => False) W w5) := hk6
      clear hk5 hk6
      go_wp2
      go_roundw
      case rel => exact ⟨k + 1, by have := HKT.out; omega, by go_num, HKF.out⟩
      case measure => have := HKT.out; simp [intOf]; omega
    · obtain rfl : TL = k := by omega
      have HKF : Hid (Keeps (fun _ => False) w wr) := HO.out.1.keeps.trans hKr fun _ _ e => e
      clear hKr
      go_wp2
      go_ret
      exact ⟨rfl, HKF.out⟩

end Go.Proofs.Ythaoopaafdgioaa
