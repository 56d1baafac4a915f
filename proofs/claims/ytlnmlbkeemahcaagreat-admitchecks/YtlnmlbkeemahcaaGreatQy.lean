import Derived.Test.YtlnmlbkeemahcaaGreatQw
import Derived.Test.YtlnmlbkeemahcaaGreatP
namespace Go.Proofs.YtlnmlbkeemahcaaGreat
open Go.RowKit
set_option linter.unusedVariables false
set_option linter.unusedSimpArgs false
set_option maxRecDepth 6000
def Cfg.endW (x : Cfg) : Int := rtAt x (rtB x (16 * x.kernel)) x.ps.length / 16
theorem Cfg.endW_bd {x : Cfg} (hm : x.mayB = true) : x.kernel ≤ x.endW ∧ x.endW ≤ 10000000 ∧ 0 ≤ x.kernel ∧ x.kernel < 1024 := by
 have h1 := Cfg.mayB_iff.1 hm
 have h2 := rtAt_bd x (rtB x (16 * x.kernel)) x.ps.length
 have h3 := chAt_bd hm (chB x (16 * x.kernel)) x.hs.length
 have h4 : 0 ≤ fillN (chE x (16 * x.kernel)) ∧ fillN (chE x (16 * x.kernel)) ≤ 16 := by unfold fillN; split <;> omega
 unfold Cfg.endW
 have h5 : rtB x (16 * x.kernel) = chAt x (chB x (16 * x.kernel)) x.hs.length + fillN (chE x (16 * x.kernel)) := rfl
 have h6 : chB x (16 * x.kernel) = 16 * x.kernel + 2 + 24 * (x.ps.length : Int) := rfl
 have h7 := h1.1
 have h8 := h1.2.1
 have h9 := h1.2.2.1
 have h10 := h1.2.2.2.1
 omega
def NeedP (x : Cfg) (w : World) (e : Ending) (w' : World) : Prop :=
 KF w w' ∧ ((x.mayB = false ∧ e = .returned (.tuple #[.int .i64 0, .int .i64 150])) ∨ (x.mayB = true ∧ e = .returned (.tuple #[.int .i64 (x.endW - x.kernel), .int .i64 0])))
set_option maxHeartbeats 4000000 in
theorem Need_any (x : Cfg) (w : World) (N : Nat) (hi : x.In w N) (hN : N ≤ w.heap.size) : Calls Tryz.prog 86 #[x.v] w (NeedP x w) := by
 have HO1 := One.mk' hi hN
 obtain ⟨W, hW⟩ : ∃ W, W = x.laid w := ⟨_, rfl⟩
 obtain ⟨C, hC⟩ : ∃ C, C = w.heap.size := ⟨_, rfl⟩
 rw [← hW, ← hC] at HO1
 have HO : Hid (One w x C N W) := HO1
 have HC : Hid (Calls Tryz.prog 109 #[x.v] W (OfP x W)) := Of_any x W N HO1.cin HO1.nn
 obtain ⟨q0, q1, q2, q3, q4, q5, q6⟩ := HO1.cells
 unfold Cfg.laid at hW
 clear hi hN HO1
 go_enter Tryz.func86, Tryz.ntmps86
 go_upto_region 1 with fail
 rw [← hW, ← hC]
 clear hW hC
 go_wp2_with fail
 refine HC.out.mono ?_
 rintro e w1 ⟨hK, h | ⟨hm, b1, b2, F, G, T, D, rfl, _⟩⟩
 ·
  obtain ⟨hm, rfl⟩ := h
  have HO2 : Hid (One w x C N w1) := HO.out.kept hK
  have HM : Hid (x.mayB = false) := hm
  clear hK hm HC q0 q1 q2 q3 q4 q5 q6
  go_wp2
  go_ret2
  exact ⟨HO2.out.keeps.trans ((Keeps.refl (fun _ => False) _).alloc _) fun _ _ h => h, .inl ⟨HM.out, rfl⟩⟩
 ·
  have HO2 : Hid (One w x C N w1) := HO.out.kept hK
  have HM : Hid (x.mayB = true) := hm
  have hb := Cfg.endW_bd hm
  change x.kernel ≤ x.endW ∧ _ at hb
  rw [show rtAt x (rtB x (16 * x.kernel)) x.ps.length / 16 = x.endW from rfl]
  obtain ⟨EN, hEN⟩ : ∃ EN, x.endW = EN := ⟨_, rfl⟩
  have HEN : Hid (x.endW = EN) := hEN
  rw [hEN] at hb ⊢
  clear hEN
  obtain ⟨W2, hW2⟩ : ∃ W2, W2 = w1.alloc (.cells #[.int .i64 (16 * x.kernel), .slice (some ⟨b1, 0, none⟩) x.ps.length x.ps.length, .slice (some ⟨b2, 0, none⟩) x.hs.length x.hs.length, .int .i64 EN] 92) := ⟨_, rfl⟩
  obtain ⟨Q, hQ⟩ : ∃ Q, Q = w1.heap.size := ⟨_, rfl⟩
  have hB : Blk W2 Q [.int .i64 (16 * x.kernel), .slice (some ⟨b1, 0, none⟩) x.ps.length x.ps.length, .slice (some ⟨b2, 0, none⟩) x.hs.length x.hs.length, .int .i64 EN] 92 := by rw [hW2, hQ]; exact Blk.new _ _ _
  have d3 := hB.cell (i := 3) rfl
  have HO3 : Hid (One w x C N W2) := by rw [hW2]; exact HO2.out.kept ((Keeps.refl _ _).alloc _)
  have k2 := HO3.out.cfg.cell (i := 2) rfl
  have q9 : IntKind.i64.wrap (EN - x.kernel) = EN - x.kernel := by rw [IntKind.wrap_i64]; omega
  clear hK hm HC q0 q1 q2 q3 q4 q5 q6 hB
  go_upto_region 2 with fail
  rw [← hW2, ← hQ]
  clear hW2 hQ
  go_wp2
  go_ret2
  exact ⟨HO3.out.keeps, .inr ⟨HM.out, by rw [HEN.out]; rfl⟩⟩
def Cfg.hitB (x : Cfg) : Bool := x.ps.any fun P => P.rs.any fun s => s.fr.meets ⟨x.kernel, x.room⟩
def Cfg.fitB (x : Cfg) : Bool := x.mayB && decide (x.endW - x.kernel ≤ x.room)
def Cfg.kerB (x : Cfg) : Bool := inR x.kernel 0 (x.frames - 1) && (inR x.room 1 (x.frames - x.kernel) && (!x.hitB && x.fitB))
structure HkI (w : World) (x : Cfg) (C A N : Nat) (w' : World) : Prop where
 one : One w x C N w'
 ar : Blk w' A [.int .i64 x.kernel, .int .i64 x.room] 102
theorem HkI.kept {w : World} {x : Cfg} {C A N : Nat} {w' w'' : World} (h : HkI w x C A N w') (hK : KF w' w'') : HkI w x C A N w'' := ⟨h.one.kept hK, h.ar.kept hK fun h => h⟩
set_option maxHeartbeats 8000000 in
theorem hasKernel_any (x : Cfg) (w : World) (N : Nat) (hi : x.In w N) (hN : N ≤ w.heap.size) (h1 : 1 ≤ x.frames) (h2 : x.frames ≤ 1024) (hrs : ∀ P ∈ x.ps, ∀ r ∈ P.rs, r.okB x.frames = true) :
  Calls Tryz.prog 52 #[x.v] w fun e w' => e = .returned (.bool x.kerB) ∧ KF w w' := by
 have HO1 := One.mk' hi hN
 obtain ⟨W, hW⟩ : ∃ W, W = x.laid w := ⟨_, rfl⟩
 obtain ⟨C, hC⟩ : ∃ C, C = w.heap.size := ⟨_, rfl⟩
 rw [← hW, ← hC] at HO1
 have HO : Hid (One w x C N W) := HO1
 obtain ⟨q0, q1, q2, q3, q4, q5, q6⟩ := HO1.cells
 have HR : Hid (∀ P ∈ x.ps, ∀ r ∈ P.rs, r.okB x.frames = true) := hrs
 have HP : Hid (x.ps.length ≤ x.pc ∧ x.pc ≤ maxLen) := hi.plen
 obtain ⟨V, hV⟩ : ∃ V, x.kerB = V := ⟨_, rfl⟩
 have HV : Hid (x.kerB = V) := hV
 have HWn : Hid (∀ n a b w, Calls Tryz.prog 36 #[.int .i64 n, .int .i64 a, .int .i64 b] w fun e w' => e = .returned (.bool (inR n a b)) ∧ w' = w) := within_any
 rw [hV]
 have qf : IntKind.i64.wrap (x.frames - 1) = x.frames - 1 := by rw [IntKind.wrap_i64]; omega
 unfold Cfg.laid at hW
 clear hi hN HO1 hrs hV
 go_enter Tryz.func52, Tryz.ntmps52
 go_upto_region 1 with fail
 rw [← hW, ← hC]
 clear hW hC
 go_wp2_with fail
 refine (HWn.out _ _ _ _).mono ?_
 rintro e w1 ⟨rfl, rfl⟩
 obtain ⟨b1, hb1⟩ : ∃ b, inR x.kernel 0 (x.frames - 1) = b := ⟨_, rfl⟩
 have HB1 : Hid (inR x.kernel 0 (x.frames - 1) = b1) := hb1
 rw [hb1]
 cases b1 with
 | false =>
  clear hb1
  go_wp2
  go_ret
  refine ⟨?_, HO.out.keeps⟩
  rw [← HV.out]
  unfold Cfg.kerB
  rw [HB1.out]
  rfl
 | true =>
  have hk := inR_iff.1 hb1
  clear hb1
  have qg : IntKind.i64.wrap (x.frames - x.kernel) = x.frames - x.kernel := by rw [IntKind.wrap_i64]; omega
  go_wp2_with fail
  refine (HWn.out _ _ _ _).mono ?_
  rintro e w2 ⟨rfl, rfl⟩
  obtain ⟨b2, hb2⟩ : ∃ b, inR x.room 1 (x.frames - x.kernel) = b := ⟨_, rfl⟩
  have HB2 : Hid (inR x.room 1 (x.frames - x.kernel) = b2) := hb2
  rw [hb2]
  cases b2 with
  | false =>
   clear hb2
   go_wp2
   go_ret
   refine ⟨?_, HO.out.keeps⟩
   rw [← HV.out]
   unfold Cfg.kerB
   rw [HB1.out, HB2.out]
   rfl
  | true =>
   have hm := inR_iff.1 hb2
   clear hb2
   have HV2 : Hid ((!x.hitB && x.fitB) = V) := by
    refine Hid.mkq ?_
    rw [← HV.out]
    unfold Cfg.kerB
    rw [HB1.out, HB2.out, Bool.true_and, Bool.true_and]
   have hko : Rn.Ok ⟨x.kernel, x.room⟩ := by unfold Rn.Ok I64; dsimp only; omega
   have HKO : Hid (Rn.Ok ⟨x.kernel, x.room⟩) := hko
   obtain ⟨W2, hW2⟩ : ∃ W2, W2 = w2.alloc (.cells #[.int .i64 x.kernel, .int .i64 x.room] 102) := ⟨_, rfl⟩
   obtain ⟨A, hA⟩ : ∃ A, A = w2.heap.size := ⟨_, rfl⟩
   have HI : Hid (HkI w x C A N W2) := by rw [hW2, hA]; exact ⟨HO.out.kept ((Keeps.refl _ _).alloc _), Blk.new _ _ _⟩
   clear hko HWn
   go_upto_region 4 with fail
   rw [← hW2, ← hA]
   clear hW2 hA q0 q1 q2 q3 q4 q5 q6
   obtain ⟨L, hL⟩ : ∃ L, x.ps.length = L := ⟨_, rfl⟩
   have hcc : (L : Int) ≤ x.pc ∧ (x.pc : Int) ≤ 9223372036854775807 := by have := HP.out; unfold maxLen at this; omega
   have HL : Hid (x.ps.length = L) := hL
   have c5 : W2.cell? ⟨C, 5, none⟩ = some (.slice x.pa L x.pc) := by have := HI.out.one.cfg.cell (i := 5) rfl; rw [hL] at this; exact this
   clear hL
   obtain ⟨pa, hpa⟩ : ∃ pa, x.pa = pa := ⟨_, rfl⟩
   have HPA : Hid (x.pa = pa) := hpa
   rw [hpa] at c5
   clear hpa
   go_wp2
   go_loopw [34] (fun i wr => ∃ j : Nat, j ≤ L ∧ i = .int .i64 j ∧ ((x.ps.take j).any fun P => P.rs.any fun s => s.fr.meets ⟨x.kernel, x.room⟩) = false ∧ HkI w x C A N wr) (fun i _ => L - (intOf i).toNat)
   case atStart => exact ⟨0, by omega, rfl, rfl, HI.out⟩
   case round =>
    obtain ⟨k, hkk, rfl, hno, hO⟩ := hrel
    clear c5
    by_cases hlt : k < L
    ·
     obtain ⟨X, hX⟩ : ∃ X, x.ps[k]? = some X := ⟨_, List.getElem?_eq_getElem (by have := HL.out; omega)⟩
     obtain ⟨g0, o0, e, hc⟩ := hO.one.cin.par hX
     have hXi := hO.one.cin.pin X (List.mem_of_getElem? hX)
     have p0 := hc 0 _ rfl
     rw [Nat.add_zero] at p0
     have p1 := hc 1 _ rfl
     have p2 := hc 2 _ rfl
     have p3 := hc 3 _ rfl
     have p4 := hc 4 _ rfl
     have p5 := hc 5 _ rfl
     have p6 := hc 6 _ rfl
     have p7 := hc 7 _ rfl
     obtain ⟨XL, hXL⟩ : ∃ XL, X.ps.length = XL := ⟨_, rfl⟩
     obtain ⟨RL, hRL⟩ : ∃ RL, X.rs.length = RL := ⟨_, rfl⟩
     rw [hXL] at p7
     rw [hRL] at p6
     obtain ⟨W3, hW3⟩ : ∃ W3, W3 = wr.alloc (.cells #[.string X.name, .int .i64 X.entry, .int .i64 X.action, .int .i64 X.restarts, .int .i64 X.inputs, .int .i64 X.outputs, .slice X.ra RL X.rc, .slice X.pa XL X.pc] 41) := ⟨_, rfl⟩
     obtain ⟨D, hD⟩ : ∃ D, D = wr.heap.size := ⟨_, rfl⟩
     have HK : Hid (HkI w x C A N W3 ∧ ((x.ps.take k).any fun P => P.rs.any fun s => s.fr.meets ⟨x.kernel, x.room⟩) = false ∧ x.ps[k]? = some X ∧ x.pa = some ⟨g0, o0, none⟩) := by
      rw [hW3]; exact ⟨hO.kept ((Keeps.refl _ _).alloc _), hno, hX, e⟩
     have HCL : Hid (Calls Tryz.prog 84 #[.slice X.ra RL X.rc, .func (.func 85) #[] #[], .agg #[.int .i64 x.kernel, .int .i64 x.room]] W3 fun e w' => e = .returned (.bool (X.rs.any fun s => s.fr.meets ⟨x.kernel, x.room⟩)) ∧ KF W3 w') := by
      have hX3 := HK.out.1.one.cin.pin X (List.mem_of_getElem? hX)
      have := anyMeets_any 85 Rgn.fr run_frames X.rs X.ra X.rc ⟨x.kernel, x.room⟩ HKO.out (fun r hr => (Rgn.okB_ok (HR.out X (List.mem_of_getElem? hX) r hr) h2).2.1) hX3.rlen W3 hX3.rseg
      rw [hRL] at this
      exact this
     have d6 : W3.cell? ⟨D, 6, none⟩ = some (.slice X.ra RL X.rc) := by rw [hW3, hD]; exact (Blk.new wr _ _).cell rfl
     have a0 := HK.out.1.ar.cell (i := 0) rfl
     have a1 := HK.out.1.ar.cell (i := 1) rfl
     clear hno hO hX hXL hRL hXi hc
     rw [HPA.out] at e
     subst e
     go_upto_region 7 with fail
     rw [← hW3, ← hD]
     clear hW3 hD p0 p1 p2 p3 p4 p5 p6 p7
     go_wp2_with fail
     refine HCL.out.mono ?_
     rintro e w4 ⟨rfl, hK⟩
     have HO4 : Hid (HkI w x C A N w4) := HK.out.1.kept hK
     clear hK HCL d6 a0 a1
     obtain ⟨b, hb⟩ : ∃ b, (X.rs.any fun s => s.fr.meets ⟨x.kernel, x.room⟩) = b := ⟨_, rfl⟩
     have HB : Hid ((X.rs.any fun s => s.fr.meets ⟨x.kernel, x.room⟩) = b) := hb
     rw [hb]
     clear hb
     cases b with
     | true =>
      go_wp2
      go_ret
      refine ⟨?_, HO4.out.one.keeps⟩
      have : x.hitB = true := any_take_yes HK.out.2.2.1 HB.out
      rw [← HV2.out, this]
      rfl
     | false =>
      go_wp2
      go_roundw
      case rel => exact ⟨k + 1, by omega, by go_num, any_take_no HK.out.2.2.1 HK.out.2.1 HB.out, HO4.out⟩
      case measure => simp [intOf]; omega
    ·
     have hkL : k = L := by omega
     subst hkL
     have HJ : Hid (HkI w x C A N wr ∧ x.hitB = false) := by
      refine ⟨hO, ?_⟩
      rw [List.take_of_length_le (by rw [HL.out]; omega)] at hno
      exact hno
     have HNd : Hid (Calls Tryz.prog 86 #[x.v] wr (NeedP x wr)) := Need_any x wr N hO.one.cin hO.one.nn
     obtain ⟨q0, q1, q2, q3, q4, q5, q6⟩ := hO.one.cells
     clear hO hno
     go_wp2_with fail
     refine HNd.out.mono ?_
     rintro e w5 ⟨hK, h | ⟨hmm, rfl⟩⟩
     ·
      obtain ⟨hmm, rfl⟩ := h
      have HO5 : Hid (HkI w x C A N w5 ∧ x.mayB = false) := ⟨HJ.out.1.kept hK, hmm⟩
      clear hK hmm q0 q1 q2 q3 q4 q5 q6 HNd
      go_wp2
      go_ret
      refine ⟨?_, HO5.out.1.one.keeps⟩
      rw [← HV2.out, HJ.out.2]
      unfold Cfg.fitB
      rw [HO5.out.2]
      rfl
     ·
      have HO5 : Hid (HkI w x C A N w5 ∧ x.mayB = true) := ⟨HJ.out.1.kept hK, hmm⟩
      have k3 := HO5.out.1.one.cfg.cell (i := 3) rfl
      clear hK hmm q0 q1 q2 q3 q4 q5 q6 HNd
      obtain ⟨Z, hZ⟩ : ∃ Z, x.endW - x.kernel = Z := ⟨_, rfl⟩
      have HZ : Hid (x.endW - x.kernel = Z) := hZ
      rw [hZ]
      clear hZ
      go_wp2
      go_ret
      refine ⟨?_, HO5.out.1.one.keeps⟩
      rw [← HV2.out, HJ.out.2]
      unfold Cfg.fitB
      rw [HO5.out.2, HZ.out]
      rfl
end Go.Proofs.YtlnmlbkeemahcaaGreat
