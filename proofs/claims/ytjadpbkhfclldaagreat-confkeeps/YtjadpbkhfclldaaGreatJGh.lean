import Derived.Test.YtjadpbkhfclldaaGreatJGg
import Derived.Deep.CutBlock
import Derived.Deep.CutRange
import Derived.Deep.RegionLaw
namespace Go.Proofs.YtjadpbkhfclldaaGreat
open Go.RowKit
set_option linter.unusedVariables false
set_option maxRecDepth 6000
set_option linter.unusedSimpArgs false

/-- Where the document's config stands behind its loops. -/
def Cut1 (w : World) (C X b g o cap : Nat) (B : List UInt8) (s : CS) (n1 n2 n3 n4 : Nat) (wc : World) : Prop :=
  ∃ (cs : List Core) (s' : CS) (ca : Option Addr) (cc : Nat), cList B (cCore B) s = (cs.map Core.ws, s') ∧ PSt w wc C X b g o cap B s' 26 zCfgR [.int .i64 (n1 : Int), .int .i64 (n2 : Int), .int .i64 (n3 : Int), .int .i64 (n4 : Int), .slice ca cs.length cc, .slice none 0 0, .slice none 0 0] ∧ LstH eCore wc (X + 1) wc.heap.size ca cc cs
def Cut2 (w : World) (C X b g o cap : Nat) (B : List UInt8) (s : CS) (n1 n2 n3 n4 : Nat) (a1 : Value) (H1 : Nat) (cs : List Core) (ca : Option Addr) (cc : Nat) (wc : World) : Prop :=
  ∃ (ps : List Par) (s' : CS) (pa : Option Addr) (pc : Nat), cList B (cPar B) s = (ps.map Par.pure, s') ∧ PSt w wc C X b g o cap B s' 26 zCfgR [.int .i64 (n1 : Int), .int .i64 (n2 : Int), .int .i64 (n3 : Int), .int .i64 (n4 : Int), a1, .slice pa ps.length pc, .slice none 0 0] ∧ LstH eCore wc (X + 1) H1 ca cc cs ∧ LstH ePar wc H1 wc.heap.size pa pc ps ∧ H1 ≤ wc.heap.size
def Cut3 (w : World) (C X b g o cap : Nat) (B : List UInt8) (s : CS) (n1 n2 n3 n4 : Nat) (a1 a2 : Value) (H1 H2 : Nat) (cs : List Core) (ca : Option Addr) (cc : Nat) (ps : List Par) (pa : Option Addr) (pc : Nat) (wc : World) : Prop :=
  ∃ (hs : List Chn) (s' : CS) (ha : Option Addr) (hc : Nat), cList B (cChn B) s = (hs, s') ∧ PSt w wc C X b g o cap B s' 26 zCfgR [.int .i64 (n1 : Int), .int .i64 (n2 : Int), .int .i64 (n3 : Int), .int .i64 (n4 : Int), a1, a2, .slice ha hs.length hc] ∧ LstH eCore wc (X + 1) H1 ca cc cs ∧ LstH ePar wc H1 H2 pa pc ps ∧ LstH eChn wc H2 wc.heap.size ha hc hs
def Inv1 (w : World) (C X b g o cap : Nat) (B : List UInt8) (s : CS) (n1 n2 n3 n4 V : Nat) (i : Value) (wr : World) : Prop :=
  ∃ (j : Nat) (l : List Core) (s' : CS) (u : Value), j ≤ V ∧ i = .int .i64 j ∧ l.length = j ∧ cMany (cCore B) j s = (l.map Core.ws, s') ∧ PSt w wr C X b g o cap B s' 26 zCfgR [.int .i64 (n1 : Int), .int .i64 (n2 : Int), .int .i64 (n3 : Int), .int .i64 (n4 : Int), u, .slice none 0 0, .slice none 0 0] ∧ Row eCore wr (X + 1) u l
def Inv2 (w : World) (C X b g o cap : Nat) (B : List UInt8) (s : CS) (n1 n2 n3 n4 : Nat) (a1 : Value) (H1 : Nat) (cs : List Core) (ca : Option Addr) (cc : Nat) (V : Nat) (i : Value) (wr : World) : Prop :=
  ∃ (j : Nat) (l : List Par) (s' : CS) (u : Value), j ≤ V ∧ i = .int .i64 j ∧ l.length = j ∧ cMany (cPar B) j s = (l.map Par.pure, s') ∧ PSt w wr C X b g o cap B s' 26 zCfgR [.int .i64 (n1 : Int), .int .i64 (n2 : Int), .int .i64 (n3 : Int), .int .i64 (n4 : Int), a1, u, .slice none 0 0] ∧ Row ePar wr H1 u l ∧ LstH eCore wr (X + 1) H1 ca cc cs ∧ H1 ≤ wr.heap.size
def Inv3 (w : World) (C X b g o cap : Nat) (B : List UInt8) (s : CS) (n1 n2 n3 n4 : Nat) (a1 a2 : Value) (H1 H2 : Nat) (cs : List Core) (ca : Option Addr) (cc : Nat) (ps : List Par) (pa : Option Addr) (pc : Nat) (V : Nat) (i : Value) (wr : World) : Prop :=
  ∃ (j : Nat) (l : List Chn) (s' : CS) (u : Value), j ≤ V ∧ i = .int .i64 j ∧ l.length = j ∧ cMany (cChn B) j s = (l, s') ∧ PSt w wr C X b g o cap B s' 26 zCfgR [.int .i64 (n1 : Int), .int .i64 (n2 : Int), .int .i64 (n3 : Int), .int .i64 (n4 : Int), a1, a2, u] ∧ Row eChn wr H2 u l ∧ LstH eCore wr (X + 1) H1 ca cc cs ∧ LstH ePar wr H1 H2 pa pc ps ∧ H2 ≤ wr.heap.size
def CCfgP (B : List UInt8) (s : CS) (b g o cap N : Nat) (e : Ending) (w' : World) : Prop :=
  ∃ (x : Cfg) (s' : CS), cCfg B s = (x.pure, s') ∧ e = .returned x.v ∧ x.Lsts w' N ∧ CuS w' b g o cap B s'

set_option maxHeartbeats 8000000 in
theorem cconfig_any (b g o cap : Nat) (s : CS) (B : List UInt8) (w : World) (h : CuS w b g o cap B s) :
    Calls Tryz.prog 51 #[.pointer (some ⟨b, 0, none⟩)] w fun e w' => CCfgP B s b g o cap w.heap.size e w' ∧ Keeps (· = b) w w' := by
  obtain ⟨C, hC⟩ : ∃ C, C = w.heap.size := ⟨_, rfl⟩
  have HR : Hid (C = w.heap.size ∧ b < C ∧ (B ≠ [] → g < C)) := ⟨hC, by rw [hC]; exact h.blk.lt, by rw [hC]; exact Cu.gl h⟩
  obtain ⟨W0, hW0⟩ : ∃ W0, W0 = (w.alloc (.cells #[.int .i64 0, .int .i64 0, .int .i64 0, .int .i64 0, .slice none 0 0, .slice none 0 0, .slice none 0 0] 26)).alloc (.cells #[.int .i64 0, .int .i64 0, .int .i64 0, .int .i64 0, .slice none 0 0, .slice none 0 0, .slice none 0 0] 26) := ⟨_, rfl⟩
  have hP0 : PSt w W0 C (C + 1) b g o cap B s 26 zCfgR [.int .i64 0, .int .i64 0, .int .i64 0, .int .i64 0, .slice none 0 0, .slice none 0 0, .slice none 0 0] := by
    have k1 : Keeps (fun _ => False) w (w.alloc (.cells #[.int .i64 0, .int .i64 0, .int .i64 0, .int .i64 0, .slice none 0 0, .slice none 0 0, .slice none 0 0] 26)) := (Keeps.refl _ w).alloc _
    have k2 : Keeps (fun _ => False) (w.alloc (.cells #[.int .i64 0, .int .i64 0, .int .i64 0, .int .i64 0, .slice none 0 0, .slice none 0 0, .slice none 0 0] 26)) W0 := by rw [hW0]; exact (Keeps.refl _ _).alloc _
    have b1 : Blk (w.alloc (.cells #[.int .i64 0, .int .i64 0, .int .i64 0, .int .i64 0, .slice none 0 0, .slice none 0 0, .slice none 0 0] 26)) C [.int .i64 0, .int .i64 0, .int .i64 0, .int .i64 0, .slice none 0 0, .slice none 0 0, .slice none 0 0] 26 := by rw [hC]; exact Blk.new w _ _
    refine ⟨b1.kept k2 (fun e => e), ?_, (h.keptB k1 (fun e => e) (fun _ e => e)).keptB k2 (fun e => e) (fun _ e => e), (k1.mono fun _ _ e => e.elim).trans k2 fun _ _ e => e.elim, hC, by omega, HR.out.2⟩
    rw [hW0, hC]
    have := Blk.new (w.alloc (.cells #[.int .i64 0, .int .i64 0, .int .i64 0, .int .i64 0, .slice none 0 0, .slice none 0 0, .slice none 0 0] 26)) #[.int .i64 0, .int .i64 0, .int .i64 0, .int .i64 0, .slice none 0 0, .slice none 0 0, .slice none 0 0] 26
    simpa using this
  have HP1 : Hid (PSt w W0 C (C + 1) b g o cap B s 26 zCfgR [.int .i64 0, .int .i64 0, .int .i64 0, .int .i64 0, .slice none 0 0, .slice none 0 0, .slice none 0 0]) := hP0
  have HZ : Hid ((w.alloc (.cells #[.int .i64 0, .int .i64 0, .int .i64 0, .int .i64 0, .slice none 0 0, .slice none 0 0, .slice none 0 0] 26)).alloc (.cells #[.int .i64 0, .int .i64 0, .int .i64 0, .int .i64 0, .slice none 0 0, .slice none 0 0, .slice none 0 0] 26) = W0 ∧ w.heap.size = C) := ⟨hW0.symm, hC.symm⟩
  obtain ⟨X, hX⟩ : ∃ X, C + 1 = X := ⟨_, rfl⟩
  rw [hX] at HP1
  have HX : Hid (C + 1 = X) := hX
  obtain ⟨V1, s1, he1, hv1⟩ := cNum4 B s
  have HN1 : Hid (Calls _ _ _ _ _) := num_call hP0.cu (by omega) he1
  clear h hC hW0 hP0 hX
  go_enter Tryz.func51, Tryz.ntmps51
  go_wp2_with fail
  rw [HZ.out.1, HZ.out.2, HX.out]
  clear HZ
  refine HN1.out.mono ?_
  rintro e Y1 ⟨rfl, hC1, hK1⟩
  have hP1 := HP1.out.call hK1 hC1
  have x1 := hP1.xB.cell (i := 0) rfl
  have f1 := hP1.xB.frozen 0
  obtain ⟨W1, hW1⟩ : ∃ W1, W1 = Y1.setCell ⟨X, 0, none⟩ (.int .i64 V1) := ⟨_, rfl⟩
  have HP2 : Hid (PSt w W1 C X b g o cap B s1 26 zCfgR [.int .i64 (V1 : Int), .int .i64 0, .int .i64 0, .int .i64 0, .slice none 0 0, .slice none 0 0, .slice none 0 0]) := by rw [hW1]; exact hP1.set 0 (.int .i64 V1)
  have HE1 : Hid (cInt B s = ((V1 : Int), s1)) := by unfold Hid cInt; rw [he1]
  clear hC1 hK1 hP1 HP1 HN1 he1
  obtain ⟨V2, s2, he2, hv2⟩ := cNum4 B s1
  have HN2 : Hid (Calls _ _ _ _ _) := num_call HP2.out.cu (by omega) he2
  go_wp2_with fail
  rw [← hW1]
  clear hW1 x1 f1
  refine HN2.out.mono ?_
  rintro e Y2 ⟨rfl, hC2, hK2⟩
  have hP2 := HP2.out.call hK2 hC2
  have x2 := hP2.xB.cell (i := 1) rfl
  have f2 := hP2.xB.frozen 1
  obtain ⟨W2, hW2⟩ : ∃ W2, W2 = Y2.setCell ⟨X, 1, none⟩ (.int .i64 V2) := ⟨_, rfl⟩
  have HP3 : Hid (PSt w W2 C X b g o cap B s2 26 zCfgR [.int .i64 (V1 : Int), .int .i64 (V2 : Int), .int .i64 0, .int .i64 0, .slice none 0 0, .slice none 0 0, .slice none 0 0]) := by rw [hW2]; exact hP2.set 1 (.int .i64 V2)
  have HE2 : Hid (cInt B s1 = ((V2 : Int), s2)) := by unfold Hid cInt; rw [he2]
  clear hC2 hK2 hP2 HP2 HN2 he2
  obtain ⟨V3, s3, he3, hv3⟩ := cNum4 B s2
  have HN3 : Hid (Calls _ _ _ _ _) := num_call HP3.out.cu (by omega) he3
  go_wp2_with fail
  rw [← hW2]
  clear hW2 x2 f2
  refine HN3.out.mono ?_
  rintro e Y3 ⟨rfl, hC3, hK3⟩
  have hP3 := HP3.out.call hK3 hC3
  have x3 := hP3.xB.cell (i := 2) rfl
  have f3 := hP3.xB.frozen 2
  obtain ⟨W3, hW3⟩ : ∃ W3, W3 = Y3.setCell ⟨X, 2, none⟩ (.int .i64 V3) := ⟨_, rfl⟩
  have HP4 : Hid (PSt w W3 C X b g o cap B s3 26 zCfgR [.int .i64 (V1 : Int), .int .i64 (V2 : Int), .int .i64 (V3 : Int), .int .i64 0, .slice none 0 0, .slice none 0 0, .slice none 0 0]) := by rw [hW3]; exact hP3.set 2 (.int .i64 V3)
  have HE3 : Hid (cInt B s2 = ((V3 : Int), s3)) := by unfold Hid cInt; rw [he3]
  clear hC3 hK3 hP3 HP3 HN3 he3
  obtain ⟨V4, s4, he4, hv4⟩ := cNum4 B s3
  have HN4 : Hid (Calls _ _ _ _ _) := num_call HP4.out.cu (by omega) he4
  go_wp2_with fail
  rw [← hW3]
  clear hW3 x3 f3
  refine HN4.out.mono ?_
  rintro e Y4 ⟨rfl, hC4, hK4⟩
  have hP4 := HP4.out.call hK4 hC4
  have x4 := hP4.xB.cell (i := 3) rfl
  have f4 := hP4.xB.frozen 3
  obtain ⟨W4, hW4⟩ : ∃ W4, W4 = Y4.setCell ⟨X, 3, none⟩ (.int .i64 V4) := ⟨_, rfl⟩
  have HP5 : Hid (PSt w W4 C X b g o cap B s4 26 zCfgR [.int .i64 (V1 : Int), .int .i64 (V2 : Int), .int .i64 (V3 : Int), .int .i64 (V4 : Int), .slice none 0 0, .slice none 0 0, .slice none 0 0]) := by rw [hW4]; exact hP4.set 3 (.int .i64 V4)
  have HE4 : Hid (cInt B s3 = ((V4 : Int), s4)) := by unfold Hid cInt; rw [he4]
  clear hC4 hK4 hP4 HP4 HN4 he4
  obtain ⟨V5, s5, he5, hv5⟩ := cNum1 B s4
  have HN5 : Hid (Calls _ _ _ _ _) := num_call HP5.out.cu (by omega) he5
  go_wp2_with fail
  rw [← hW4]
  clear hW4 x4 f4
  refine HN5.out.mono ?_
  rintro e W5 ⟨rfl, hC5, hK5⟩
  have HP6 : Hid (PSt w W5 C X b g o cap B s5 26 zCfgR [.int .i64 (V1 : Int), .int .i64 (V2 : Int), .int .i64 (V3 : Int), .int .i64 (V4 : Int), .slice none 0 0, .slice none 0 0, .slice none 0 0]) := HP5.out.call hK5 hC5
  have HS5 : Hid (cNum B 1 s4 = (V5, s5)) := he5
  clear hC5 hK5 HN5 HP5 he5
  go_upto_block 0 with fail
  go_cut [5] from 25 to 43 (fun i wc => Cut1 w C X b g o cap B s4 V1 V2 V3 V4 wc)
  case rest =>
    obtain ⟨cs, t4, ca, cc, hcs, hP7, hL7⟩ := hcut
    obtain ⟨H1, hH1⟩ : ∃ H1, wc.heap.size = H1 := ⟨_, rfl⟩
    rw [hH1] at hL7
    have hXH : X < H1 := by rw [← hH1]; exact hP7.xB.lt
    obtain ⟨A1, hA1⟩ : ∃ A1, Value.slice ca cs.length cc = A1 := ⟨_, rfl⟩
    rw [hA1] at hP7
    obtain ⟨V6, s6, he6, hv6⟩ := cNum1 B t4
    have HN6 : Hid (Calls _ _ _ _ _) := num_call hP7.cu (by omega) he6
    have HP7 : Hid (PSt w wc C X b g o cap B t4 26 zCfgR [.int .i64 (V1 : Int), .int .i64 (V2 : Int), .int .i64 (V3 : Int), .int .i64 (V4 : Int), A1, .slice none 0 0, .slice none 0 0] ∧ LstH eCore wc (X + 1) H1 ca cc cs ∧ wc.heap.size = H1 ∧ X < H1) := ⟨hP7, hL7, hH1, hXH⟩
    have HA1 : Hid (Value.slice ca cs.length cc = A1 ∧ cList B (cCore B) s4 = (cs.map Core.ws, t4)) := ⟨hA1, hcs⟩
    clear HP6 hcs hP7 hL7 hA1 hH1 hXH HS5
    go_wp2_with fail
    refine HN6.out.mono ?_
    rintro e W6 ⟨rfl, hC6, hK6⟩
    have HP8 : Hid (PSt w W6 C X b g o cap B s6 26 zCfgR [.int .i64 (V1 : Int), .int .i64 (V2 : Int), .int .i64 (V3 : Int), .int .i64 (V4 : Int), A1, .slice none 0 0, .slice none 0 0] ∧ LstH eCore W6 (X + 1) H1 ca cc cs ∧ H1 ≤ W6.heap.size ∧ X < H1) :=
      ⟨HP7.out.1.call hK6 hC6, HP7.out.2.1.kept hK6 (fun k e => by have := HP7.out.1.lo; omega), by have := hK6.size; have := HP7.out.2.2.1; omega, HP7.out.2.2.2⟩
    have HS6 : Hid (cNum B 1 t4 = (V6, s6)) := he6
    clear hC6 hK6 HN6 HP7 he6
    go_upto_block 2 with fail
    go_cut [6] from 46 to 64 (fun i wc => Cut2 w C X b g o cap B t4 V1 V2 V3 V4 A1 H1 cs ca cc wc)
    case rest =>
      obtain ⟨ps, t6, pa, pc, hps, hP9, hLC9, hLP9, HLE⟩ := hcut
      obtain ⟨H2, hH2⟩ : ∃ H2, wc.heap.size = H2 := ⟨_, rfl⟩
      rw [hH2] at hLP9 HLE
      have hXH : X < H1 ∧ H1 ≤ H2 ∧ X < H2 := ⟨HP8.out.2.2.2, HLE, by rw [← hH2]; exact hP9.xB.lt⟩
      obtain ⟨A2, hA2⟩ : ∃ A2, Value.slice pa ps.length pc = A2 := ⟨_, rfl⟩
      rw [hA2] at hP9
      obtain ⟨V7, s7, he7, hv7⟩ := cNum1 B t6
      have HN7 : Hid (Calls _ _ _ _ _) := num_call hP9.cu (by omega) he7
      have HP9 : Hid (PSt w wc C X b g o cap B t6 26 zCfgR [.int .i64 (V1 : Int), .int .i64 (V2 : Int), .int .i64 (V3 : Int), .int .i64 (V4 : Int), A1, A2, .slice none 0 0] ∧ LstH eCore wc (X + 1) H1 ca cc cs ∧ LstH ePar wc H1 H2 pa pc ps ∧ wc.heap.size = H2 ∧ X < H1 ∧ H1 ≤ H2 ∧ X < H2) := ⟨hP9, hLC9, hLP9, hH2, hXH⟩
      have HA2 : Hid (Value.slice pa ps.length pc = A2 ∧ cList B (cPar B) t4 = (ps.map Par.pure, t6)) := ⟨hA2, hps⟩
      clear HP8 hps hP9 hLC9 hLP9 hA2 hH2 hXH HS6
      go_wp2_with fail
      refine HN7.out.mono ?_
      rintro e W7 ⟨rfl, hC7, hK7⟩
      have HP10 : Hid (PSt w W7 C X b g o cap B s7 26 zCfgR [.int .i64 (V1 : Int), .int .i64 (V2 : Int), .int .i64 (V3 : Int), .int .i64 (V4 : Int), A1, A2, .slice none 0 0] ∧ LstH eCore W7 (X + 1) H1 ca cc cs ∧ LstH ePar W7 H1 H2 pa pc ps ∧ H2 ≤ W7.heap.size ∧ X < H1 ∧ H1 ≤ H2 ∧ X < H2) :=
        ⟨HP9.out.1.call hK7 hC7, HP9.out.2.1.kept hK7 (fun k e => by have := HP9.out.1.lo; omega), HP9.out.2.2.1.kept hK7 (fun k e => by have := HP9.out.1.lo; have := HP9.out.2.2.2.2.1; omega), by have := hK7.size; have := HP9.out.2.2.2.1; omega, HP9.out.2.2.2.2⟩
      have HS7 : Hid (cNum B 1 t6 = (V7, s7)) := he7
      clear hC7 hK7 HN7 HP9 he7
      go_upto_block 4 with fail
      go_cut [7, 8, 9, 10] from 67 to 93 (fun i x8 x9 x10 wc => Cut3 w C X b g o cap B t6 V1 V2 V3 V4 A1 A2 H1 H2 cs ca cc ps pa pc wc)
      case rest =>
        obtain ⟨hs, t7, ha, hc, hhs, hP11, hLC11, hLP11, hLH11⟩ := hcut
        obtain ⟨A3, hA3⟩ : ∃ A3, Value.slice ha hs.length hc = A3 := ⟨_, rfl⟩
        rw [hA3] at hP11
        have HCX : Hid (C < X ∧ C + 1 = X ∧ X < H1 ∧ H1 ≤ H2 ∧ X < H2 ∧ C = w.heap.size) := ⟨hP11.lo.2.1, HX.out, HP10.out.2.2.2.2.1, HP10.out.2.2.2.2.2.1, HP10.out.2.2.2.2.2.2, HR.out.1⟩
        obtain ⟨e1, e2, e3, e4⟩ := hP11.end [.int .i64 (V1 : Int), .int .i64 (V2 : Int), .int .i64 (V3 : Int), .int .i64 (V4 : Int), A1, A2, A3]
        have HXB : Hid (Blk wc X [.int .i64 (V1 : Int), .int .i64 (V2 : Int), .int .i64 (V3 : Int), .int .i64 (V4 : Int), A1, A2, A3] 26) := hP11.xB
        have HCB : Hid (Blk wc C zCfgR 26) := hP11.cB
        have HA3 : Hid (Value.slice ha hs.length hc = A3 ∧ cList B (cChn B) t6 = (hs, t7)) := ⟨hA3, hhs⟩
        obtain ⟨WF, hWF⟩ : ∃ WF, WF = wc.setRow C #[.int .i64 (V1 : Int), .int .i64 (V2 : Int), .int .i64 (V3 : Int), .int .i64 (V4 : Int), A1, A2, A3] := ⟨_, rfl⟩
        have e1 : Blk (wc.setRow C #[.int .i64 (V1 : Int), .int .i64 (V2 : Int), .int .i64 (V3 : Int), .int .i64 (V4 : Int), A1, A2, A3]) C [.int .i64 (V1 : Int), .int .i64 (V2 : Int), .int .i64 (V3 : Int), .int .i64 (V4 : Int), A1, A2, A3] 26 := e1
        have e2 : CuS (wc.setRow C #[.int .i64 (V1 : Int), .int .i64 (V2 : Int), .int .i64 (V3 : Int), .int .i64 (V4 : Int), A1, A2, A3]) b g o cap B t7 := e2
        have e3 : Keeps (· = b) w (wc.setRow C #[.int .i64 (V1 : Int), .int .i64 (V2 : Int), .int .i64 (V3 : Int), .int .i64 (V4 : Int), A1, A2, A3]) := e3
        have e4 : Keeps (· = C) wc (wc.setRow C #[.int .i64 (V1 : Int), .int .i64 (V2 : Int), .int .i64 (V3 : Int), .int .i64 (V4 : Int), A1, A2, A3]) := e4
        rw [← hWF] at e1 e2 e3 e4
        have HF : Hid (Blk WF C [.int .i64 (V1 : Int), .int .i64 (V2 : Int), .int .i64 (V3 : Int), .int .i64 (V4 : Int), A1, A2, A3] 26 ∧ CuS WF b g o cap B t7 ∧ Keeps (· = b) w WF ∧ LstH eCore WF (X + 1) H1 ca cc cs ∧ LstH ePar WF H1 H2 pa pc ps ∧ Lst eChn WF H2 ha hc hs) := by
          obtain ⟨q1, q2, q3, q4, q5, q6⟩ := HCX.out
          exact ⟨e1, e2, e3, hLC11.kept e4 (fun k e => by omega), hLP11.kept e4 (fun k e => by omega), (hLH11.kept e4 (fun k e => by omega)).ls⟩
        have hALL : (#[.int .i64 (V1 : Int), .int .i64 (V2 : Int), .int .i64 (V3 : Int), .int .i64 (V4 : Int), A1, A2, A3] : Array Value).all (·.oneCell') = true := by rw [← HA1.out.1, ← HA2.out.1, ← HA3.out.1]; exact all26 ..
        have HALL : Hid ((#[.int .i64 (V1 : Int), .int .i64 (V2 : Int), .int .i64 (V3 : Int), .int .i64 (V4 : Int), A1, A2, A3] : Array Value).all (·.oneCell') = true) := hALL
        clear HP10 hhs hP11 hLC11 hLP11 hLH11 hA3 HS7 e1 e2 e3 e4 hALL
        go_wp2_with (first
          | (refine wpList_load_row rfl 26 (.tmp 3) rfl X rfl 26 _ (0, 0) _ HXB.out Tryz.underlying26 rfl Tryz.size26 ?_)
          | (refine wpList_store_row rfl 26 (.tmp 2) (.tmp 94) rfl C #[.int .i64 (V1 : Int), .int .i64 (V2 : Int), .int .i64 (V3 : Int), .int .i64 (V4 : Int), A1, A2, A3] (by rfl) (by rfl) 26 _ HCB.out Tryz.size26 rfl HALL.out ?_))
        rw [← hWF]
        refine bodyPost_ret (results_cell_row rfl _ _ C 26 _ (0, 0) _ rfl HF.out.1 Tryz.underlying26 rfl Tryz.size26) rfl ?_
        obtain ⟨q1, q2, q3, q4, q5, q6⟩ := HCX.out
        refine ⟨⟨⟨V1, V2, V3, V4, ca, cc, cs, pa, pc, ps, ha, hc, hs⟩, t7, ?_, ?_, ⟨HF.out.2.2.2.1.ls.mono (by omega), HF.out.2.2.2.2.1.ls.mono (by omega), HF.out.2.2.2.2.2.mono (by omega), ?_⟩, HF.out.2.1⟩, HF.out.2.2.1⟩
        · show cCfg B s = _
          unfold cCfg cBind Cfg.pure
          simp only [HE1.out, HE2.out, HE3.out, HE4.out, HA1.out.2, HA2.out.2, HA3.out.2]
        · rw [← HA1.out.1, ← HA2.out.1, ← HA3.out.1]
        · intro m hm
          simp only [Cfg.ns, List.mem_cons, List.not_mem_nil, or_false] at hm
          rcases hm with rfl | rfl | rfl | rfl <;> (unfold I64; omega)
      go_wp2
      go_loopw [7] (fun i wr => Inv3 w C X b g o cap B s7 V1 V2 V3 V4 A1 A2 H1 H2 cs ca cc ps pa pc V7 i wr) (fun i _ => V7 - (intOf i).toNat)
      case atStart => exact ⟨0, [], s7, _, by omega, rfl, rfl, rfl, HP10.out.1, Row.nil _ _, HP10.out.2.1, HP10.out.2.2.1, HP10.out.2.2.2.1⟩
      case round =>
        obtain ⟨j, l, s', u, hj, rfl, hjl, hM, hP, hRow, hLC, hLP, hLS⟩ := hrel
        have y2 := hP.cu.blk.cell (i := 2) rfl
        obtain ⟨p', bad'⟩ := s'
        have y2 : wr.cell? ⟨b, 2, none⟩ = some (.bool bad') := y2
        by_cases hgo : j < V7 ∧ bad' = false
        · obtain ⟨hl, rfl⟩ := hgo
          have hl' : (j : Int) < V7 := by omega
          have hw' : IntKind.i64.wrap ((j : Int) + 1) = (j : Int) + 1 := by rw [IntKind.wrap_i64]; omega
          have HJ : Hid (l.length = j ∧ cMany (cChn B) j s7 = (l, p', false)) := ⟨hjl, hM⟩
          obtain ⟨K1, k1, he1, hk1⟩ := cNum4 B (p', false)
          obtain ⟨K2, k2, he2, hk2⟩ := cNum4 B k1
          obtain ⟨K3, k3, he3, hk3⟩ := cNum4 B k2
          have HXC : Hid (cChn B (p', false) = (⟨(K1 : Int), (K2 : Int), (K3 : Int)⟩, k3)) := by
            unfold Hid cChn cBind
            simp only [cInt, he1, he2, he3]
          have HPU : Hid (∀ (w4 : World), Keeps (· = b) wr w4 → CuS w4 b g o cap B k3 → ∃ v' W', (∃ a5 n5 c5, v' = .slice a5 n5 c5) ∧ (∀ ty, (Builtin.append_ #[24, 24] ty #[u, .slice (some ⟨w4.heap.size, 0, none⟩) 1 1]).run Tryz.prog (w4.alloc (.cells #[.int .i64 (K1 : Int), .int .i64 (K2 : Int), .int .i64 (K3 : Int)] 57)) = .ok v' W') ∧ Blk W' X [.int .i64 (V1 : Int), .int .i64 (V2 : Int), .int .i64 (V3 : Int), .int .i64 (V4 : Int), A1, A2, u] 26 ∧
              PSt w (W'.setCell ⟨X, 6, none⟩ v') C X b g o cap B k3 26 zCfgR [.int .i64 (V1 : Int), .int .i64 (V2 : Int), .int .i64 (V3 : Int), .int .i64 (V4 : Int), A1, A2, v'] ∧ Row eChn (W'.setCell ⟨X, 6, none⟩ v') H2 v' (l ++ [⟨K1, K2, K3⟩]) ∧ LstH eCore (W'.setCell ⟨X, 6, none⟩ v') (X + 1) H1 ca cc cs ∧ LstH ePar (W'.setCell ⟨X, 6, none⟩ v') H1 H2 pa pc ps ∧ H2 ≤ (W'.setCell ⟨X, 6, none⟩ v').heap.size) := by
            intro w4 hK4 hC4
            obtain ⟨i0, hi, hz0, hz1, hz2⟩ := info_parts Tryz.info57
            have hok : eChn.Ok w4 (⟨(K1 : Int), (K2 : Int), (K3 : Int)⟩ : Chn) := by refine ⟨?_, ?_, ?_⟩ <;> (unfold I64; dsimp only; omega)
            obtain ⟨q1, q2, q3, q4, q5, q6, q7⟩ := HP10.out
            obtain ⟨v', W', h1, h2, h3, h4, h5, h6⟩ := elem_push (E := eChn) 24 i0 _ 24 Tryz.underlying24 hi hz0 hz1 hz2 rfl (by omega) (x := ⟨(K1 : Int), (K2 : Int), (K3 : Int)⟩) 6 rfl hP hRow ⟨q7, hLS⟩ (by omega) hK4 hC4 hok (fun k hk => by cases hk) (by
                intro v hv
                simp only [eChn, Chn.vs, List.mem_cons, List.not_mem_nil, or_false] at hv
                rcases hv with rfl | rfl | rfl <;> rfl)
            obtain ⟨a5, c5, h7, _⟩ := h3.lst
            exact ⟨v', W', ⟨a5, _, c5, h7⟩, h1, h4, h2, h3, hLC.kept h5 (fun k e => by omega), hLP.kept h5 (fun k e => by omega), h6⟩
          have HPP : Hid (PSt w wr C X b g o cap B (p', false) 26 zCfgR [.int .i64 (V1 : Int), .int .i64 (V2 : Int), .int .i64 (V3 : Int), .int .i64 (V4 : Int), A1, A2, u]) := hP
          have HN1 : Hid (Calls _ _ _ _ _) := num_call hP.cu (by omega) he1
          clear hjl hM hP hRow hLC hLP hLS
          go_wp2_with fail
          refine HN1.out.mono ?_
          rintro e w2 ⟨rfl, hC2, hK2⟩
          clear HN1
          go_wp2_with fail
          refine (num_call hC2 (by omega) he2).mono ?_
          rintro e w3 ⟨rfl, hC3, hK3⟩
          go_wp2_with fail
          refine (num_call hC3 (by omega) he3).mono ?_
          rintro e w4 ⟨rfl, hC4, hK4⟩
          have hK : Keeps (· = b) wr w4 := (hK2.trans hK3 fun _ _ e => e).trans hK4 fun _ _ e => e
          obtain ⟨_, W', ⟨a5, n5, c5, rfl⟩, happ, hB4, hP4, hR4, hLC4, hLP4, hLS4⟩ := HPU.out w4 hK hC4
          have hX : cMany (cChn B) (j + 1) s7 = (l ++ [(⟨K1, K2, K3⟩ : Chn)], k3) := cMany_more HJ.out.2 rfl HXC.out
          have HNX : Hid (Inv3 w C X b g o cap B s7 V1 V2 V3 V4 A1 A2 H1 H2 cs ca cc ps pa pc V7 (.int .i64 ((j : Int) + 1)) (W'.setCell ⟨X, 6, none⟩ (.slice a5 n5 c5))) := ⟨j + 1, _, k3, _, by omega, by go_num, by rw [List.length_append, HJ.out.1]; rfl, hX, hP4, hR4, hLC4, hLP4, hLS4⟩
          have hB9 : Blk w4 X [.int .i64 (V1 : Int), .int .i64 (V2 : Int), .int .i64 (V3 : Int), .int .i64 (V4 : Int), A1, A2, u] 26 := HPP.out.xB.kept hK (by have := HPP.out.lo; omega)
          have hS : w4.cell? ⟨X, 6, none⟩ = some u := hB9.cell (i := 6) rfl
          have hS2 : W'.cell? ⟨X, 6, none⟩ = some u := hB4.cell (i := 6) rfl
          have hfz := hB4.frozen 6
          have HAP : Hid (∀ ty, (Builtin.append_ #[24, 24] ty #[u, .slice (some ⟨w4.heap.size, 0, none⟩) 1 1]).run Tryz.prog (w4.alloc (.cells #[.int .i64 (K1 : Int), .int .i64 (K2 : Int), .int .i64 (K3 : Int)] 57)) = .ok (.slice a5 n5 c5) W') := happ
          clear hX hP4 hR4 hC2 hC3 hC4 hK2 hK3 hK4 hK he1 he2 he3 happ hB4 hB9 hLC4 hLP4 hLS4 HPU HXC HPP HJ y2
          go_wp2_with (at_builtin; go_must (refine wpList_append_run rfl (.tmp 86) (.tmp 91) 24 24 rfl u (.slice (some ⟨w4.heap.size, 0, none⟩) 1 1) (.slice a5 n5 c5) W' rfl rfl HAP.out ?_; refine Hid.out ?_))
          unfold Hid
          clear HAP
          go_wp2
          go_roundw
          case rel => exact HNX.out
          case measure => simp [intOf]; omega
        · have hend : cMany (cChn B) V7 s7 = (l, p', bad') := by
            by_cases hl : j < V7
            · have hb : bad' = true := by cases bad' with | true => rfl | false => exact (hgo ⟨hl, rfl⟩).elim
              rw [cMany_stop (j := j) (by rw [hM]; exact hb) V7 hj, hM]
            · obtain rfl : j = V7 := by omega
              exact hM
          obtain ⟨ad, cp, hu, hL⟩ := hRow.lst
          have HJ : Hid (Cut3 w C X b g o cap B t6 V1 V2 V3 V4 A1 A2 H1 H2 cs ca cc ps pa pc wr) := ⟨l, (p', bad'), ad, cp, by unfold cList; rw [HS7.out]; exact hend, by rw [← hu]; exact hP, hLC, hLP, hL.h⟩
          clear hjl hM hRow hL hend hP hu hLC hLP hLS
          by_cases hl : j < V7
          · have hb : bad' = true := by cases bad' with | true => rfl | false => exact (hgo ⟨hl, rfl⟩).elim
            subst hb
            have hl' : (j : Int) < V7 := by omega
            clear hgo
            go_wp2
            go_meet
            exact HJ.out
          · have hl' : ¬ (j : Int) < V7 := by omega
            clear hgo
            go_wp2
            go_meet
            exact HJ.out
    go_wp2
    go_loopw [6] (fun i wr => Inv2 w C X b g o cap B s6 V1 V2 V3 V4 A1 H1 cs ca cc V6 i wr) (fun i _ => V6 - (intOf i).toNat)
    case atStart => exact ⟨0, [], s6, _, by omega, rfl, rfl, rfl, HP8.out.1, Row.nil _ _, HP8.out.2.1, HP8.out.2.2.1⟩
    case round =>
      obtain ⟨j, l, s', u, hj, rfl, hjl, hM, hP, hRow, hLC, hLS⟩ := hrel
      have y2 := hP.cu.blk.cell (i := 2) rfl
      obtain ⟨p', bad'⟩ := s'
      have y2 : wr.cell? ⟨b, 2, none⟩ = some (.bool bad') := y2
      by_cases hgo : j < V6 ∧ bad' = false
      · obtain ⟨hl, rfl⟩ := hgo
        have hl' : (j : Int) < V6 := by omega
        have hw' : IntKind.i64.wrap ((j : Int) + 1) = (j : Int) + 1 := by rw [IntKind.wrap_i64]; omega
        have HJ : Hid (l.length = j ∧ cMany (cPar B) j s6 = (l.map Par.pure, p', false)) := ⟨hjl, hM⟩
        have HPU : Hid (∀ (w4 : World) (x : Par) (s4 : CS), Keeps (· = b) wr.drew w4 → CuS w4 b g o cap B s4 → x.Ok w4 → (∀ k ∈ x.bl, wr.drew.heap.size ≤ k ∧ k < w4.heap.size) → ∃ v' W', (∃ a5 n5 c5, v' = .slice a5 n5 c5) ∧ (∀ ty, (Builtin.append_ #[23, 23] ty #[u, .slice (some ⟨w4.heap.size, 0, none⟩) 1 1]).run Tryz.prog (w4.alloc (.cells x.vs.toArray 47)) = .ok v' W') ∧ Blk W' X [.int .i64 (V1 : Int), .int .i64 (V2 : Int), .int .i64 (V3 : Int), .int .i64 (V4 : Int), A1, u, .slice none 0 0] 26 ∧
            PSt w (W'.setCell ⟨X, 5, none⟩ v') C X b g o cap B s4 26 zCfgR [.int .i64 (V1 : Int), .int .i64 (V2 : Int), .int .i64 (V3 : Int), .int .i64 (V4 : Int), A1, v', .slice none 0 0] ∧ Row ePar (W'.setCell ⟨X, 5, none⟩ v') H1 v' (l ++ [x]) ∧ LstH eCore (W'.setCell ⟨X, 5, none⟩ v') (X + 1) H1 ca cc cs ∧ H1 ≤ (W'.setCell ⟨X, 5, none⟩ v').heap.size) := by
          intro w4 x s4 hK4 hC4 hok4 hbl4
          obtain ⟨i0, hi, hz0, hz1, hz2⟩ := info_parts Tryz.info47
          have hKd : Keeps (fun _ => False) wr wr.drew := (Keeps.refl _ wr).drew
          obtain ⟨v', W', h1, h2, h3, h4, h5, h6⟩ := elem_push (E := ePar) 23 i0 _ 104 Tryz.underlying23 hi hz0 hz1 hz2 rfl (by omega) (x := x) 5 rfl (hP.up hKd fun k e => e.elim) (hRow.kept hKd fun k e => e.elim) ⟨HP8.out.2.2.2, by have := hKd.size; omega⟩ (by omega) hK4 hC4 hok4 hbl4 (by
              intro v hv
              simp only [ePar, Par.vs, List.mem_cons, List.not_mem_nil, or_false] at hv
              rcases hv with rfl | rfl | rfl | rfl | rfl | rfl | rfl | rfl <;> rfl)
          obtain ⟨a5, c5, h7, _⟩ := h3.lst
          exact ⟨v', W', ⟨a5, _, c5, h7⟩, h1, h4, h2, h3, (hLC.kept hKd fun k e => e.elim).kept h5 (fun k e => by omega), h6⟩
        have hS0 : wr.cell? ⟨X, 5, none⟩ = some u := hP.xB.cell (i := 5) rfl
        have HPP : Hid (PSt w wr C X b g o cap B (p', false) 26 zCfgR [.int .i64 (V1 : Int), .int .i64 (V2 : Int), .int .i64 (V3 : Int), .int .i64 (V4 : Int), A1, u, .slice none 0 0]) := hP
        clear hjl hM hP hRow hLC hLS
        go_wp2_with fail
        go_region_law (first
            | (refine step_append_run (by rfl) (.tmp 59) (.tmp 62) 23 23 (by rfl) u (.slice (some ⟨w4.heap.size, 0, none⟩) 1 1) (.slice a5 n5 c5) W' (by rfl) (by rfl) happ ?_; have hS2 : W'.cell? ⟨X, 5, none⟩ = some u := hB4.cell (i := 5) rfl; have hfz := hB4.frozen 5)
            | (go_simp; go_at_call 70; refine (cpar_any b g o cap (p', false) B _ (HPP.out.cu.keptB ((Keeps.refl (fun _ => False) wr).drew) (fun e => e) (fun _ e => e))).mono ?_; rintro e w4 ⟨⟨x, s4, he4, rfl, hok4, hbl4, hC4⟩, hK4⟩; obtain ⟨_, W', ⟨a5, n5, c5, rfl⟩, happ, hB4, hP4, hR4, hLC4, hLS4⟩ := HPU.out w4 x s4 hK4 hC4 hok4 hbl4; obtain ⟨nm, q1, q2, q3, q4, q5, ra, rc, rs, pa, pc, ps⟩ := x; obtain ⟨N4, hN4⟩ : ∃ N4, rs.length = N4 := ⟨_, rfl⟩; obtain ⟨N5, hN5⟩ : ∃ N5, ps.length = N5 := ⟨_, rfl⟩; dsimp only [Par.vs, Par.v] at happ ⊢; rw [hN4, hN5] at happ ⊢; have hB9 := HPP.out.xB.drew.kept hK4 (by have := HPP.out.lo; omega); have hS : w4.cell? ⟨X, 5, none⟩ = some u := hB9.cell (i := 5) rfl; have hS3 : (w4.alloc (.cells #[.string nm, .int .i64 q1, .int .i64 q2, .int .i64 q3, .int .i64 q4, .int .i64 q5, .slice ra N4 rc, .slice pa N5 pc] 47)).cell? ⟨X, 5, none⟩ = some u := (hB9.alloc _).cell (i := 5) rfl))
        all_goals
          have hX : cMany (cPar B) (j + 1) s6 = ((l ++ [(⟨nm, q1, q2, q3, q4, q5, ra, rc, rs, pa, pc, ps⟩ : Par)]).map Par.pure, s4) := by rw [List.map_append]; exact cMany_more HJ.out.2 rfl he4
          have HNX : Hid (Inv2 w C X b g o cap B s6 V1 V2 V3 V4 A1 H1 cs ca cc V6 (.int .i64 ((j : Int) + 1)) (W'.setCell ⟨X, 5, none⟩ (.slice a5 n5 c5))) := ⟨j + 1, _, s4, _, by omega, by go_num, by rw [List.length_append, HJ.out.1]; rfl, hX, hP4, hR4, hLC4, hLS4⟩
          clear hX hP4 hR4 hC4 hK4 he4 happ hB4 hN4 hN5 hB9 hok4 hbl4 hLC4 hLS4
          go_wp2
          go_roundw
          case rel => exact HNX.out
          case measure => simp [intOf]; omega
      · have hend : cMany (cPar B) V6 s6 = (l.map Par.pure, p', bad') := by
          by_cases hl : j < V6
          · have hb : bad' = true := by cases bad' with | true => rfl | false => exact (hgo ⟨hl, rfl⟩).elim
            rw [cMany_stop (j := j) (by rw [hM]; exact hb) V6 hj, hM]
          · obtain rfl : j = V6 := by omega
            exact hM
        obtain ⟨ad, cp, hu, hL⟩ := hRow.lst
        have HJ : Hid (Cut2 w C X b g o cap B t4 V1 V2 V3 V4 A1 H1 cs ca cc wr) := ⟨l, (p', bad'), ad, cp, by unfold cList; rw [HS6.out]; exact hend, by rw [← hu]; exact hP, hLC, hL.h, hLS⟩
        clear hjl hM hRow hL hend hP hu hLC hLS
        by_cases hl : j < V6
        · have hb : bad' = true := by cases bad' with | true => rfl | false => exact (hgo ⟨hl, rfl⟩).elim
          subst hb
          have hl' : (j : Int) < V6 := by omega
          clear hgo
          go_wp2
          go_meet
          exact HJ.out
        · have hl' : ¬ (j : Int) < V6 := by omega
          clear hgo
          go_wp2
          go_meet
          exact HJ.out
  go_wp2
  go_loopw [5] (fun i wr => Inv1 w C X b g o cap B s5 V1 V2 V3 V4 V5 i wr) (fun i _ => V5 - (intOf i).toNat)
  case atStart => exact ⟨0, [], s5, _, by omega, rfl, rfl, rfl, HP6.out, Row.nil _ _⟩
  case round =>
    obtain ⟨j, l, s', u, hj, rfl, hjl, hM, hP, hRow⟩ := hrel
    have y2 := hP.cu.blk.cell (i := 2) rfl
    obtain ⟨p', bad'⟩ := s'
    have y2 : wr.cell? ⟨b, 2, none⟩ = some (.bool bad') := y2
    by_cases hgo : j < V5 ∧ bad' = false
    · obtain ⟨hl, rfl⟩ := hgo
      have hl' : (j : Int) < V5 := by omega
      have hw' : IntKind.i64.wrap ((j : Int) + 1) = (j : Int) + 1 := by rw [IntKind.wrap_i64]; omega
      have HJ : Hid (l.length = j ∧ cMany (cCore B) j s5 = (l.map Core.ws, p', false)) := ⟨hjl, hM⟩
      have HPU : Hid (∀ (w4 : World) (l4 : List Win) (s4 : CS) (ad4 : Option Addr) (cp4 : Nat), Keeps (· = b) wr.drew w4 → CuS w4 b g o cap B s4 → Lst eWin w4 wr.drew.heap.size ad4 cp4 l4 → ∃ v' W', (∃ a5 n5 c5, v' = .slice a5 n5 c5) ∧ (∀ ty, (Builtin.append_ #[22, 22] ty #[u, .slice (some ⟨w4.heap.size, 0, none⟩) 1 1]).run Tryz.prog (w4.alloc (.cells #[.slice ad4 l4.length cp4] 43)) = .ok v' W') ∧ Blk W' X [.int .i64 (V1 : Int), .int .i64 (V2 : Int), .int .i64 (V3 : Int), .int .i64 (V4 : Int), u, .slice none 0 0, .slice none 0 0] 26 ∧
          PSt w (W'.setCell ⟨X, 4, none⟩ v') C X b g o cap B s4 26 zCfgR [.int .i64 (V1 : Int), .int .i64 (V2 : Int), .int .i64 (V3 : Int), .int .i64 (V4 : Int), v', .slice none 0 0, .slice none 0 0] ∧ Row eCore (W'.setCell ⟨X, 4, none⟩ v') (X + 1) v' (l ++ [⟨ad4, cp4, l4⟩])) := by
        intro w4 l4 s4 ad4 cp4 hK4 hC4 hL4
        obtain ⟨i0, hi, hz0, hz1, hz2⟩ := info_parts Tryz.info43
        have hKd : Keeps (fun _ => False) wr wr.drew := (Keeps.refl _ wr).drew
        obtain ⟨v', W', h1, h2, h3, h4, h5, h6⟩ := elem_push (E := eCore) 22 i0 _ 24 Tryz.underlying22 hi hz0 hz1 hz2 rfl (by omega) (x := ⟨ad4, cp4, l4⟩) 4 rfl (hP.up hKd fun k e => e.elim) (hRow.kept hKd fun k e => e.elim) ⟨by omega, by have := (hP.up hKd fun k e => e.elim).xB.lt; omega⟩ (by omega) hK4 hC4 ⟨hL4.seg, hL4.len, hL4.ok⟩
          (fun k hk => by obtain ⟨h1, y, h2, rfl⟩ := blk1_mem.1 hk; exact ⟨hL4.low h1 y h2, hL4.blk h1 y h2⟩) (by intro v hv; have : v = _ := List.mem_singleton.1 hv; rw [this]; rfl)
        obtain ⟨a5, c5, h7, _⟩ := h3.lst
        exact ⟨v', W', ⟨a5, _, c5, h7⟩, h1, h4, h2, h3⟩
      have hS0 : wr.cell? ⟨X, 4, none⟩ = some u := hP.xB.cell (i := 4) rfl
      have HPP : Hid (PSt w wr C X b g o cap B (p', false) 26 zCfgR [.int .i64 (V1 : Int), .int .i64 (V2 : Int), .int .i64 (V3 : Int), .int .i64 (V4 : Int), u, .slice none 0 0, .slice none 0 0]) := hP
      clear hjl hM hP hRow
      go_wp2_with fail
      go_region_law (first
          | (refine step_append_run (by rfl) (.tmp 38) (.tmp 41) 22 22 (by rfl) u (.slice (some ⟨w4.heap.size, 0, none⟩) 1 1) (.slice a5 n5 c5) W' (by rfl) (by rfl) happ ?_; have hS2 : W'.cell? ⟨X, 4, none⟩ = some u := hB4.cell (i := 4) rfl; have hfz := hB4.frozen 4)
          | (go_simp; go_at_call 69; refine (cWins_any b g o cap (p', false) B _ (HPP.out.cu.keptB ((Keeps.refl (fun _ => False) wr).drew) (fun e => e) (fun _ e => e))).mono ?_; rintro e w4 ⟨⟨l4, s4, ad4, cp4, he4, rfl, hL4, hC4⟩, hK4⟩; obtain ⟨_, W', ⟨a5, n5, c5, rfl⟩, happ, hB4, hP4, hR4⟩ := HPU.out w4 l4 s4 ad4 cp4 hK4 hC4 hL4; obtain ⟨N4, hN4⟩ : ∃ N4, l4.length = N4 := ⟨_, rfl⟩; rw [hN4] at happ ⊢; have hB9 := HPP.out.xB.drew.kept hK4 (by have := HPP.out.lo; omega); have hS : w4.cell? ⟨X, 4, none⟩ = some u := hB9.cell (i := 4) rfl; have hS3 : (w4.alloc (.cells #[.slice ad4 N4 cp4] 43)).cell? ⟨X, 4, none⟩ = some u := (hB9.alloc _).cell (i := 4) rfl))
      all_goals
        have hX : cMany (cCore B) (j + 1) s5 = ((l ++ [(⟨ad4, cp4, l4⟩ : Core)]).map Core.ws, s4) := by rw [List.map_append]; exact cMany_more HJ.out.2 rfl he4
        have HNX : Hid (Inv1 w C X b g o cap B s5 V1 V2 V3 V4 V5 (.int .i64 ((j : Int) + 1)) (W'.setCell ⟨X, 4, none⟩ (.slice a5 n5 c5))) := ⟨j + 1, l ++ [⟨ad4, cp4, l4⟩], s4, _, by omega, by go_num, by rw [List.length_append, HJ.out.1]; rfl, hX, hP4, hR4⟩
        clear hX hP4 hR4 hC4 hL4 hK4 he4 happ hB4 hN4 hB9
        go_wp2
        go_roundw
        case rel => exact HNX.out
        case measure => simp [intOf]; omega
    · have hend : cMany (cCore B) V5 s5 = (l.map Core.ws, p', bad') := by
        by_cases hl : j < V5
        · have hb : bad' = true := by cases bad' with | true => rfl | false => exact (hgo ⟨hl, rfl⟩).elim
          rw [cMany_stop (j := j) (by rw [hM]; exact hb) V5 hj, hM]
        · obtain rfl : j = V5 := by omega
          exact hM
      obtain ⟨ad, cp, hu, hL⟩ := hRow.lst
      have HJ : Hid (Cut1 w C X b g o cap B s4 V1 V2 V3 V4 wr) := ⟨l, (p', bad'), ad, cp, by unfold cList; rw [HS5.out]; exact hend, by rw [← hu]; exact hP, hL.h⟩
      clear hjl hM hRow hL hend hP hu
      by_cases hl : j < V5
      · have hb : bad' = true := by cases bad' with | true => rfl | false => exact (hgo ⟨hl, rfl⟩).elim
        subst hb
        have hl' : (j : Int) < V5 := by omega
        clear hgo
        go_wp2
        go_meet
        exact HJ.out
      · have hl' : ¬ (j : Int) < V5 := by omega
        clear hgo
        go_wp2
        go_meet
        exact HJ.out
end Go.Proofs.YtjadpbkhfclldaaGreat
