import Derived.Test.YtajhkilclmicjaaGw
namespace Go.Proofs.Ytajhkilclmicjaa
open Go.RowKit Go.Shelf
set_option linter.unusedVariables false

theorem owned_ge {W : World} {G : Nat} {vs : Nat → Value} {cur : Nat → List Int} {D : Nat → Prop} (h : Four W G vs cur D) {b : Nat} (hb : Owned vs b) : D b ∧ b < W.heap.size := by
  obtain ⟨i, hi, hg⟩ := hb
  exact ⟨(h.own i hi b hg).2.1, (h.own i hi b hg).2.2⟩

set_option maxRecDepth 20000 in
set_option maxHeartbeats 4000000 in
theorem keeps_any (a0 : Option Addr) (ws : List Nat) (cap : Nat) (mark : Int) (w : World) (hseg : SegU w a0 ws) (hlen : ws.length ≤ maxLen) (hws : ∀ x ∈ ws, x ≤ 65535) (hmark : I64 mark) :
    Calls Try.prog 7 #[.slice a0 ws.length cap, .int .i64 mark] w fun r w' => r = .returned (.bool true) ∧ Keeps (fun _ => False) w w' := by
  have H0 : Hid (Calls _ _ _ _ _) := touched_any a0 ws cap w hseg hlen hws
  obtain ⟨N, hN⟩ : ∃ N, N = ws.length := ⟨_, rfl⟩
  rw [← hN] at H0 ⊢
  have hN2 : (N : Int) ≤ 9223372036854775807 := by unfold maxLen at hlen; omega
  obtain ⟨ca, hca⟩ : ∃ c, c = w.heap.size := ⟨_, rfl⟩
  rw [← hca] at H0
  have HC : Hid (ca = w.heap.size) := hca
  clear hca hseg hlen hws hN hmark
  go_enter Try.func7, Try.ntmps7
  go_wp2_with fail
  refine H0.out.mono ?_
  rintro r w1 ⟨rfl, ⟨st, F1, f1, f2, f3⟩, f4⟩
  have HF : Hid (Ca w1 ca st F1 ∧ Good st ∧ (∀ b, F1 b → w.heap.size ≤ b) ∧ Keeps (fun _ => False) w w1) := ⟨f1, f2, fun b hb => by have := f3 b hb; have := HC.out; omega, f4⟩
  have H1 : Hid (Calls _ _ _ _ _) := lines_any ca st F1 w1 f1
  clear H0 f1 f2 f3 f4
  go_wp2_with fail
  refine H1.out.mono ?_
  rintro r w2 ⟨Gl, vl, rfl, g1, g2, g3⟩
  have HG : Hid (Four w2 Gl vl st (fun b => w1.heap.size ≤ b ∧ b < w2.heap.size) ∧ w1.heap.size ≤ Gl ∧ Gl < w2.heap.size ∧ Keeps (fun _ => False) w1 w2) := ⟨g1.mono fun b hb hlt => ⟨hb, hlt⟩, g2, g1.blk.lt, g3⟩
  have H2 : Hid (Calls _ _ _ _ _) := copied_any Gl vl st 4 w2 g1.lst fun i hi => HF.out.1.fits i hi
  clear H1 g1 g2 g3
  go_wp2_with fail
  refine H2.out.mono ?_
  rintro r w3 ⟨Gw, vw, cw, rfl, g1, g2⟩
  have HL : Hid (LD w3 Gw vw st (fun b => w2.heap.size ≤ b ∧ b < w3.heap.size) ∧ Keeps (fun _ => False) w2 w3) := ⟨g1, g2⟩
  have H3 : Hid (Calls _ _ _ _ _) := newC_any w3
  obtain ⟨cb, hcb⟩ : ∃ c, c = w3.heap.size := ⟨_, rfl⟩
  rw [← hcb] at H3
  have HB : Hid (cb = w3.heap.size) := hcb
  clear H2 g1 g2 hcb
  go_wp2_with fail
  refine H3.out.mono ?_
  rintro r w4 ⟨rfl, ⟨F2, k1, k2⟩, k3⟩
  have H4 : Hid (Calls Try.prog 16 #[ptr cb, .int .i64 4] w4 _) := touch_any cb 4 _ F2 w4 k1 (by omega)
  have HK : Hid ((∀ b, F2 b → w3.heap.size ≤ b) ∧ Keeps (fun _ => False) w3 w4) := ⟨fun b hb => by have := k2 b hb; have := HB.out; omega, k3⟩
  obtain ⟨n0, hn0⟩ : ∃ n, n = cost (4 / 4) (fun _ => []) := ⟨_, rfl⟩
  rw [← hn0] at H4
  clear H3 k1 k2 k3 hn0
  go_wp2_with fail
  refine H4.out.mono ?_
  rintro r w5 ⟨rfl, hN5⟩
  obtain ⟨F5, m1, m2, m3⟩ := hN5.step HK.out.2 HK.out.1
  have H5 : Hid (Calls _ _ _ _ _) := laid_any cb _ F5 Gw vw st (fun b => w2.heap.size ≤ b ∧ b < w3.heap.size) cw mark w5 m1 (HL.out.1.kept m3 fun _ _ h => h) (fun b hb => ⟨by have := m3.size; omega, fun hf => by have := m2 b hf; omega⟩) (fun i hi => ⟨HF.out.1.fits i hi, HF.out.1.nodup i hi⟩) HF.out.2.1
  have HM : Hid ((∀ b, F5 b → w3.heap.size ≤ b) ∧ Keeps (fun _ => False) w3 w5) := ⟨m2, m3⟩
  clear H4 hN5 m1 m2 m3 HK
  go_wp2_with fail
  refine H5.out.mono ?_
  rintro r w6 ⟨rfl, hN6⟩
  -- where all stands behind laid
  have H6 : Hid (Ca w6 ca st F1 ∧ (∃ F6, Ca w6 cb st F6 ∧ ∀ b, F6 b → w3.heap.size ≤ b) ∧ Four w6 Gl vl st (fun b => w1.heap.size ≤ b ∧ b < w2.heap.size) ∧ LD w6 Gw vw st (fun b => w2.heap.size ≤ b ∧ b < w3.heap.size) ∧ Keeps (fun b => w1.heap.size ≤ b) w w6) := by
    obtain ⟨p1, p2, p3, p4⟩ := HF.out
    obtain ⟨q1, q2, q3, q4⟩ := HG.out
    obtain ⟨r1, r2⟩ := HL.out
    obtain ⟨t1, t2⟩ := HM.out
    obtain ⟨⟨F6, c1, c2⟩, c3⟩ := hN6
    have z1 := q4.size
    have z2 := r2.size
    have z3 := t2.size
    have k25 : Keeps (fun _ => False) w2 w5 := r2.trans t2 fun _ _ h => h
    refine ⟨(((p1.kept q4 fun _ _ h => h).kept k25 fun _ _ h => h).kept c3 fun b hb hf => ?_), ⟨F6, c1, fun b hb => ?_⟩, (q1.kept k25 (fun h => h) fun _ _ h => h).kept c3 (fun hf => ?_) fun b hb hf => ?_, (r1.kept t2 fun _ _ h => h).kept c3 fun b hb hf => ?_, ((((p4.trans q4 fun _ _ h => h).trans k25 fun _ _ h => h)).mono fun _ _ h => h.elim).trans c3 fun b hb hf => ?_⟩
    · have := p1.lt b hb; have := t1 b hf; omega
    · rcases c2 b hb with h | h
      · exact t1 b h
      · omega
    · have := t1 _ hf; omega
    · have := t1 _ hf; omega
    · have := t1 _ hf; omega
    · have := t1 _ hf; omega
  have H7 : Hid (∀ mk, Calls Try.prog 22 #[.slice (some ⟨Gl, 0, none⟩) 4 4, .int .i64 mk] w6 _) := fun mk => spoil_any Gl vl st _ 4 mk w6 H6.out.2.2.1 fun i hi => HF.out.1.fits i hi
  clear H5 hN6
  go_wp2_with fail
  refine (H7.out _).mono ?_
  rintro r w7 ⟨rfl, ⟨cur', hF7, hl7⟩, hK7⟩
  have H8 : Hid (∀ mk, Calls Try.prog 23 #[.slice (some ⟨Gl, 0, none⟩) 4 4, .int .i64 mk] w7 _) := fun mk => grown_any Gl vl cur' _ 4 mk w7 hF7 fun i hi => by rw [hl7 i hi]; exact HF.out.1.fits i hi
  have HK7 : Hid (Keeps (Owned vl) w6 w7) := hK7
  clear H7 hF7 hl7 hK7
  go_wp2_with fail
  refine (H8.out _).mono ?_
  rintro r w8 ⟨rfl, hK8⟩
  have H9 : Hid (Ca w8 ca st F1 ∧ (∃ F6, Ca w8 cb st F6 ∧ ∀ b, F6 b → b < w8.heap.size) ∧ LD w8 Gw vw st (fun b => b < w8.heap.size) ∧ Keeps (fun b => w1.heap.size ≤ b) w w8) := by
    obtain ⟨p1, ⟨F6, c1, c2⟩, p3, p4, p5⟩ := H6.out
    have hK : Keeps (Owned vl) w6 w8 := HK7.out.trans hK8 fun _ _ h => h
    have ho : ∀ b, Owned vl b → w1.heap.size ≤ b ∧ b < w2.heap.size := fun b hb => (owned_ge p3 hb).1
    have z2 := HL.out.2.size
    have z3 := HM.out.2.size
    have z6 := (p1.lt)
    have hz : w3.heap.size ≤ w8.heap.size := by
      have h1 := HF.out.1.lt
      have := p5.size
      have hLDlt := World.block_lt_of_cell? w6 _ (p4.lst.cell 0 (by omega))
      have h2 := c1.lt _ c1.self
      have h3 := c2 _ c1.self
      have := hK.size
      omega
    refine ⟨p1.kept hK fun b hb he => ?_, ⟨F6, c1.kept hK fun b hb he => ?_, fun b hb => ?_⟩, (p4.kept hK fun b hb he => ?_).mono fun b hb => ?_, p5.trans hK fun b hb he => (ho b he).1⟩
    · have := (ho b he).1; have := HF.out.1.lt b hb; omega
    · have := (ho b he).2; have := c2 b hb; omega
    · exact (c1.kept hK fun b hb he => by have := (ho b he).2; have := c2 b hb; omega).lt b hb
    · have := (ho b he).2; omega
    · omega
  have H10 : Hid (Calls _ _ _ _ _) := lines_any ca st F1 w8 H9.out.1
  clear H8 hK8 HK7 H6
  go_wp2_with fail
  refine H10.out.mono ?_
  rintro r w9 ⟨Gx, vx, rfl, g1, g2, g3⟩
  have HX : Hid (LD w9 Gx vx st (fun b => b < w9.heap.size) ∧ Keeps (fun _ => False) w8 w9) := ⟨((g1.mono fun b _ hlt => hlt)).ld g1.blk.lt, g3⟩
  obtain ⟨F6, c1, c2⟩ := H9.out.2.1
  have H11 : Hid (Calls _ _ _ _ _) := lines_any cb st F6 w9 (c1.kept g3 fun _ _ h => h)
  have HCB : Hid (Ca w8 cb st F6 ∧ ∀ b, F6 b → b < w8.heap.size) := ⟨c1, c2⟩
  clear H10 g1 g2 g3 c1 c2
  go_wp2_with fail
  refine H11.out.mono ?_
  rintro r w10 ⟨Gy, vy, rfl, g1, g2, g3⟩
  have HY : Hid (Four w10 Gy vy st (fun b => w9.heap.size ≤ b) ∧ Keeps (fun _ => False) w9 w10) := ⟨g1, g3⟩
  have hfit : Hid (∀ i, i < 4 → (st i).length ≤ 2) := fun i hi => HF.out.1.fits i hi
  have HLX : Hid (LD w10 Gx vx st (fun b => b < w9.heap.size) ∧ LD w10 Gw vw st (fun b => b < w8.heap.size) ∧ Four w10 Gy vy st (fun b => w9.heap.size ≤ b)) := ⟨HX.out.1.kept g3 fun _ _ h => h, (H9.out.2.2.1.kept HX.out.2 fun _ _ h => h).kept g3 fun _ _ h => h, g1⟩
  have H12 : Hid (Calls _ _ _ _ _) := same_any Gx Gw vx vw st 4 cw w10 HLX.out.1.lst HLX.out.2.1.lst hfit.out
  clear H11 g1 g2 g3
  go_wp2_with fail
  refine H12.out.mono ?_
  rintro r w11 ⟨rfl, hK11⟩
  have HK11 : Hid (Keeps (fun _ => False) w10 w11) := hK11
  have H13 : Hid (Calls _ _ _ _ _) := same_any Gy Gw vy vw st 4 cw w11 (HLX.out.2.2.lst.kept hK11) (HLX.out.2.1.lst.kept hK11) hfit.out
  clear H12 hK11
  go_wp2_with fail
  refine H13.out.mono ?_
  rintro r w12 ⟨rfl, hK12⟩
  have HK12 : Hid (Keeps (fun _ => False) w10 w12) := HK11.out.trans hK12 fun _ _ h => h
  have H14 : Hid (∀ mk, Calls Try.prog 22 #[.slice (some ⟨Gy, 0, none⟩) 4 4, .int .i64 mk] w12 _) := fun mk => spoil_any Gy vy st _ 4 mk w12 (HLX.out.2.2.kept HK12.out (fun h => h) fun _ _ h => h) hfit.out
  clear H13 hK12 HK11
  go_wp2_with fail
  refine (H14.out _).mono ?_
  rintro r w13 ⟨rfl, -, hK13⟩
  have H15 : Hid (Ca w13 cb st F6 ∧ LD w13 Gx vx st (fun b => b < w9.heap.size) ∧ LD w13 Gw vw st (fun b => b < w8.heap.size) ∧ Keeps (fun b => w1.heap.size ≤ b) w w13) := by
    obtain ⟨p1, p2, p3⟩ := HLX.out
    have ho : ∀ b, Owned vy b → w9.heap.size ≤ b := fun b hb => (owned_ge p3 hb).1
    have z9 := HX.out.2.size
    have k812 : Keeps (fun _ => False) w8 w12 := (HX.out.2.trans HY.out.2 fun _ _ h => h).trans HK12.out fun _ _ h => h
    refine ⟨((HCB.out.1.kept k812 fun _ _ h => h).kept hK13 fun b hb he => ?_), (p1.kept HK12.out fun _ _ h => h).kept hK13 fun b hb he => ?_, (p2.kept HK12.out fun _ _ h => h).kept hK13 fun b hb he => ?_, (H9.out.2.2.2.trans k812 fun _ _ h => h.elim).trans hK13 fun b hb he => ?_⟩
    · have := ho b he; have := HCB.out.2 b hb; omega
    · have := ho b he; omega
    · have := ho b he; omega
    · have := ho b he; have := H9.out.2.2.2.size; omega
  have H16 : Hid (Calls _ _ _ _ _) := lines_any cb st F6 w13 H15.out.1
  clear H14 hK13 HK12
  go_wp2_with fail
  refine H16.out.mono ?_
  rintro r w14 ⟨Gz, vz, rfl, g1, g2, g3⟩
  have H17 : Hid (Calls _ _ _ _ _) := same_any Gz Gw vz vw st 4 cw w14 g1.lst (H15.out.2.2.1.lst.kept g3) hfit.out
  have HK14 : Hid (Keeps (fun _ => False) w13 w14) := g3
  clear H16 g1 g2 g3
  go_wp2_with fail
  refine H17.out.mono ?_
  rintro r w15 ⟨rfl, hK15⟩
  have HK15 : Hid (Keeps (fun _ => False) w13 w15) := HK14.out.trans hK15 fun _ _ h => h
  have H18 : Hid (Calls _ _ _ _ _) := same_any Gx Gw vx vw st 4 cw w15 (H15.out.2.1.lst.kept HK15.out) (H15.out.2.2.1.lst.kept HK15.out) hfit.out
  clear H17 hK15 HK14
  go_wp2_with fail
  refine H18.out.mono ?_
  rintro r w16 ⟨rfl, hK16⟩
  have HE : Hid (Keeps (fun _ => False) w w16) := by
    refine ((H15.out.2.2.2.trans HK15.out fun _ _ h => h.elim).trans hK16 fun _ _ h => h.elim).mono fun b hb h => ?_
    have := HF.out.2.2.2.size
    omega
  clear H18 hK16 HK15
  go_wp2
  go_ret
  exact ⟨rfl, HE.out⟩

end Go.Proofs.Ytajhkilclmicjaa
