import Derived.Test.YthaoopaafdgioabL
namespace Go.Proofs.Ythaoopaafdgioab
open Go.RowKit
set_option linter.unusedVariables false
set_option linter.unusedSimpArgs false
set_option maxRecDepth 6000
variable {f : Nat} {bs : Array Value} {S : Nat → Prop} {J : World → Int → List (Ow × Int) → Prop}

theorem Try.mixed : Try.prog.follows Departure.mixedOrders = true := by kernel_rfl
theorem Try.size63 : (Try.prog.info? 63).map (·.size) = some 5 := by kernel_rfl
theorem all59 (n1 n2 n3 n4 : Int) (a1 : Option Addr) (m1 c1 : Nat) : (#[Value.int .i64 n1, .int .i64 n2, .int .i64 n3, .int .i64 n4, .slice a1 m1 c1] : Array Value).all (fun v => v.oneCell') = true := by kernel_rfl
theorem Cfg.mayB_chn {x : Cfg} (hm : x.mayB = true) {n : Nat} {h : Chn} (hh : x.hs[n]? = some h) :
    h.sized = true ∧ (∃ s, endsL true n x.ps x.ps.length = [s]) ∧ 1 ≤ (endsL false n x.ps x.ps.length).length ∧ (endsL false n x.ps x.ps.length).length ≤ 4 := by
  have h1 := (Cfg.mayB_iff.1 hm).2.2.2.2.2 n (List.getElem?_eq_some_iff.1 hh).1
  rw [chnB_some hh] at h1
  unfold Chn.whole joined at h1
  simp only [Bool.and_eq_true, decide_eq_true_eq] at h1
  refine ⟨h1.1.1, ?_, h1.2.1.2, h1.2.2⟩
  exact List.length_eq_one_iff.1 h1.2.1.1
theorem Cfg.mayB_ends {x : Cfg} (hm : x.mayB = true) : x.ps.length ≤ 8 ∧ ∀ P ∈ x.ps, P.ps.length ≤ 8 :=
  ⟨(Cfg.mayB_iff.1 hm).2.2.1, fun P hP => (Par.mayB_iff.1 ((Cfg.mayB_iff.1 hm).2.2.2.2.1 P hP)).2.1⟩
/-- What is dealt for the first j destinations. -/
def destH (D : List Dst) (k : Int) (j : Nat) : List (Ow × Int) := (D.take j).map fun d => (⟨8, d.p, d.q⟩, k)
theorem destH_succ {D : List Dst} {k : Int} {j : Nat} {d : Dst} (hd : D[j]? = some d) : destH D k (j + 1) = destH D k j ++ [(⟨8, d.p, d.q⟩, k)] := by
  unfold destH; rw [List.take_add_one, hd]; simp
def chanH (n : Nat) (h : Chn) (D : List Dst) : List (Ow × Int) := [(⟨6, n, 0⟩, 2), (⟨7, n, 0⟩, h.stg)] ++ destH D h.prt D.length
/-- A channel was laid. -/
def ChP (J : World → Int → List (Ow × Int) → Prop) (S : Nat → Prop) (x : Cfg) (n : Nat) (h : Chn) (w : World) (a : Int) (hist : List (Ow × Int)) (e : Ending) (w' : World) : Prop :=
  ∃ s v, endsL true n x.ps x.ps.length = [s] ∧ e = .returned (.agg #[.int .i64 a, .int .i64 (a + 2), .int .i64 s.p, .int .i64 s.q, v]) ∧
    Row eDst w' w.heap.size v (placed (endsL false n x.ps x.ps.length) (a + 2 + h.stg) h.prt (endsL false n x.ps x.ps.length).length) ∧
    J w' (a + 2 + h.stg + (endsL false n x.ps x.ps.length).length * h.prt) (hist ++ chanH n h (endsL false n x.ps x.ps.length)) ∧ Keeps S w w'

set_option maxHeartbeats 2000000 in
theorem layChannel_any (hD : Dl f bs S J) (x : Cfg) (n : Nat) (h : Chn) (hh : x.hs[n]? = some h) (hm : x.mayB = true) (w : World) (N : Nat) (hi : x.In w N) (hN : N ≤ w.heap.size) (a : Int) (hist : List (Ow × Int)) (hJ : J w a hist) (hS : ∀ k, S k → N ≤ k ∧ k < w.heap.size) (h0 : 0 ≤ a) (h1 : a ≤ 800000) :
    Calls Try.prog 40 #[x.v, .int .i64 n, .func (.func f) #[] bs] w (ChP J S x n h w a hist) := by
  have hent := hD.ent
  have e40 := fun args w => call_enter (args := args) (w := w) Try.func50 (by kernel_rfl) (by kernel_rfl)
  have e41 := fun args w => call_enter (args := args) (w := w) Try.func51 (by kernel_rfl) (by kernel_rfl)
  obtain ⟨hsz, ⟨s, hs⟩, hd1, hd4⟩ := Cfg.mayB_chn hm hh
  obtain ⟨D, hDd⟩ : ∃ D, endsL false n x.ps x.ps.length = D := ⟨_, rfl⟩
  rw [hDd] at hd1 hd4
  obtain ⟨b1, b2⟩ := Chn.plc_bd hsz
  have hst : 3 ≤ h.stg ∧ h.stg ≤ 137 := by unfold Chn.stg; omega
  have hpt : 4 ≤ h.prt ∧ h.prt ≤ 139 := by unfold Chn.prt; split <;> omega
  have hnl : (n : Int) < x.hs.length := by have := (List.getElem?_eq_some_iff.1 hh).1; omega
  have hcc : (x.hs.length : Int) ≤ x.hc ∧ (x.hc : Int) ≤ 9223372036854775807 := by have := hi.hlen; unfold maxLen at this; omega
  have HC60 : Hid (∀ w, x.In w N → N ≤ w.heap.size → Calls Try.prog 49 #[x.v, .int .i64 n] w (EndsP w n x.ps)) := fun w hi hN => ends_any x n w N hi hN (Cfg.mayB_ends hm)
  have HST : Hid (∀ w, Calls Try.prog 50 #[h.v] w fun e w' => e = .returned (.int .i64 h.stg) ∧ Keeps (fun _ => False) w w') := stage_any h hsz
  have HPT : Hid (∀ w, Calls Try.prog 51 #[h.v] w fun e w' => e = .returned (.int .i64 h.prt) ∧ Keeps (fun _ => False) w w') := port_any h hsz
  obtain ⟨g0, o0, ha, hc⟩ := hi.chn hh
  obtain ⟨W0, hW0⟩ : ∃ W0, W0 = (x.laid w).alloc (.cells #[.int .i64 0, .int .i64 0, .int .i64 0, .int .i64 0, .slice none 0 0] 63) := ⟨_, rfl⟩
  obtain ⟨C, hC⟩ : ∃ C, C = w.heap.size := ⟨_, rfl⟩
  obtain ⟨W1, hW1⟩ : ∃ W1, W1 = W0.alloc (.cells #[.int .i64 h.kind, .int .i64 h.words, .int .i64 h.depth] 91) := ⟨_, rfl⟩
  have k0 : Keeps (fun _ => False) w W0 := by rw [hW0]; exact ((Keeps.refl _ _).alloc _).alloc _
  have hs0 : W0.heap.size = C + 2 := by rw [hW0, hC]; simp [Cfg.laid]
  have HI1 : Hid (ChI w x h C N S W1 ∧ J W1 a hist) := by
    have k1 : Keeps (fun _ => False) w W1 := by rw [hW1]; exact k0.alloc _
    have hB0 : Blk W0 C x.vs 26 := by rw [hW0, hC]; exact (Blk.new w _ _).alloc _
    have hB1 : Blk W0 (C + 1) [.int .i64 0, .int .i64 0, .int .i64 0, .int .i64 0, .slice none 0 0] 63 := by
      rw [hW0, hC]
      have := Blk.new (x.laid w) #[.int .i64 0, .int .i64 0, .int .i64 0, .int .i64 0, .slice none 0 0] 63
      simpa [Cfg.laid] using this
    have hB2 : Blk W1 (C + 2) h.vs 91 := by rw [hW1, ← hs0]; exact Blk.new W0 _ _
    refine ⟨⟨by rw [hW1]; exact hB0.alloc _, by rw [hW1]; exact hB1.alloc _, hB2, k1.mono fun _ _ h => h.elim, hi.keeps hN k1, hC, by omega, hS, by rw [hW1]; simp; omega⟩, hD.kept hJ k1 fun _ _ h => h⟩
  have c6 : W0.cell? ⟨C, 6, none⟩ = some (.slice (some ⟨g0, o0, none⟩) x.hs.length x.hc) := by
    rw [← ha, hW0, hC]
    exact ((Blk.new w _ _).alloc _).cell rfl
  have hc0 := fun i v hv => World.cell?_of_block (w := w) (a := ⟨g0, o0 + n * 3 + i, none⟩) (k0.block g0 (World.block_lt_of_cell? w _ (hc 0 _ rfl)) fun h => h) |>.trans (hc i v hv)
  have q0 := hc0 0 _ rfl
  rw [Nat.add_zero] at q0
  have q1 := hc0 1 _ rfl
  have q2 := hc0 2 _ rfl
  have HD : Hid (Dl f bs S J) := hD
  have HE : Hid (endsL true n x.ps x.ps.length = [s] ∧ endsL false n x.ps x.ps.length = D ∧ chanH n h D = [(⟨6, n, 0⟩, 2), (⟨7, n, 0⟩, h.stg)] ++ destH D h.prt D.length) := ⟨hs, hDd, rfl⟩
  unfold Cfg.laid at hW0
  clear hD hJ hS hi hN hm hh hsz hc hc0 k0 hs hDd b1 b2
  rw [ha] at hW0
  go_enter Try.func40, Try.ntmps40
  go_upto_region 1 with fail
  rw [← hW0, ← hC]
  clear hW0 hC
  go_upto_region 2 with fail
  rw [← hW1]
  clear hs0 hW1 c6 q0 q1 q2
  have s0 := HI1.out.1.shp.cell (i := 0) rfl
  have s1 := HI1.out.1.shp.cell (i := 1) rfl
  have s2 := HI1.out.1.shp.cell (i := 2) rfl
  have b0 := HI1.out.1.cfg.cell (i := 0) rfl
  have b1 := HI1.out.1.cfg.cell (i := 1) rfl
  have b2 := HI1.out.1.cfg.cell (i := 2) rfl
  have b3 := HI1.out.1.cfg.cell (i := 3) rfl
  have b4 := HI1.out.1.cfg.cell (i := 4) rfl
  have b5 := HI1.out.1.cfg.cell (i := 5) rfl
  have b6 := HI1.out.1.cfg.cell (i := 6) rfl
  rw [ha] at b6
  go_quiet (fail)
  obtain ⟨W2, hW2⟩ : ∃ W2, W2 = W1.drewN nq := ⟨_, rfl⟩
  have HI2 : Hid (ChI w x h C N S W2 ∧ J W2 a hist) := by
    rw [hW2]; exact ⟨HI1.out.1.grow ((Keeps.refl _ _).drewN _), HD.out.kept HI1.out.2 ((Keeps.refl (fun _ => False) _).drewN _) fun _ _ h => h⟩
  rw [← hW2]
  clear hW2 HI1 s0 s1 s2 b0 b1 b2 b3 b4 b5 b6
  have b0 := HI2.out.1.cfg.cell (i := 0) rfl
  have b1 := HI2.out.1.cfg.cell (i := 1) rfl
  have b2 := HI2.out.1.cfg.cell (i := 2) rfl
  have b3 := HI2.out.1.cfg.cell (i := 3) rfl
  have b4 := HI2.out.1.cfg.cell (i := 4) rfl
  have b5 := HI2.out.1.cfg.cell (i := 5) rfl
  have b6 := HI2.out.1.cfg.cell (i := 6) rfl
  rw [ha] at b6
  have HC : Hid (Calls Try.prog 49 #[.agg #[.int .i64 x.frames, .int .i64 x.major, .int .i64 x.kernel, .int .i64 x.room, .slice x.ca x.cs.length x.cc, .slice x.pa x.ps.length x.pc, .slice (some ⟨g0, o0, none⟩) x.hs.length x.hc], .int .i64 n] W2 (EndsP W2 n x.ps)) := by
    have hnn : N ≤ W2.heap.size := by have := HI2.out.1.n; have := HI2.out.1.sz; omega
    have := HC60.out W2 HI2.out.1.cin hnn
    unfold Cfg.v at this
    rw [ha] at this
    exact this
  go_wp2_with fail
  refine HC.out.mono ?_
  rintro e w3 ⟨u, v, rfl, hT, hK⟩
  rw [HE.out.1, HE.out.2.1] at hT
  obtain ⟨gu, cu, rfl, hu1, hu2, hu3, hu4⟩ := hT.ra.somes (by simp)
  obtain ⟨g, cap, rfl, hv1, hv2, hv3, hv4⟩ := hT.rb.somes (fun e => by rw [e] at hd1; simp at hd1)
  obtain ⟨d, hd⟩ : ∃ d, D.length = d := ⟨_, rfl⟩
  obtain ⟨lo, hlo⟩ : ∃ lo, W2.heap.size = lo := ⟨_, rfl⟩
  simp only [hd, hlo, List.length_cons, List.length_nil, Nat.zero_add] at hT hd1 hd4 hv1 hv3 hu1 hu3 ⊢
  have HI3 : Hid (ChI w x h C N S w3 ∧ J w3 a hist ∧ Two w3 lo (.slice (some ⟨gu, 0, none⟩) 1 cu) (.slice (some ⟨g, 0, none⟩) d cap) [s] D ∧ C + 3 ≤ lo) :=
    ⟨HI2.out.1.grow hK, HD.out.kept HI2.out.2 hK fun _ _ h => h, hT, by rw [← hlo]; exact HI2.out.1.sz⟩
  have hG : Hid (D.length = d ∧ lo ≤ g ∧ lo ≤ gu ∧ D ≠ []) := ⟨hd, hv3, hu3, fun e => by rw [e] at hd; simp at hd; omega⟩
  have hcap : (d : Int) ≤ cap ∧ (cap : Int) ≤ 9223372036854775807 ∧ (1 : Int) ≤ cu ∧ (cu : Int) ≤ 9223372036854775807 := by unfold maxLen at hv2 hu2; omega
  clear hK hT HC HC60 b0 b1 b2 b3 b4 b5 b6 hd hlo hv1 hv2 hv3 hv4 hu1 hu2 hu3 hu4
  have HC : Hid (Calls Try.prog f (#[Ow.v ⟨6, n, 0⟩, .int .i64 2] ++ bs) w3 fun e w' => e = .returned (.int .i64 a) ∧ J w' (a + 2) (hist ++ [(⟨6, n, 0⟩, 2)]) ∧ Keeps S w3 w') := HD.out.call w3 a hist ⟨6, n, 0⟩ 2 HI3.out.2.1 h0 (by omega) (by omega) (by omega)
  go_wp2_with fail
  refine HC.out.mono ?_
  rintro e w4 ⟨rfl, hj, hK⟩
  have noS : ∀ k, S k → k < C + 3 := fun k hk => by have := (HI3.out.1.low k hk).2; have := HI3.out.1.cw; omega
  have HS : Hid (∀ k, S k → k < C + 3) := noS
  have HI4 : Hid (ChI w x h C N S w4 ∧ J w4 (a + 2) (hist ++ [(⟨6, n, 0⟩, 2)]) ∧ Two w4 lo (.slice (some ⟨gu, 0, none⟩) 1 cu) (.slice (some ⟨g, 0, none⟩) d cap) [s] D) :=
    ⟨HI3.out.1.kept hK fun k hk => Or.inl hk, hj, HI3.out.2.2.1.kept hK fun k hk => by have := noS k hk; have := HI3.out.2.2.2; omega⟩
  have hlo3 := HI3.out.2.2.2
  have HLO : Hid (C + 3 ≤ lo) := hlo3
  clear hK hj HC noS HI3 hlo3
  go_wp2_with fail
  refine (HST.out w4).mono ?_
  rintro e w5 ⟨rfl, hK⟩
  have HI5 : Hid (ChI w x h C N S w5 ∧ J w5 (a + 2) (hist ++ [(⟨6, n, 0⟩, 2)]) ∧ Two w5 lo (.slice (some ⟨gu, 0, none⟩) 1 cu) (.slice (some ⟨g, 0, none⟩) d cap) [s] D) :=
    ⟨HI4.out.1.grow hK, HD.out.kept HI4.out.2.1 hK fun _ _ h => h, HI4.out.2.2.grow hK⟩
  clear hK HI4
  obtain ⟨SG, hSG⟩ : ∃ SG, h.stg = SG := ⟨_, rfl⟩
  obtain ⟨PT, hPT⟩ : ∃ PT, h.prt = PT := ⟨_, rfl⟩
  have HGP : Hid (h.stg = SG ∧ h.prt = PT) := ⟨hSG, hPT⟩
  rw [hSG] at hst ⊢
  rw [hPT] at HPT hpt
  clear hSG hPT
  have HC : Hid (Calls Try.prog f (#[Ow.v ⟨7, n, 0⟩, .int .i64 SG] ++ bs) w5 fun e w' => e = .returned (.int .i64 (a + 2)) ∧ J w' (a + 2 + SG) ((hist ++ [(⟨6, n, 0⟩, 2)]) ++ [(⟨7, n, 0⟩, SG)]) ∧ Keeps S w5 w') := HD.out.call w5 _ _ ⟨7, n, 0⟩ SG HI5.out.2.1 (by omega) (by omega) (by omega) (by omega)
  go_wp2_with fail
  refine HC.out.mono ?_
  rintro e w6 ⟨rfl, hj, hK⟩
  rw [List.append_assoc] at hj
  obtain ⟨A, hA⟩ : ∃ A, a + 2 + SG = A := ⟨_, rfl⟩
  obtain ⟨H2, hH2⟩ : ∃ H2, hist ++ ([(⟨6, n, 0⟩, 2)] ++ [(⟨7, n, 0⟩, SG)]) = H2 := ⟨_, rfl⟩
  rw [hA, hH2] at hj
  have HA : Hid (a + 2 + SG = A ∧ hist ++ ([(⟨6, n, 0⟩, 2)] ++ [(⟨7, n, 0⟩, SG)]) = H2) := ⟨hA, hH2⟩
  have hAb : 0 ≤ A ∧ A ≤ 810000 := by omega
  have HI6 : Hid (ChI w x h C N S w6 ∧ J w6 A H2 ∧ Two w6 lo (.slice (some ⟨gu, 0, none⟩) 1 cu) (.slice (some ⟨g, 0, none⟩) d cap) [s] D) :=
    ⟨HI5.out.1.kept hK fun k hk => Or.inl hk, hj, HI5.out.2.2.kept hK fun k hk => by have := HS.out k hk; have := HLO.out; omega⟩
  clear hK hj HC HI5 hA hH2
  go_wp2
  go_loopw [43] (fun i wr => ∃ j : Nat, j ≤ d ∧ i = .int .i64 j ∧ ChI w x h C N S wr ∧ J wr (A + j * PT) (H2 ++ destH D PT j) ∧ Two wr lo (.slice (some ⟨gu, 0, none⟩) 1 cu) (.slice (some ⟨g, 0, none⟩) d cap) [s] (placed D A PT j)) (fun i _ => d - (intOf i).toNat)
  case atStart => exact ⟨0, by omega, rfl, HI6.out.1, by simpa [destH] using HI6.out.2.1, by rw [placed_zero]; exact HI6.out.2.2⟩
  case round =>
    obtain ⟨j, hj, rfl, hI, hJ, hT⟩ := hrel
    by_cases hlt : j < d
    · obtain ⟨y, hy⟩ : ∃ y, D[j]? = some y := ⟨_, List.getElem?_eq_getElem (by have := hG.out.1; omega)⟩
      have hpy := placed_at (b := A) (k := PT) hy
      have y0 := hT.rb.cellAt (i := 0) hpy rfl
      have y1 := hT.rb.cellAt (i := 1) hpy rfl
      have y2 := hT.rb.cellAt (i := 2) hpy rfl
      simp only [eDst, Nat.add_zero] at y0 y1 y2
      obtain ⟨W7, hW7⟩ : ∃ W7, W7 = wr.alloc (.cells #[.int .i64 y.p, .int .i64 y.q, .int .i64 y.pos] 72) := ⟨_, rfl⟩
      obtain ⟨E, hE⟩ : ∃ E, E = wr.heap.size := ⟨_, rfl⟩
      have hB : Blk W7 E y.vs 72 := by rw [hW7, hE]; exact Blk.new _ _ _
      have k7 : Keeps (fun _ => False) wr W7 := by rw [hW7]; exact (Keeps.refl _ _).alloc _
      have HK : Hid (ChI w x h C N S W7 ∧ J W7 (A + j * PT) (H2 ++ destH D PT j) ∧ Two W7 lo (.slice (some ⟨gu, 0, none⟩) 1 cu) (.slice (some ⟨g, 0, none⟩) d cap) [s] (placed D A PT j) ∧ D[j]? = some y ∧ (placed D A PT j)[j]? = some y ∧ C + 3 ≤ E ∧ Blk W7 E y.vs 72) :=
        ⟨hI.grow k7, HD.out.kept hJ k7 fun _ _ h => h, hT.grow k7, hy, hpy, by rw [hE]; exact hI.sz, hB⟩
      have HNE : Hid (¬ E = g) := fun e => by have := hT.rb.lt g rfl; omega
      have d0 := hB.cell (i := 0) rfl
      have d1 := hB.cell (i := 1) rfl
      clear hI hJ hT hy hpy hB k7
      go_upto_region 9 with fail
      rw [← hW7, ← hE]
      clear hW7 hE y0 y1 y2
      have hjP : 0 ≤ (j : Int) * PT ∧ (j : Int) * PT ≤ 1000 := by
        have h3 : j = 0 ∨ j = 1 ∨ j = 2 ∨ j = 3 := by omega
        rcases h3 with h3 | h3 | h3 | h3 <;> subst h3 <;> omega
      have HCN : Hid (∀ w', J w' (A + j * PT) (H2 ++ destH D PT j) → Calls Try.prog f (#[Ow.v ⟨8, y.p, y.q⟩, .int .i64 PT] ++ bs) w' fun e w'' => e = .returned (.int .i64 (A + j * PT)) ∧ J w'' (A + j * PT + PT) ((H2 ++ destH D PT j) ++ [(⟨8, y.p, y.q⟩, PT)]) ∧ Keeps S w' w'') :=
        fun w' hj => HD.out.call w' _ _ ⟨8, y.p, y.q⟩ PT hj (by omega) (by omega) (by omega) (by omega)
      clear hjP
      refine wp_region_held_drew (S := (fun w' => w'.cell? ⟨E, 0, none⟩ = some (.int .i64 y.p) ∧ w'.cell? ⟨E, 1, none⟩ = some (.int .i64 y.q))) Try.mixed ⟨d0, d1⟩ (fun hHeld => ?_)
      simp only [List.size_toArray, List.length_cons, List.length_nil, Nat.reduceAdd, Array.replicate_succ, Array.replicate_zero, List.push_toArray, List.append_toArray, List.nil_append, List.cons_append]
      refine wpAnyH_take (i := 0) (oi := { dst := some 48, op := Op.move (Operand.tmp 11), type := 61, pos := "deal.go:68", after := #[], guard := none }) (v := .slice (some ⟨g, 0, none⟩) d cap) rfl (by kernel_rfl) (by kernel_rfl) (by kernel_rfl) (fun _ _ _ h => h) (Or.inl ⟨by kernel_rfl, by (intro w hSw; (try dsimp only at hSw); go_simp)⟩) hHeld ?_
      simp only [Act.put, List.setIfInBounds_toArray, List.set_cons_zero, List.set_cons_succ]
      refine wpAnyH_take (i := 1) (oi := { dst := some 49, op := Op.move (Operand.tmp 14), type := 3, pos := "deal.go:68", after := #[], guard := none }) (v := .int .i64 j) rfl (by kernel_rfl) (by kernel_rfl) (by kernel_rfl) (fun _ _ _ h => h) (Or.inl ⟨by kernel_rfl, by (intro w hSw; (try dsimp only at hSw); go_simp)⟩) hHeld ?_
      simp only [Act.put, List.setIfInBounds_toArray, List.set_cons_zero, List.set_cons_succ]
      refine wpAnyH_take (i := 2) (oi := { dst := some 50, op := Op.move (Operand.tmp 2), type := 82, pos := "deal.go:68", after := #[], guard := none }) (v := .func (.func f) #[] bs) rfl (by kernel_rfl) (by kernel_rfl) (by kernel_rfl) (fun _ _ _ h => h) (Or.inl ⟨by kernel_rfl, by (intro w hSw; (try dsimp only at hSw); go_simp)⟩) hHeld ?_
      simp only [Act.put, List.setIfInBounds_toArray, List.set_cons_zero, List.set_cons_succ]
      refine wpAnyH_take (i := 3) (oi := { dst := some 51, op := Op.fieldAddr 72 (Operand.tmp 15) 0, type := 0, pos := "deal.go:68", after := #[], guard := none }) (v := .pointer (some ⟨E, 0, none⟩)) rfl (by kernel_rfl) (by kernel_rfl) (by kernel_rfl) (fun _ _ _ h => h) (Or.inl ⟨by kernel_rfl, by (intro w hSw; (try dsimp only at hSw); go_simp)⟩) hHeld ?_
      simp only [Act.put, List.setIfInBounds_toArray, List.set_cons_zero, List.set_cons_succ]
      refine wpAnyH_take (i := 4) (oi := { dst := some 52, op := Op.load 3 (Operand.tmp 51), type := 3, pos := "deal.go:68", after := #[{ on := 3, ground := Ground.data }], guard := none }) (v := .int .i64 y.p) rfl (by kernel_rfl) (by kernel_rfl) (by kernel_rfl) (fun _ _ _ h => h) (Or.inl ⟨by kernel_rfl, by (intro w hSw; (try dsimp only at hSw); go_simp)⟩) hHeld ?_
      simp only [Act.put, List.setIfInBounds_toArray, List.set_cons_zero, List.set_cons_succ]
      refine wpAnyH_take (i := 5) (oi := { dst := some 53, op := Op.fieldAddr 72 (Operand.tmp 15) 1, type := 0, pos := "deal.go:68", after := #[], guard := none }) (v := .pointer (some ⟨E, 1, none⟩)) rfl (by kernel_rfl) (by kernel_rfl) (by kernel_rfl) (fun _ _ _ h => h) (Or.inl ⟨by kernel_rfl, by (intro w hSw; (try dsimp only at hSw); go_simp)⟩) hHeld ?_
      simp only [Act.put, List.setIfInBounds_toArray, List.set_cons_zero, List.set_cons_succ]
      refine wpAnyH_take (i := 6) (oi := { dst := some 54, op := Op.load 3 (Operand.tmp 53), type := 3, pos := "deal.go:68", after := #[{ on := 5, ground := Ground.data }], guard := none }) (v := .int .i64 y.q) rfl (by kernel_rfl) (by kernel_rfl) (by kernel_rfl) (fun _ _ _ h => h) (Or.inl ⟨by kernel_rfl, by (intro w hSw; (try dsimp only at hSw); go_simp)⟩) hHeld ?_
      simp only [Act.put, List.setIfInBounds_toArray, List.set_cons_zero, List.set_cons_succ]
      refine wpAnyH_take (i := 7) (oi := { dst := some 55, op := Op.build 36 #[(0, Operand.const (Value.int IntKind.i64 8)), (1, Operand.tmp 52), (2, Operand.tmp 54)], type := 36, pos := "deal.go:68", after := #[{ on := 4, ground := Ground.data }, { on := 6, ground := Ground.data }], guard := none }) (v := .agg #[.int .i64 8, .int .i64 y.p, .int .i64 y.q]) rfl (by kernel_rfl) (by kernel_rfl) (by kernel_rfl) (fun _ _ _ h => h) (Or.inl ⟨by kernel_rfl, by (intro w hSw; (try dsimp only at hSw); go_simp)⟩) hHeld ?_
      simp only [Act.put, List.setIfInBounds_toArray, List.set_cons_zero, List.set_cons_succ]
      refine wpAnyH_take (i := 8) (oi := { dst := some 56, op := Op.move (Operand.tmp 9), type := 103, pos := "deal.go:68", after := #[], guard := none }) (v := .func (.func 51) #[.agg #[.int .i64 h.kind, .int .i64 h.words, .int .i64 h.depth]] #[]) rfl (by kernel_rfl) (by kernel_rfl) (by kernel_rfl) (fun _ _ _ h => h) (Or.inl ⟨by kernel_rfl, by (intro w hSw; (try dsimp only at hSw); go_simp)⟩) hHeld ?_
      simp only [Act.put, List.setIfInBounds_toArray, List.set_cons_zero, List.set_cons_succ]
      refine wpAnyH_ready (rs := [9]) (by kernel_rfl) (by simp) ?_
      refine AllReadyH.cons (o := { dst := some 57, op := Op.call { callee := Callee.value (Operand.tmp 56), args := #[], argTypes := #[] }, type := 3, pos := "deal.go:68", after := #[{ on := 8, ground := Ground.data }], guard := none }) rfl (fun K hK => ?_) AllReadyH.nil
      go_simp
      refine (HPT.out _).mono ?_
      rintro r w8 ⟨rfl, hK8⟩
      have k8 : Keeps (fun _ => False) W7 w8 := ((Keeps.refl _ _).drew).trans hK8 fun _ _ h => h
      have HK8 : Hid (ChI w x h C N S w8 ∧ J w8 (A + j * PT) (H2 ++ destH D PT j) ∧ Two w8 lo (.slice (some ⟨gu, 0, none⟩) 1 cu) (.slice (some ⟨g, 0, none⟩) d cap) [s] (placed D A PT j) ∧ Blk w8 E y.vs 72) :=
        ⟨HK.out.1.grow k8, HD.out.kept HK.out.2.1 k8 fun _ _ h => h, HK.out.2.2.1.grow k8, HK.out.2.2.2.2.2.2.kept k8 fun h => h⟩
      have hS8 : w8.cell? ⟨E, 0, none⟩ = some (.int .i64 y.p) ∧ w8.cell? ⟨E, 1, none⟩ = some (.int .i64 y.q) := ⟨HK8.out.2.2.2.cell rfl, HK8.out.2.2.2.cell rfl⟩
      clear hK8 k8
      refine hK.out _ _ hS8 (fun hHeld => ?_)
      simp only [Act.put, List.setIfInBounds_toArray, List.set_cons_zero, List.set_cons_succ]
      refine wpAnyH_ready (rs := [10]) (by kernel_rfl) (by simp) ?_
      refine AllReadyH.cons (o := { dst := some 58, op := Op.call { callee := Callee.value (Operand.tmp 50), args := #[Operand.tmp 55, Operand.tmp 57], argTypes := #[36, 3] }, type := 3, pos := "deal.go:68", after := #[{ on := 2, ground := Ground.data }, { on := 7, ground := Ground.data }, { on := 9, ground := Ground.data }, { on := 9, ground := Ground.chain }], guard := none }) rfl (fun K hK => ?_) AllReadyH.nil
      go_simp
      refine (HCN.out w8 HK8.out.2.1).mono ?_
      rintro r w9 ⟨rfl, hj9, hK9⟩
      have HK9 : Hid (ChI w x h C N S w9 ∧ J w9 (A + j * PT + PT) ((H2 ++ destH D PT j) ++ [(⟨8, y.p, y.q⟩, PT)]) ∧ Two w9 lo (.slice (some ⟨gu, 0, none⟩) 1 cu) (.slice (some ⟨g, 0, none⟩) d cap) [s] (placed D A PT j) ∧ Blk w9 E y.vs 72) :=
        ⟨HK8.out.1.kept hK9 fun k hk => Or.inl hk, hj9, HK8.out.2.2.1.kept hK9 fun k hk => by have := HS.out k hk; have := HLO.out; omega, HK8.out.2.2.2.kept hK9 fun hk => by have := HS.out _ hk; have := HK.out.2.2.2.2.2.1; omega⟩
      have hS9 : w9.cell? ⟨E, 0, none⟩ = some (.int .i64 y.p) ∧ w9.cell? ⟨E, 1, none⟩ = some (.int .i64 y.q) := ⟨HK9.out.2.2.2.cell rfl, HK9.out.2.2.2.cell rfl⟩
      clear hK9 hj9
      refine hK.out _ _ hS9 (fun hHeld => ?_)
      simp only [Act.put, List.setIfInBounds_toArray, List.set_cons_zero, List.set_cons_succ]
      refine wpAnyH_take (i := 11) (oi := { dst := some 59, op := Op.indexAddr 61 (Operand.tmp 48) (Operand.tmp 49), type := 0, pos := "deal.go:68", after := #[{ on := 0, ground := Ground.data }, { on := 1, ground := Ground.data }, { on := 0, ground := Ground.phase }, { on := 1, ground := Ground.phase }, { on := 2, ground := Ground.phase }, { on := 3, ground := Ground.phase }, { on := 4, ground := Ground.phase }, { on := 5, ground := Ground.phase }, { on := 6, ground := Ground.phase }, { on := 7, ground := Ground.phase }, { on := 8, ground := Ground.phase }, { on := 9, ground := Ground.phase }, { on := 10, ground := Ground.phase }], guard := none }) (v := .pointer (some ⟨g, j * 3, none⟩)) rfl (by kernel_rfl) (by kernel_rfl) (by kernel_rfl) (fun _ _ _ h => h) (Or.inl ⟨by kernel_rfl, by (intro w hSw; (try dsimp only at hSw); go_simp)⟩) hHeld ?_
      simp only [Act.put, List.setIfInBounds_toArray, List.set_cons_zero, List.set_cons_succ]
      refine wpAnyH_take (i := 12) (oi := { dst := some 60, op := Op.fieldAddr 72 (Operand.tmp 59) 2, type := 0, pos := "deal.go:68", after := #[{ on := 11, ground := Ground.data }, { on := 0, ground := Ground.phase }, { on := 1, ground := Ground.phase }, { on := 2, ground := Ground.phase }, { on := 3, ground := Ground.phase }, { on := 4, ground := Ground.phase }, { on := 5, ground := Ground.phase }, { on := 6, ground := Ground.phase }, { on := 7, ground := Ground.phase }, { on := 8, ground := Ground.phase }, { on := 9, ground := Ground.phase }, { on := 10, ground := Ground.phase }], guard := none }) (v := .pointer (some ⟨g, j * 3 + 2, none⟩)) rfl (by kernel_rfl) (by kernel_rfl) (by kernel_rfl) (fun _ _ _ h => h) (Or.inl ⟨by kernel_rfl, by (intro w hSw; (try dsimp only at hSw); go_simp)⟩) hHeld ?_
      simp only [Act.put, List.setIfInBounds_toArray, List.set_cons_zero, List.set_cons_succ]
      have z2 := HK9.out.2.2.1.rb.cellAt (i := 2) HK.out.2.2.2.2.1 rfl
      have zf := HK9.out.2.2.1.rb.frozenAt (j * 3 + 2)
      simp only [eDst] at z2
      refine wpAnyH_ready (rs := [13]) (by kernel_rfl) (by simp) ?_
      refine AllReadyH.cons (o := { dst := none, op := Op.store 3 (Operand.tmp 60) (Operand.tmp 58), type := 0, pos := "deal.go:68", after := #[{ on := 12, ground := Ground.data }, { on := 10, ground := Ground.data }, { on := 10, ground := Ground.chain }, { on := 0, ground := Ground.phase }, { on := 1, ground := Ground.phase }, { on := 2, ground := Ground.phase }, { on := 3, ground := Ground.phase }, { on := 4, ground := Ground.phase }, { on := 5, ground := Ground.phase }, { on := 6, ground := Ground.phase }, { on := 7, ground := Ground.phase }, { on := 8, ground := Ground.phase }, { on := 9, ground := Ground.phase }, { on := 10, ground := Ground.phase }], guard := none }) rfl (fun K hK => ?_) AllReadyH.nil
      go_simp
      obtain ⟨hT10, hK10⟩ := HK9.out.2.2.1.set3 (by rw [placed_length]; exact hG.out.1.symm) HK.out.2.2.2.2.1 (A + j * PT)
      obtain ⟨W10, hW10⟩ : ∃ W10, W10 = w9.setCell ⟨g, j * 3 + 2, none⟩ (.int .i64 (A + j * PT)) := ⟨_, rfl⟩
      rw [← hW10] at hT10 hK10
      have hglo := hG.out.2.1
      have hS10 : W10.cell? ⟨E, 0, none⟩ = some (.int .i64 y.p) ∧ W10.cell? ⟨E, 1, none⟩ = some (.int .i64 y.q) := by
        have hne : ¬ E = g := HNE.out
        exact ⟨(HK9.out.2.2.2.kept hK10 hne).cell rfl, (HK9.out.2.2.2.kept hK10 hne).cell rfl⟩
      have HN : Hid (ChI w x h C N S W10 ∧ J W10 (A + ((j + 1 : Nat) : Int) * PT) (H2 ++ destH D PT (j + 1)) ∧ Two W10 lo (.slice (some ⟨gu, 0, none⟩) 1 cu) (.slice (some ⟨g, 0, none⟩) d cap) [s] (placed D A PT (j + 1))) := by
        refine ⟨HK9.out.1.kept hK10 fun k hk => Or.inr (by have := HLO.out; omega), ?_, ?_⟩
        · have h5 := HD.out.kept HK9.out.2.1 hK10 fun k hk e => by have := HS.out k hk; have := HLO.out; omega
          rw [destH_succ HK.out.2.2.2.1, ← List.append_assoc, show A + ((j + 1 : Nat) : Int) * PT = A + (j : Int) * PT + PT by rw [Int.natCast_add, Int.add_mul]; omega]
          exact h5
        · rw [placed_succ HK.out.2.2.2.1]; exact hT10
      clear hT10 hK10 z2 zf
      rw [← hW10]
      refine hK.out _ _ hS10 (fun hHeld => ?_)
      simp only [Act.put, List.setIfInBounds_toArray, List.set_cons_zero, List.set_cons_succ]
      refine wpAnyH_done (by kernel_rfl) ?_ _
      clear hW10 hS8 hS9 hS10 hHeld d0 d1
      go_wp2
      go_roundw
      case rel => exact ⟨j + 1, by omega, by go_num, HN.out.1, HN.out.2.1, HN.out.2.2⟩
      case measure => simp [intOf]; omega
    · obtain rfl : d = j := by omega
      have HF : Hid (ChI w x h C N S wr ∧ J wr (A + d * PT) (H2 ++ destH D PT d) ∧ Two wr lo (.slice (some ⟨gu, 0, none⟩) 1 cu) (.slice (some ⟨g, 0, none⟩) d cap) [s] (placed D A PT d)) := ⟨hI, hJ, hT⟩
      have u0 := hT.ra.cellAt (j := 0) (i := 0) rfl rfl
      have u1 := hT.ra.cellAt (j := 0) (i := 1) rfl rfl
      simp only [eDst, Nat.zero_mul, Nat.zero_add] at u0 u1
      have c0 := hI.res.cell (i := 0) rfl
      have c1 := hI.res.cell (i := 1) rfl
      have c2 := hI.res.cell (i := 2) rfl
      have c3 := hI.res.cell (i := 3) rfl
      have c4 := hI.res.cell (i := 4) rfl
      have f0 := hI.res.frozen 0
      have f1 := hI.res.frozen 1
      have f2 := hI.res.frozen 2
      have f3 := hI.res.frozen 3
      have f4 := hI.res.frozen 4
      clear hI hJ hT HI6 c0 c1 c2 c3 c4 f0 f1 f2 f3 f4
      go_wp2
      refine wp_region_held_drew (S := (fun w' => w'.cell? ⟨gu, 0, none⟩ = some (.int .i64 s.p) ∧ w'.cell? ⟨gu, 1, none⟩ = some (.int .i64 s.q))) Try.mixed ⟨u0, u1⟩ (fun hHeld => ?_)
      simp only [List.size_toArray, List.length_cons, List.length_nil, Nat.reduceAdd, Array.replicate_succ, Array.replicate_zero, List.push_toArray, List.append_toArray, List.nil_append, List.cons_append]
      refine wpAnyH_take (i := 0) (oi := { dst := some 62, op := Op.move (Operand.tmp 12), type := 3, pos := "deal.go:70", after := #[], guard := none }) (v := .int .i64 a) rfl (by kernel_rfl) (by kernel_rfl) (by kernel_rfl) (fun _ _ _ h => h) (Or.inl ⟨by kernel_rfl, by (intro w hSw; (try dsimp only at hSw); go_simp)⟩) hHeld ?_
      simp only [Act.put, List.setIfInBounds_toArray, List.set_cons_zero, List.set_cons_succ]
      refine wpAnyH_take (i := 1) (oi := { dst := some 63, op := Op.move (Operand.tmp 13), type := 3, pos := "deal.go:70", after := #[], guard := none }) (v := .int .i64 (a + 2)) rfl (by kernel_rfl) (by kernel_rfl) (by kernel_rfl) (fun _ _ _ h => h) (Or.inl ⟨by kernel_rfl, by (intro w hSw; (try dsimp only at hSw); go_simp)⟩) hHeld ?_
      simp only [Act.put, List.setIfInBounds_toArray, List.set_cons_zero, List.set_cons_succ]
      refine wpAnyH_take (i := 2) (oi := { dst := some 64, op := Op.move (Operand.tmp 10), type := 61, pos := "deal.go:70", after := #[], guard := none }) (v := .slice (some ⟨gu, 0, none⟩) 1 cu) rfl (by kernel_rfl) (by kernel_rfl) (by kernel_rfl) (fun _ _ _ h => h) (Or.inl ⟨by kernel_rfl, by (intro w hSw; (try dsimp only at hSw); go_simp)⟩) hHeld ?_
      simp only [Act.put, List.setIfInBounds_toArray, List.set_cons_zero, List.set_cons_succ]
      refine wpAnyH_take (i := 3) (oi := { dst := some 65, op := Op.indexAddr 61 (Operand.tmp 64) (Operand.const (Value.int IntKind.i64 0)), type := 0, pos := "deal.go:70", after := #[{ on := 2, ground := Ground.data }], guard := none }) (v := .pointer (some ⟨gu, 0, none⟩)) rfl (by kernel_rfl) (by kernel_rfl) (by kernel_rfl) (fun _ _ _ h => h) (Or.inl ⟨by kernel_rfl, by (intro w hSw; (try dsimp only at hSw); go_simp)⟩) hHeld ?_
      simp only [Act.put, List.setIfInBounds_toArray, List.set_cons_zero, List.set_cons_succ]
      refine wpAnyH_take (i := 4) (oi := { dst := some 66, op := Op.fieldAddr 72 (Operand.tmp 65) 0, type := 0, pos := "deal.go:70", after := #[{ on := 3, ground := Ground.data }], guard := none }) (v := .pointer (some ⟨gu, 0, none⟩)) rfl (by kernel_rfl) (by kernel_rfl) (by kernel_rfl) (fun _ _ _ h => h) (Or.inl ⟨by kernel_rfl, by (intro w hSw; (try dsimp only at hSw); go_simp)⟩) hHeld ?_
      simp only [Act.put, List.setIfInBounds_toArray, List.set_cons_zero, List.set_cons_succ]
      refine wpAnyH_take (i := 5) (oi := { dst := some 67, op := Op.load 3 (Operand.tmp 66), type := 3, pos := "deal.go:70", after := #[{ on := 4, ground := Ground.data }], guard := none }) (v := .int .i64 s.p) rfl (by kernel_rfl) (by kernel_rfl) (by kernel_rfl) (fun _ _ _ h => h) (Or.inl ⟨by kernel_rfl, by (intro w hSw; (try dsimp only at hSw); go_simp)⟩) hHeld ?_
      simp only [Act.put, List.setIfInBounds_toArray, List.set_cons_zero, List.set_cons_succ]
      refine wpAnyH_take (i := 6) (oi := { dst := some 68, op := Op.move (Operand.tmp 10), type := 61, pos := "deal.go:70", after := #[], guard := none }) (v := .slice (some ⟨gu, 0, none⟩) 1 cu) rfl (by kernel_rfl) (by kernel_rfl) (by kernel_rfl) (fun _ _ _ h => h) (Or.inl ⟨by kernel_rfl, by (intro w hSw; (try dsimp only at hSw); go_simp)⟩) hHeld ?_
      simp only [Act.put, List.setIfInBounds_toArray, List.set_cons_zero, List.set_cons_succ]
      refine wpAnyH_take (i := 7) (oi := { dst := some 69, op := Op.indexAddr 61 (Operand.tmp 68) (Operand.const (Value.int IntKind.i64 0)), type := 0, pos := "deal.go:70", after := #[{ on := 6, ground := Ground.data }], guard := none }) (v := .pointer (some ⟨gu, 0, none⟩)) rfl (by kernel_rfl) (by kernel_rfl) (by kernel_rfl) (fun _ _ _ h => h) (Or.inl ⟨by kernel_rfl, by (intro w hSw; (try dsimp only at hSw); go_simp)⟩) hHeld ?_
      simp only [Act.put, List.setIfInBounds_toArray, List.set_cons_zero, List.set_cons_succ]
      refine wpAnyH_take (i := 8) (oi := { dst := some 70, op := Op.fieldAddr 72 (Operand.tmp 69) 1, type := 0, pos := "deal.go:70", after := #[{ on := 7, ground := Ground.data }], guard := none }) (v := .pointer (some ⟨gu, 1, none⟩)) rfl (by kernel_rfl) (by kernel_rfl) (by kernel_rfl) (fun _ _ _ h => h) (Or.inl ⟨by kernel_rfl, by (intro w hSw; (try dsimp only at hSw); go_simp)⟩) hHeld ?_
      simp only [Act.put, List.setIfInBounds_toArray, List.set_cons_zero, List.set_cons_succ]
      refine wpAnyH_take (i := 9) (oi := { dst := some 71, op := Op.load 3 (Operand.tmp 70), type := 3, pos := "deal.go:70", after := #[{ on := 8, ground := Ground.data }], guard := none }) (v := .int .i64 s.q) rfl (by kernel_rfl) (by kernel_rfl) (by kernel_rfl) (fun _ _ _ h => h) (Or.inl ⟨by kernel_rfl, by (intro w hSw; (try dsimp only at hSw); go_simp)⟩) hHeld ?_
      simp only [Act.put, List.setIfInBounds_toArray, List.set_cons_zero, List.set_cons_succ]
      refine wpAnyH_take (i := 10) (oi := { dst := some 72, op := Op.move (Operand.tmp 11), type := 61, pos := "deal.go:70", after := #[], guard := none }) (v := .slice (some ⟨g, 0, none⟩) d cap) rfl (by kernel_rfl) (by kernel_rfl) (by kernel_rfl) (fun _ _ _ h => h) (Or.inl ⟨by kernel_rfl, by (intro w hSw; (try dsimp only at hSw); go_simp)⟩) hHeld ?_
      simp only [Act.put, List.setIfInBounds_toArray, List.set_cons_zero, List.set_cons_succ]
      refine wpAnyH_take (i := 11) (oi := { dst := some 73, op := Op.build 63 #[(0, Operand.tmp 62), (1, Operand.tmp 63), (2, Operand.tmp 67), (3, Operand.tmp 71), (4, Operand.tmp 72)], type := 63, pos := "deal.go:70", after := #[{ on := 0, ground := Ground.data }, { on := 1, ground := Ground.data }, { on := 5, ground := Ground.data }, { on := 9, ground := Ground.data }, { on := 10, ground := Ground.data }], guard := none }) (v := .agg #[.int .i64 a, .int .i64 (a + 2), .int .i64 s.p, .int .i64 s.q, .slice (some ⟨g, 0, none⟩) d cap]) rfl (by kernel_rfl) (by kernel_rfl) (by kernel_rfl) (fun _ _ _ h => h) (Or.inl ⟨by kernel_rfl, by (intro w hSw; (try dsimp only at hSw); go_simp)⟩) hHeld ?_
      simp only [Act.put, List.setIfInBounds_toArray, List.set_cons_zero, List.set_cons_succ]
      obtain ⟨wd, hwd⟩ : ∃ wd, wd = wr.drew := ⟨_, rfl⟩
      have kwd : Keeps (fun _ => False) wr wd := by rw [hwd]; exact (Keeps.refl _ _).drew
      rw [← hwd]
      have hres : Blk wd (C + 1) [.int .i64 0, .int .i64 0, .int .i64 0, .int .i64 0, .slice none 0 0] 63 := HF.out.1.res.kept kwd fun h => h
      have c0 := hres.cell (i := 0) rfl
      have c1 := hres.cell (i := 1) rfl
      have c2 := hres.cell (i := 2) rfl
      have c3 := hres.cell (i := 3) rfl
      have c4 := hres.cell (i := 4) rfl
      have f0 := hres.frozen 0
      have f1 := hres.frozen 1
      have f2 := hres.frozen 2
      have f3 := hres.frozen 3
      have f4 := hres.frozen 4
      refine wpAnyH_ready (rs := [12]) (by kernel_rfl) (by simp) ?_
      refine AllReadyH.cons (o := { dst := none, op := Op.store 63 (Operand.tmp 6) (Operand.tmp 73), type := 0, pos := "deal.go:70", after := #[{ on := 11, ground := Ground.data }, { on := 0, ground := Ground.phase }, { on := 1, ground := Ground.phase }, { on := 2, ground := Ground.phase }, { on := 3, ground := Ground.phase }, { on := 4, ground := Ground.phase }, { on := 5, ground := Ground.phase }, { on := 6, ground := Ground.phase }, { on := 7, ground := Ground.phase }, { on := 8, ground := Ground.phase }, { on := 9, ground := Ground.phase }, { on := 10, ground := Ground.phase }, { on := 11, ground := Ground.phase }], guard := none }) rfl (fun K hK => ?_) AllReadyH.nil
      refine wp_store_row 63 _ _ rfl (C + 1) #[.int .i64 a, .int .i64 (a + 2), .int .i64 s.p, .int .i64 s.q, .slice (some ⟨g, 0, none⟩) d cap] (by rfl) (by rfl) 63 _ hres Try.size63 rfl (all59 ..) ?_
      obtain ⟨W4, hW4⟩ : ∃ W4, W4 = wd.setRow (C + 1) #[.int .i64 a, .int .i64 (a + 2), .int .i64 s.p, .int .i64 s.q, .slice (some ⟨g, 0, none⟩) d cap] := ⟨_, rfl⟩
      have hB : Blk W4 (C + 1) [.int .i64 a, .int .i64 (a + 2), .int .i64 s.p, .int .i64 s.q, .slice (some ⟨g, 0, none⟩) d cap] 63 := by rw [hW4]; exact hres.setRow _
      have hK4 : Keeps (fun k => k = C + 1) wd W4 := by rw [hW4]; exact (Keeps.refl _ _).setRow _ _ fun _ => rfl
      have k4 : Keeps (fun k => k = C + 1) wr W4 := (kwd.mono fun _ _ h => h.elim).trans hK4 fun _ _ h => h
      have hglo := hG.out.2
      have hlo := HLO.out
      have hcw := HF.out.1.cw
      have hT4 : Two W4 lo (.slice (some ⟨gu, 0, none⟩) 1 cu) (.slice (some ⟨g, 0, none⟩) d cap) [s] (placed D A PT d) := HF.out.2.2.kept k4 fun k hk => by omega
      have hS4 : W4.cell? ⟨gu, 0, none⟩ = some (.int .i64 s.p) ∧ W4.cell? ⟨gu, 1, none⟩ = some (.int .i64 s.q) := by
        have v0 := hT4.ra.cellAt (j := 0) (i := 0) rfl rfl
        have v1 := hT4.ra.cellAt (j := 0) (i := 1) rfl rfl
        simp only [eDst, Nat.zero_mul, Nat.zero_add] at v0 v1
        exact ⟨v0, v1⟩
      have HZ : Hid (Blk W4 (C + 1) [.int .i64 a, .int .i64 (a + 2), .int .i64 s.p, .int .i64 s.q, .slice (some ⟨g, 0, none⟩) d cap] 63 ∧ Row eDst W4 w.heap.size (.slice (some ⟨g, 0, none⟩) d cap) (placed D A PT d) ∧ J W4 (A + d * PT) (H2 ++ destH D PT d) ∧ Keeps S w W4) :=
        ⟨hB, hT4.rb.lower' (by omega), HD.out.kept HF.out.2.1 k4 fun k hk e => by have := (HF.out.1.low k hk).2; omega, HF.out.1.kp.trans k4 fun k hk e => by omega⟩
      clear hB hK4 hT4 hglo hlo hcw k4
      rw [← hW4]
      refine hK.out _ _ hS4 (fun hHeld => ?_)
      simp only [Act.put, List.setIfInBounds_toArray, List.set_cons_zero, List.set_cons_succ]
      refine wpAnyH_done (by kernel_rfl) ?_ _
      clear hW4 hS4 hHeld u0 u1 c0 c1 c2 c3 c4 f0 f1 f2 f3 f4 hres hwd kwd
      go_wp2
      (try simp only [Exit.inBlock, Exit.then])
      refine bodyPost_ret (results_cell_row rfl _ _ (C + 1) 63 _ (0, 0) _ rfl HZ.out.1 Try.underlying63 rfl (by kernel_rfl)) rfl ?_
      refine ⟨s, _, HE.out.1, rfl, ?_, ?_, HZ.out.2.2.2⟩
      · rw [HE.out.2.1, HGP.out.1, HGP.out.2, HA.out.1, hG.out.1]; exact HZ.out.2.1
      · rw [HE.out.2.1, HE.out.2.2, HGP.out.1, HGP.out.2, HA.out.1, hG.out.1]
        have := HZ.out.2.2.1
        rw [← HA.out.2, List.append_assoc] at this
        exact this
end Go.Proofs.Ythaoopaafdgioab
