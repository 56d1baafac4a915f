import Derived.Test.YtglhfijgnfignaaGreatUb
namespace Go.Proofs.YtglhfijgnfignaaGreat
namespace Mq
open Go.RowKit
set_option linter.unusedVariables false
set_option linter.unusedSimpArgs false

theorem copyWords2_any (a : Option Addr) (c : Nat) (ms : List UInt32) (w : World) (hs : SegW w a ms) (hl : ms.length ≤ 2000) :
    Calls Tryz.prog 16 #[.slice a ms.length c] w fun e w' => e = .returned (.slice (some ⟨w.heap.size, 0, none⟩) ms.length ms.length) ∧ Blk w' w.heap.size (wvs ms) 58 ∧ Keeps (fun _ => False) w w' := by
  have hmk := run_make_words (w := w) ms.length (by omega)
  obtain ⟨W1, hW⟩ : ∃ W1, W1 = w.alloc (.cells (wvs (List.replicate ms.length 0)).toArray 58) := ⟨_, rfl⟩
  rw [← hW] at hmk
  obtain ⟨G, hG⟩ : ∃ G, G = w.heap.size := ⟨_, rfl⟩
  have hK1 : Keeps (fun _ => False) w W1 := by rw [hW]; exact (Keeps.refl _ w).alloc _
  have hB1 : Blk W1 G (wvs (List.replicate ms.length 0)) 58 := by rw [hW, hG]; exact Blk.new w _ 58
  have HB : Hid (Keeps (fun _ => False) w W1 ∧ Blk W1 G (wvs (ms.take 0 ++ List.replicate (ms.length - 0) 0)) 58 ∧ SegW w a ms ∧ G = w.heap.size) := ⟨hK1, by simpa using hB1, hs, hG⟩
  obtain ⟨n, hn⟩ : ∃ n, n = ms.length := ⟨_, rfl⟩
  have HN : Hid (n = ms.length) := hn
  rw [← hn, ← hG] at hmk
  rw [← hn, ← hG]
  have HM : Hid (_ = _) := hmk
  have hl2 : (n : Int) ≤ 2000 := by omega
  clear hmk hW hK1 hB1 hs hl hG hn
  go_enter Tryz.func16, Tryz.ntmps16
  go_wp2_with (at_make; refine wpList_make_run rfl _ _ 43 rfl (.int .i64 n) (.int .i64 n) (.slice (some ⟨G, 0, none⟩) n n) W1 rfl rfl HM.out ?_; refine Hid.out ?_)
  unfold Hid
  clear HM
  go_wp2
  go_loopw [4] (fun i wr => ∃ j : Nat, j ≤ n ∧ i = .int .i64 j ∧ Keeps (fun _ => False) w wr ∧ Blk wr G (wvs (ms.take j ++ List.replicate (ms.length - j) 0)) 58) (fun i _ => n - (intOf i).toNat)
  case atStart => exact ⟨0, by omega, rfl, HB.out.1, HB.out.2.1⟩
  case round =>
    obtain ⟨j, hj, rfl, hK, hB⟩ := hrel
    by_cases hlt : j < n
    · have hlt' : (j : Int) < n := by omega
      have hjx : j < ms.length := by rw [← HN.out]; exact hlt
      rcases HB.out.2.2.1.kept hK (fun _ _ e => e) with h0 | ⟨g1, o1, rfl, hc1⟩
      · rw [h0] at hjx; simp at hjx
      have d1 := hc1 j hjx
      have hlen : (ms.take j ++ List.replicate (ms.length - j) (0 : UInt32)).length = ms.length := by simp; omega
      have cu := hB.cell (wvs_get _ j (by rw [hlen]; exact hjx))
      have fu := hB.frozen j
      obtain ⟨u, hu⟩ : ∃ u : Nat, u = ((ms.take j ++ List.replicate (ms.length - j) (0 : UInt32))[j]'(by rw [hlen]; exact hjx)).toNat := ⟨_, rfl⟩
      rw [← hu] at cu
      have HR : Hid (Keeps (fun _ => False) w (wr.setCell ⟨G, j, none⟩ (.int .u32 ((ms[j]'hjx).toNat : Int))) ∧ Blk (wr.setCell ⟨G, j, none⟩ (.int .u32 ((ms[j]'hjx).toNat : Int))) G (wvs (ms.take (j + 1) ++ List.replicate (ms.length - (j + 1)) 0)) 58) := by
        refine ⟨hK.setCell _ _ fun h => by have := HB.out.2.2.2; have : G < w.heap.size := h; omega, ?_⟩
        have e : ms.take (j + 1) ++ List.replicate (ms.length - (j + 1)) (0 : UInt32) = (ms.take j ++ List.replicate (ms.length - j) 0).set j (ms[j]'hjx) := by
          have hlt2 : (ms.take j).length = j := by simp; omega
          rw [List.set_append_right _ _ (by omega), hlt2, Nat.sub_self, show ms.length - j = (ms.length - (j + 1)) + 1 by omega, List.replicate_succ, List.set_cons_zero, List.take_add_one, List.getElem?_eq_getElem hjx, List.append_assoc]
          rfl
        rw [e, wvs_setm]
        exact hB.setCell j _
      obtain ⟨v, hv⟩ : ∃ v : Nat, v = (ms[j]'hjx).toNat := ⟨_, rfl⟩
      rw [← hv] at d1 HR
      clear hK hB hjx hc1 hlen hu hv hj
      go_wp2
      go_roundw
      case rel => exact ⟨j + 1, by omega, by go_num, HR.out⟩
      case measure => simp [intOf]; omega
    · obtain rfl : j = n := by omega
      have HF : Hid (Blk wr G (wvs ms) 58 ∧ Keeps (fun _ => False) w wr) := by
        rw [List.take_of_length_le (by have := HN.out; omega), show ms.length - j = 0 by have := HN.out; omega] at hB
        exact ⟨by simpa using hB, hK⟩
      clear hB hK
      go_wp2
      go_ret
      exact ⟨rfl, HF.out⟩

end Mq
open Go.RowKit Go.Shelf
open Mq
set_option linter.unusedVariables false
set_option maxRecDepth 6000
set_option linter.unusedSimpArgs false
attribute [local go_sem] Oper.semAt_some

theorem PrgIn.mono {w : World} {N N' : Nat} {pa : Option Addr} {pc : Nat} {ps : List Prg} (h : PrgIn w N pa pc ps) (k : N ≤ N') : PrgIn w N' pa pc ps :=
  ⟨h.seg, fun h1 y hy => Nat.lt_of_lt_of_le (h.lo h1 y hy) k, h.len, fun p hp => ⟨(h.each p hp).seg, (h.each p hp).len, fun y hy => Nat.lt_of_lt_of_le ((h.each p hp).lo y hy) k⟩⟩
theorem prg_set (qs : List Prg) (q : Prg) (k : Nat) : (qs.flatMap Prg.vs).set k (.slice q.a q.ws.length q.c) = (qs.set k q).flatMap Prg.vs := by
  induction qs generalizing k with
  | nil => rfl
  | cons a l ih =>
    cases k with
    | zero => rfl
    | succ k => simp only [List.set_cons_succ, List.flatMap_cons]; rw [← ih k]; rfl
/-- What is told of a Boot that went well. -/
structure BtO (x : Cfg) (n : Nat) (PS : List (List UInt32)) (b g : Nat) (xs : List UInt32) (w : World) : Prop where
  gd : Gd x
  len : PS.length ≤ x.ps.length
  lie : AllLie x PS PS.length
  mn : Mn w b g n xs
  eq : xs = bootL x n PS PS.length

set_option maxHeartbeats 4000000 in
theorem bapart_any (x : Cfg) (pa : Option Addr) (pc : Nat) (ps : List Prg) (k : Int) (o : Prg) (w : World) (N : Nat) (hi : x.In w N) (hN : N ≤ w.heap.size) (hs : Sml x) (hp : PrgIn0 w N pa pc ps) (hps : PSml ps) (ho : o.Ok0 w) (hol : o.ws.length ≤ 35184372087808) :
    Calls Tryz.prog 4 #[x.v, .slice pa ps.length pc, .int .i64 k, .slice o.a o.ws.length o.c] w fun e w' => e = .returned (.bool true) ∧ Keeps (fun _ => False) w w' := by
  obtain ⟨W, hW⟩ : ∃ W, W = x.laid w := ⟨_, rfl⟩
  obtain ⟨C, hC⟩ : ∃ C, C = w.heap.size := ⟨_, rfl⟩
  have hO : One w x C N W := by rw [hW, hC]; exact One.mk' hi hN
  have HO : Hid (One w x C N W) := hO
  have HP : Hid (PrgIn0 w N pa pc ps ∧ PSml ps ∧ Sml x ∧ N ≤ w.heap.size ∧ o.Ok0 w ∧ o.ws.length ≤ 35184372087808) := ⟨hp, hps, hs, hN, ho, hol⟩
  have HC : Hid (Calls Tryz.prog 6 #[x.v] W (CopP x W)) := Copied_any x W N hO.cin hO.nn hs
  obtain ⟨q0, q1, q2, q3, q4, q5, q6⟩ := hO.cells
  obtain ⟨L, hL⟩ : ∃ L, L = ps.length := ⟨_, rfl⟩
  obtain ⟨oL, hoL⟩ : ∃ oL, oL = o.ws.length := ⟨_, rfl⟩
  have HL : Hid (L = ps.length ∧ oL = o.ws.length) := ⟨hL, hoL⟩
  have hlp := hp.len
  have hLc : (L : Int) ≤ pc := by omega
  have hpc : (pc : Int) ≤ 9223372036854775807 := by unfold maxLen at hlp; omega
  have HWd : Hid (∀ w', Keeps (fun _ => False) w w' → Calls Tryz.prog 7 #[.slice pa L pc] w' (WideP (ps.map Prg.ws) w')) := fun w' hk => by
    rw [hL]
    exact wide_any pa pc ps w' N (Nat.le_trans hN hk.size) (hp.kept hk) hps
  rw [← hL, ← hoL]
  unfold Cfg.laid at hW
  clear hi hN hp hps hs hO hL hoL hlp ho hol
  by_cases hk0 : k < 0
  · have HK : Hid (Keeps (fun _ => False) w W) := HO.out.keeps
    go_enter Tryz.func4, Tryz.ntmps4
    go_upto_region 1 with fail
    rw [← hW, ← hC]
    clear hW hC q0 q1 q2 q3 q4 q5 q6
    go_wp2
    go_ret
    exact ⟨rfl, HK.out⟩
  by_cases hk1 : (L : Int) ≤ k
  · have HK : Hid (Keeps (fun _ => False) w W) := HO.out.keeps
    go_enter Tryz.func4, Tryz.ntmps4
    go_upto_region 1 with fail
    rw [← hW, ← hC]
    clear hW hC q0 q1 q2 q3 q4 q5 q6
    go_wp2
    go_ret
    exact ⟨rfl, HK.out⟩
  obtain ⟨K, rfl⟩ := Int.eq_ofNat_of_zero_le (Int.not_lt.1 hk0)
  have hKL : (K : Int) < L := by omega
  have hKn : K < L := by omega
  clear hk0 hk1
  obtain ⟨PS, hPS⟩ : ∃ PS, PS = ps.map Prg.ws := ⟨_, rfl⟩
  obtain ⟨PT, hPT⟩ : ∃ PT, PT = PS.set K o.ws := ⟨_, rfl⟩
  have HPS : Hid (PS.length = L ∧ PT = PS.set K o.ws) := ⟨by rw [hPS, List.length_map, HL.out.1], hPT⟩
  rw [← hPS] at HWd
  clear hPS hPT
  go_enter Tryz.func4, Tryz.ntmps4
  go_upto_region 1 with fail
  rw [← hW, ← hC]
  clear hW hC
  go_wp2_with fail
  refine HC.out.mono ?_
  rintro e w1 ⟨x1, rfl, hE1, hI1, hLo1, hK1⟩
  have H1 : Hid (x.Eqv x1 ∧ x1.In w1 w1.heap.size ∧ Keeps (fun _ => False) w w1) := ⟨hE1, hI1, HO.out.keeps.trans hK1 fun _ _ h => h⟩
  have HO1 : Hid (One w x C N w1) := HO.out.kept hK1
  clear hE1 hI1 hLo1 hK1 HC HO q0 q1 q2 q3 q4 q5 q6
  go_wp2_with fail
  refine (HWd.out w1 H1.out.2.2).mono ?_
  rintro e w2 ⟨hK2, G, qs, rfl, hqm, hG, hBG, hq, hql⟩
  have HC3 : Hid (Calls _ _ _ w2 _) := boot_any x1 (some ⟨G, 0, none⟩) qs.length qs w2 w2.heap.size (((H1.out.2.1).keeps (Nat.le_refl _) hK2).mono hK2.size) (Nat.le_refl _) (PrgIn.ofWide hBG (fun q h => (hq q h).1) hql)
  rw [hqm] at HC3
  have HO2 : Hid (One w x C N w2) := HO1.out.kept hK2
  clear hK2 hqm hG hBG hq hql HO1
  go_wp2_with fail
  refine HC3.out.mono ?_
  rintro e w3 ⟨hK3, hA⟩
  have HO3 : Hid (One w x C N w3) := HO2.out.kept hK3
  obtain ⟨n, hn⟩ : ∃ n : Nat, n = x.frames.toNat := ⟨_, rfl⟩
  have HA : Hid (∃ (v : Option Addr) (z t : Int), e = .returned (.tuple #[.pointer v, .int .i64 z, .int .i64 t]) ∧ ((v = none ∧ ¬ z = 0) ∨ (z = 0 ∧ ∃ b g xs, v = some ⟨b, 0, none⟩ ∧ w.heap.size ≤ g ∧ BtO x n PS b g xs w3))) := by
    rcases hA with ⟨z, t, hz, he⟩ | ⟨hgd, hl, b, g, he, hbg, hMn⟩
    · exact ⟨none, z, t, he, .inl ⟨rfl, by omega⟩⟩
    · refine ⟨_, 0, -1, he, .inr ⟨rfl, b, g, _, rfl, ?_, ⟨H1.out.1.gd.1 hgd, by rw [← H1.out.1.len]; exact hl.1, ?_, ?_, rfl⟩⟩⟩
      · have := HO2.out.keeps.size; omega
      · intro i P p hi hP hp
        rcases H1.out.1.par i with ⟨P', Q, hP', hQ, e1, _⟩ | ⟨h1, _⟩
        · rw [hP] at hP'
          obtain rfl := Option.some.inj hP'
          have := hl.2 i Q p hi hQ hp
          rwa [e1] at this
        · rw [hP] at h1; cases h1
      · rw [H1.out.1.frames, ← hn, boot_eqv H1.out.1] at hMn
        exact hMn
  obtain ⟨v1, z1, t1, he, hA1⟩ := HA.out
  subst he
  have HA1 : Hid (((v1 = none ∧ ¬ z1 = 0) ∨ (z1 = 0 ∧ ∃ b g xs, v1 = some ⟨b, 0, none⟩ ∧ w.heap.size ≤ g ∧ BtO x n PS b g xs w3)) ∧ n = x.frames.toNat) := ⟨hA1, hn⟩
  clear hA hA1 HA hK3 HC3 HO2 hn H1
  go_wp2_with fail
  refine (HWd.out w3 HO3.out.keeps).mono ?_
  rintro e w4 ⟨hK4, G2, qs2, rfl, hqm2, hG2, hBG2, hq2, hql2⟩
  have hq2L : qs2.length = L := by have := congrArg List.length hqm2; rw [List.length_map] at this; rw [this]; exact HPS.out.1
  rw [hq2L]
  have HC5 : Hid (Calls _ _ _ w4 _) := handWBig o.a o.ws.length o.c o.ws w4 (HP.out.2.2.2.2.1.seg.kept (HO3.out.keeps.trans hK4 fun _ _ h => h) fun _ _ h => h) rfl HP.out.2.2.2.2.2
  rw [← HL.out.2] at HC5
  have H4 : Hid (Keeps (fun _ => False) w3 w4 ∧ qs2.map Prg.ws = PS ∧ w3.heap.size ≤ G2 ∧ Blk w4 G2 (qs2.flatMap Prg.vs) 43 ∧ (∀ q ∈ qs2, q.Ok w4 w4.heap.size ∧ ∀ y, q.a = some y → y.block ≠ G2) ∧ qs2.length = L ∧ qs2.length ≤ maxLen) := ⟨hK4, hqm2, hG2, hBG2, hq2, hq2L, hql2⟩
  clear hK4 hqm2 hG2 hBG2 hq2 hq2L hql2
  go_wp2_with fail
  refine HC5.out.mono ?_
  rintro e w5 ⟨rfl, hb5, hk5⟩
  obtain ⟨D, hD⟩ : ∃ D, D = w4.heap.size := ⟨_, rfl⟩
  rw [← hD] at hb5 ⊢
  obtain ⟨q9, hq9⟩ : ∃ q9 : Prg, q9 = ⟨some ⟨D, 0, none⟩, oL + 70, o.ws⟩ := ⟨_, rfl⟩
  obtain ⟨W6, hW6⟩ : ∃ W6, W6 = w5.setCell ⟨G2, K, none⟩ (.slice (some ⟨D, 0, none⟩) oL (oL + 70)) := ⟨_, rfl⟩
  have hB5 := H4.out.2.2.2.1.kept hk5 fun h => h
  obtain ⟨vq, hvq⟩ : ∃ vq, (qs2.flatMap Prg.vs)[K]? = some vq := ⟨_, List.getElem?_eq_getElem (by rw [prg_flat, H4.out.2.2.2.2.2.1]; exact hKn)⟩
  have cK := hB5.cell hvq
  have fK := hB5.frozen K
  have H6 : Hid (Keeps (fun _ => False) w3 W6 ∧ PrgIn W6 W6.heap.size (some ⟨G2, 0, none⟩) L (qs2.set K q9) ∧ (qs2.set K q9).length = L ∧ (qs2.set K q9).map Prg.ws = PT) := by
    obtain ⟨k1, k2, k3, k4, k5, k6, k7⟩ := H4.out
    have hG4 : G2 < w4.heap.size := k4.lt
    have hks : Keeps (· = G2) w5 W6 := by rw [hW6]; exact (Keeps.refl _ w5).setCell _ _ fun _ => rfl
    have hsz := hks.size
    have hsz5 := hk5.size
    have hB6 : Blk W6 G2 ((qs2.set K q9).flatMap Prg.vs) 43 := by
      have h0 := hB5.setCell K (.slice (some ⟨D, 0, none⟩) oL (oL + 70))
      have e := prg_set qs2 q9 K
      rw [hq9] at e
      simp only at e
      rw [← HL.out.2] at e
      rw [e] at h0
      rw [hW6, hq9]; exact h0
    have hlen : (qs2.set K q9).length = L := by rw [List.length_set]; exact k6
    have hmx : maxLen = 9223372036854775807 := rfl
    have hol := HP.out.2.2.2.2.2
    have hok : ∀ q ∈ qs2.set K q9, q.Ok W6 W6.heap.size := fun q hq => by
      rcases List.mem_or_eq_of_mem_set hq with h | h
      · obtain ⟨t1, t2⟩ := k5 q h
        refine ⟨(t1.seg.kept hk5 fun _ _ h => h).kept hks fun y hy => t2 y hy, t1.len, fun y hy => ?_⟩
        have := t1.lo y hy
        omega
      · rw [h, hq9]
        have hDl := hb5.lt
        refine ⟨SegW.kept (.inr ⟨D, 0, rfl, fun i hi => ?_⟩) hks fun y hy => ?_, ⟨?_, ?_⟩, fun y hy => ?_⟩
        · rw [Nat.zero_add, hb5.cell (fW_get _ (show i < oL + 70 by have := HL.out.2; simp only at hi; omega))]
          simp [spareW, hi]
        · obtain rfl := Option.some.inj hy
          simp only
          omega
        · have := HL.out.2
          simp only
          omega
        · have := HL.out.2
          simp only
          omega
        · obtain rfl := Option.some.inj hy
          simp only
          omega
    have hpi := PrgIn.ofWide hB6 hok (by rw [hlen]; omega)
    rw [hlen] at hpi
    refine ⟨(k1.trans hk5 fun _ _ h => h).trans hks fun b hb e => by omega, hpi, hlen, ?_⟩
    rw [List.map_set, k2, HPS.out.2, hq9]
  clear hb5 hk5 hB5 hvq hD HC5
  go_upto_region 6 with fail
  rw [← hW6]
  clear hW6 cK fK
  have HO6 : Hid (One w x C N W6) := HO3.out.kept H6.out.1
  have HC7 : Hid (Calls Tryz.prog 6 #[x.v] W6 (CopP x W6)) := Copied_any x W6 N HO6.out.cin HO6.out.nn HP.out.2.2.1
  obtain ⟨q0, q1, q2, q3, q4, q5, q6⟩ := HO6.out.cells
  go_wp2_with fail
  refine HC7.out.mono ?_
  rintro e w7 ⟨x2, rfl, hE2, hI2, hLo2, hK7⟩
  have HC8 : Hid (Calls Tryz.prog 5 #[x2.v, .slice (some ⟨G2, 0, none⟩) L L] w7 (BootP x2 PT w7)) := by
    have h := boot_any x2 (some ⟨G2, 0, none⟩) L (qs2.set K q9) w7 w7.heap.size hI2 (Nat.le_refl _) ((H6.out.2.1.kept hK7).mono hK7.size)
    rw [H6.out.2.2.1, H6.out.2.2.2] at h
    exact h
  have H7 : Hid (x.Eqv x2 ∧ Keeps (fun _ => False) W6 w7) := ⟨hE2, hK7⟩
  clear hE2 hI2 hLo2 hK7 HC7 q0 q1 q2 q3 q4 q5 q6
  go_wp2_with fail
  refine HC8.out.mono ?_
  rintro e w8 ⟨hK8, hBB⟩
  have HO8 : Hid (One w x C N w8 ∧ Keeps (fun _ => False) w3 w8 ∧ w3.heap.size ≤ w7.heap.size) := by
    have h1 := H6.out.1.trans H7.out.2 fun _ _ h => h
    exact ⟨HO3.out.kept (h1.trans hK8 fun _ _ h => h), h1.trans hK8 fun _ _ h => h, h1.size⟩
  have HB : Hid (∃ (v : Option Addr) (z t : Int), e = .returned (.tuple #[.pointer v, .int .i64 z, .int .i64 t]) ∧ ((v = none ∧ ¬ z = 0) ∨ (z = 0 ∧ ∃ b g ys, v = some ⟨b, 0, none⟩ ∧ (w3.heap.size ≤ b ∧ w3.heap.size ≤ g) ∧ BtO x n PT b g ys w8))) := by
    rcases hBB with ⟨z, t, hz, he⟩ | ⟨hgd, hl, b, g, he, hbg, hMn⟩
    · exact ⟨none, z, t, he, .inl ⟨rfl, by omega⟩⟩
    · refine ⟨_, 0, -1, he, .inr ⟨rfl, b, g, _, rfl, ?_, ⟨H7.out.1.gd.1 hgd, by rw [← H7.out.1.len]; exact hl.1, ?_, ?_, rfl⟩⟩⟩
      · have := HO8.out.2.2; omega
      · intro i P p hi hP hp
        rcases H7.out.1.par i with ⟨P', Q, hP', hQ, e1, _⟩ | ⟨h1, _⟩
        · rw [hP] at hP'
          obtain rfl := Option.some.inj hP'
          have := hl.2 i Q p hi hQ hp
          rwa [e1] at this
        · rw [hP] at h1; cases h1
      · rw [H7.out.1.frames, ← HA1.out.2, boot_eqv H7.out.1] at hMn
        exact hMn
  obtain ⟨v2, z2, t2, he, hB1⟩ := HB.out
  subst he
  clear hBB HB hK8 HC8 H7 HO6 H6 H4 HO3
  rcases HA1.out.1 with ⟨rfl, hz1⟩ | ⟨rfl, b1, g1, xs, rfl, hg1, hX⟩
  · rcases hB1 with ⟨rfl, hz2⟩ | ⟨rfl, b2, g2, ys, rfl, hg2, hY⟩
    · have HK : Hid (Keeps (fun _ => False) w w8) := HO8.out.1.keeps
      clear HA1
      go_wp2
      go_ret
      exact ⟨by simp [hz1, hz2], HK.out⟩
    · have HK : Hid (Keeps (fun _ => False) w w8) := HO8.out.1.keeps
      clear HA1 hY
      go_wp2
      go_ret
      exact ⟨by simp [hz1], HK.out⟩
  rcases hB1 with ⟨rfl, hz2⟩ | ⟨rfl, b2, g2, ys, rfl, hg2, hY⟩
  · have HK : Hid (Keeps (fun _ => False) w w8) := HO8.out.1.keeps
    clear HA1 hX
    go_wp2
    go_ret
    exact ⟨by simp [hz2], HK.out⟩
  obtain ⟨P, hP⟩ : ∃ P, x.ps[K]? = some P := ⟨_, List.getElem?_eq_getElem (by have := hX.len; have := HPS.out.1; omega)⟩
  have hTl : PT.length = PS.length := by rw [HPS.out.2, List.length_set]
  have hyx : ys = ownL P.rs o.ws xs := by
    rw [hY.eq, hX.eq, hTl, HPS.out.2]
    exact (boot_set (n := n) hX.gd hP (by rw [HPS.out.1]; exact hKn) o.ws hX.len PS.length (Nat.le_refl _)).2 (by rw [HPS.out.1]; exact hKn)
  have hlo : LiesP P.rs o.ws := hY.lie K P o.ws (by rw [hTl, HPS.out.1]; exact hKn) hP (by rw [HPS.out.2, List.getElem?_set_self (by rw [HPS.out.1]; exact hKn)])
  have hnf : (n : Int) = x.frames := by have := hX.gd.frames; have := HA1.out.2; omega
  obtain ⟨NL, hNL⟩ : ∃ NL, NL = n * 16 := ⟨_, rfl⟩
  have hxl : xs.length = NL := by rw [hNL]; exact hX.mn.len
  have hyl : ys.length = NL := by rw [hNL]; exact hY.mn.len
  have hn1 : (n : Int) ≤ 1024 := by have := hX.gd.frames; omega
  have hne : (((NL : Nat) : Int) != 16 * (n : Int)) = false := by simp; omega
  have HX : Hid (Gd x ∧ x.ps[K]? = some P ∧ ys = ownL P.rs o.ws xs ∧ LiesP P.rs o.ws ∧ (n : Int) = x.frames ∧ NL = n * 16 ∧ xs.length = NL ∧ ys.length = NL ∧ Mn w8 b1 g1 n xs ∧ Mn w8 b2 g2 n ys ∧ (w.heap.size ≤ g1 ∧ g1 < w3.heap.size) ∧ (w3.heap.size ≤ b2 ∧ w3.heap.size ≤ g2) ∧ w3.heap.size ≤ w8.heap.size) :=
    ⟨hX.gd, hP, hyx, hlo, hnf, hNL, hxl, hyl, hX.mn.grown HO8.out.2.1, hY.mn, ⟨hg1, hX.mn.mm.row.lt⟩, hg2, HO8.out.2.1.size⟩
  have HC9 : Hid (Calls _ _ _ w8 _) := words_any b1 g1 xs w8 HX.out.2.2.2.2.2.2.2.2.1.mm
  rw [hxl] at HC9
  clear hP hTl hyx hlo hnf hNL hX hY hg1 hg2 HA1
  go_wp2_with fail
  refine HC9.out.mono ?_
  rintro e w9 ⟨rfl, hb9, hk9⟩
  obtain ⟨X, hXX⟩ : ∃ X, X = w8.heap.size := ⟨_, rfl⟩
  rw [← hXX] at hb9 ⊢
  have H9 : Hid (Blk w9 X (wvs xs) 58 ∧ Keeps (fun _ => False) w8 w9 ∧ X = w8.heap.size) := ⟨hb9, hk9, hXX⟩
  have HC10 : Hid (Calls _ _ _ w9 _) := words_any b2 g2 ys w9 (HX.out.2.2.2.2.2.2.2.2.2.1.grown hk9).mm
  rw [hyl] at HC10
  clear hb9 hk9 hXX HC9 hxl hyl
  go_wp2_with fail
  refine HC10.out.mono ?_
  rintro e w10 ⟨rfl, hb10, hk10⟩
  obtain ⟨Y, hYY⟩ : ∃ Y, Y = w9.heap.size := ⟨_, rfl⟩
  rw [← hYY] at hb10 ⊢
  have H10 : Hid (Blk w10 X (wvs xs) 58 ∧ Blk w10 Y (wvs ys) 58 ∧ Keeps (fun _ => False) w8 w10 ∧ One w x C N w10) := ⟨H9.out.1.kept hk10 fun h => h, hb10, H9.out.2.1.trans hk10 fun _ _ h => h, HO8.out.1.kept (H9.out.2.1.trans hk10 fun _ _ h => h)⟩
  have HYl : Hid (w8.heap.size ≤ Y) := by rw [hYY]; exact H9.out.2.1.size
  have q0 := H10.out.2.2.2.cells.1
  rw [← HX.out.2.2.2.2.1] at q0
  clear hb10 hk10 hYY HC10 H9
  go_wp2
  clear q0 hne
  go_loopw [18] (fun i wr => ∃ j : Nat, j ≤ NL ∧ i = .int .i64 j ∧ Keeps (fun _ => False) w10 wr) (fun i _ => NL - (intOf i).toNat)
  case atStart => exact ⟨0, by omega, rfl, Keeps.refl _ _⟩
  case round =>
    obtain ⟨j, hj, rfl, hK⟩ := hrel
    by_cases hlt : j < NL
    · have hjL : (j : Int) < NL := by omega
      have hNb : (NL : Int) ≤ 16384 := by have := HX.out.2.2.2.2.2.1; omega
      have hjx : j < xs.length := by have := HX.out.2.2.2.2.2.2.1; omega
      have hjy : j < ys.length := by have := HX.out.2.2.2.2.2.2.2.1; omega
      have cx := (H10.out.1.kept hK fun h => h).cell (wvs_get xs j hjx)
      have cy := (H10.out.2.1.kept hK fun h => h).cell (wvs_get ys j hjy)
      obtain ⟨u, hu⟩ : ∃ u : Nat, u = (xs[j]'hjx).toNat := ⟨_, rfl⟩
      obtain ⟨v, hv⟩ : ∃ v : Nat, v = (ys[j]'hjy).toNat := ⟨_, rfl⟩
      rw [← hu] at cx
      rw [← hv] at cy
      by_cases huv : u = v
      · have huv' : (u : Int) = (v : Int) := by omega
        subst huv
        have HK : Hid (Keeps (fun _ => False) w10 wr) := hK
        clear hK hu hv hjx hjy huv' hj hlt
        go_upto_region 18 with fail
        refine region_tailH 8 (by kernel_rfl) ?_
        simp only [List.take_succ_cons, List.take_zero, List.drop_succ_cons, List.drop_zero]
        repeat still_step
        refine wpStill_nil ?_
        go_wp2
        go_roundw
        case rel => exact ⟨j + 1, by omega, by go_num, HK.out.drewN 1⟩
        case measure => simp [intOf]; omega
      · have huv' : ¬ (u : Int) = (v : Int) := by omega
        have hown : ∀ x3 : Cfg, x.Eqv x3 → ownA x3 j = (⟨1, K, 0⟩, 0) := fun x3 h3 => by
          obtain ⟨a1, a2, a3, a4, a5, a6, a7, a8, _⟩ := HX.out
          obtain ⟨Q, hQ⟩ : ∃ Q, x3.ps[K]? = some Q := ⟨_, List.getElem?_eq_getElem (by rw [h3.len]; exact (List.getElem?_eq_some_iff.1 a2).1)⟩
          have hrs : Q.rs = P.rs := (h3.ps K Q P hQ a2).2.2.2.2.2.2.1
          cases hpg : pgOf P.rs (j / 16) with
          | none =>
            exfalso
            apply huv
            have e := own_else (ws := o.ws) (xs := xs) hpg
            rw [← a3, List.getElem?_eq_getElem hjx, List.getElem?_eq_getElem hjy] at e
            rw [hu, hv, Option.some.inj e]
          | some q => exact (h3.gd.2 a1).owner (n := n) (by rw [h3.frames]; exact a5) hQ (by omega) (by rw [hrs]; exact hpg)
        have HOw : Hid (∀ x3 : Cfg, x.Eqv x3 → ownA x3 j = (⟨1, K, 0⟩, 0)) := hown
        have HK : Hid (Keeps (fun _ => False) w10 wr) := hK
        clear hK hu hv hjx hjy huv hj hlt hown
        go_upto_region 18 with fail
        refine region_tailH 8 (by kernel_rfl) ?_
        simp only [List.take_succ_cons, List.take_zero, List.drop_succ_cons, List.drop_zero]
        repeat still_step
        refine wpStill_nil ?_
        go_upto_region 19 with fail
        obtain ⟨w11, hw11⟩ : ∃ w11, w11 = wr.drewN 1 := ⟨_, rfl⟩
        rw [← hw11]
        have HK11 : Hid (Keeps (fun _ => False) w10 w11) := by rw [hw11]; exact HK.out.drewN 1
        have hOr := H10.out.2.2.2.kept HK11.out
        have HC12 : Hid (Calls Tryz.prog 6 #[x.v] w11 (CopP x w11)) := Copied_any x w11 N hOr.cin hOr.nn HP.out.2.2.1
        obtain ⟨q0, q1, q2, q3, q4, q5, q6⟩ := hOr.cells
        clear hw11 hOr cx cy huv'
        go_wp2_with fail
        refine HC12.out.mono ?_
        rintro e w12 ⟨x3, rfl, hE3, hI3, hLo3, hK12⟩
        have HC13 := Owner_any x3 j (by constructor <;> omega) w12 w12.heap.size hI3 (Nat.le_refl _)
        rw [HOw.out x3 hE3] at HC13
        have HC13 : Hid (Calls Tryz.prog 14 #[x3.v, .int .i64 j] w12 fun e w' => e = .returned (.tuple #[.agg #[.int .i64 1, .int .i64 K, .int .i64 0], .int .i64 0]) ∧ Keeps (fun _ => False) w12 w') := HC13
        have HK12 : Hid (Keeps (fun _ => False) w10 w12) := HK11.out.trans hK12 fun _ _ h => h
        clear hE3 hI3 hLo3 hK12 HC12 q0 q1 q2 q3 q4 q5 q6
        go_wp2_with fail
        refine HC13.out.mono ?_
        rintro e w13 ⟨rfl, hk13⟩
        have HK13 : Hid (Keeps (fun _ => False) w10 w13) := HK12.out.trans hk13 fun _ _ h => h
        clear hk13 HC13
        go_wp2
        go_roundw
        case rel => exact ⟨j + 1, by omega, by go_num, HK13.out.alloc _⟩
        case measure => simp [intOf]; omega
    · obtain rfl : j = NL := by omega
      have hOr := H10.out.2.2.2.kept hK
      have HK : Hid (Keeps (fun _ => False) w10 wr ∧ One w x C N wr) := ⟨hK, hOr⟩
      have HC12 : Hid (Calls Tryz.prog 6 #[x.v] wr (CopP x wr)) := Copied_any x wr N hOr.cin hOr.nn HP.out.2.2.1
      obtain ⟨q0, q1, q2, q3, q4, q5, q6⟩ := hOr.cells
      clear hOr hK hj hlt
      go_wp2_with fail
      refine HC12.out.mono ?_
      rintro e w12 ⟨x4, rfl, hE4, hI4, hLo4, hK12⟩
      have HC13 : Hid (Calls _ _ _ w12 _) := copyWords2_any o.a o.c o.ws w12 (HP.out.2.2.2.2.1.seg.kept (HK.out.2.keeps.trans hK12 fun _ _ h => h) fun _ _ h => h) (by have := HX.out.2.2.2.1.1; omega)
      rw [← HL.out.2] at HC13
      have H12 : Hid (x.Eqv x4 ∧ x4.In w12 w12.heap.size ∧ x4.Lo wr.heap.size ∧ Keeps (fun _ => False) wr w12) := ⟨hE4, hI4, hLo4, hK12⟩
      clear hE4 hI4 hLo4 hK12 HC12 q0 q1 q2 q3 q4 q5 q6
      go_wp2_with fail
      refine HC13.out.mono ?_
      rintro e w14 ⟨rfl, hb14, hk14⟩
      have H14 : Hid (Keeps (fun _ => False) w8 w14 ∧ Keeps (fun _ => False) w10 w14) := by
        have h1 := (HK.out.1.trans H12.out.2.2.2 fun _ _ h => h).trans hk14 fun _ _ h => h
        exact ⟨H10.out.2.2.1.trans h1 fun _ _ h => h, h1⟩
      have HCA : Hid (Calls Tryz.prog 15 #[.pointer (some ⟨b1, 0, none⟩), x4.v, .int .i64 K, .slice (some ⟨w12.heap.size, 0, none⟩) oL oL] w14 fun e w' => e = .returned (.int .i64 0) ∧ Mn w' b1 g1 n ys ∧ Keeps (· = g1) w14 w') := by
        obtain ⟨a1, a2, a3, a4, a5, a6, a7, a8, a9, a10, a11, a12, a13⟩ := HX.out
        obtain ⟨h1, h2, h3, h4⟩ := H12.out
        obtain ⟨Q, hQ⟩ : ∃ Q, x4.ps[K]? = some Q := ⟨_, List.getElem?_eq_getElem (by rw [h1.len]; exact (List.getElem?_eq_some_iff.1 a2).1)⟩
        have hrs : Q.rs = P.rs := (h1.ps K Q P hQ a2).2.2.2.2.2.2.1
        have hrn : Q.rs ≠ [] := fun e => by have := ((h1.gd.2 a1).gp K Q hQ).rlen.1; rw [e] at this; simp at this
        have s1 := H10.out.2.2.1.size
        have s2 := HK.out.1.size
        have s3 := h4.size
        have hcall := anew_yes x4 b1 g1 n K xs Q (some ⟨w12.heap.size, 0, none⟩) o.ws oL w14 w12.heap.size (h2.keeps (Nat.le_refl _) hk14) hk14.size (h1.gd.2 a1) (by rw [h1.frames]; exact a5) (a9.grown H14.out.1) hQ (segW_of_blk hb14) ⟨by rw [HL.out.2]; exact Nat.le_refl _, by have := a4.1; have := HL.out.2; unfold maxLen; omega⟩
          (fun y hy => by obtain rfl := Option.some.inj hy; simp only; omega) (fun y hy => by have := h3.r Q (List.mem_of_getElem? hQ) hrn y hy; omega) (by rw [hrs]; exact a4)
        rw [hrs, ← a3, ← HL.out.2] at hcall
        exact hcall
      clear hb14 hk14 HC13
      go_wp2_with fail
      refine HCA.out.mono ?_
      rintro e w15 ⟨rfl, hm15, hk15⟩
      have H15 : Hid (Mn w15 b1 g1 n ys ∧ Blk w15 Y (wvs ys) 58 ∧ Keeps (fun _ => False) w w15) := by
        obtain ⟨a1, a2, a3, a4, a5, a6, a7, a8, a9, a10, a11, a12, a13⟩ := HX.out
        refine ⟨hm15, ?_, ?_⟩
        · refine (H10.out.2.1.kept H14.out.2 fun h => h).kept hk15 ?_
          intro e
          have := HYl.out
          omega
        · exact ((HO8.out.1.keeps.trans H14.out.1 fun _ _ h => h).mono fun _ _ h => h.elim).trans hk15 fun b hb e => by omega
      clear hm15 hk15 HCA
      have HC16 : Hid (Calls _ _ _ w15 _) := words_any b1 g1 ys w15 H15.out.1.mm
      rw [HX.out.2.2.2.2.2.2.2.1] at HC16
      go_wp2_with fail
      refine HC16.out.mono ?_
      rintro e w16 ⟨rfl, hb16, hk16⟩
      have HC17 := same_any (some ⟨w15.heap.size, 0, none⟩) (some ⟨Y, 0, none⟩) ys.length ys.length ys w16 (segW_of_blk hb16) (segW_of_blk (H15.out.2.1.kept hk16 fun h => h)) (by have := HX.out.2.2.2.2.2.2.2.1; have := HX.out.2.2.2.2.2.1; omega)
      rw [HX.out.2.2.2.2.2.2.2.1] at HC17
      have HC17 : Hid (Calls _ _ _ w16 _) := HC17
      have H16 : Hid (Keeps (fun _ => False) w w16) := H15.out.2.2.trans hk16 fun _ _ h => h
      clear hb16 hk16 HC16
      go_wp2_with fail
      refine HC17.out.mono ?_
      rintro e w17 ⟨rfl, hk17⟩
      have H17 : Hid (Keeps (fun _ => False) w w17) := H16.out.trans hk17 fun _ _ h => h
      clear hk17 HC17
      go_wp2
      go_ret
      exact ⟨rfl, H17.out⟩

end Go.Proofs.YtglhfijgnfignaaGreat
