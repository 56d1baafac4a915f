import Derived.Test.YtlnmlbkeemahcaaGreatYf
namespace Go.Proofs.YtlnmlbkeemahcaaGreat
open Go.RowKit
set_option linter.unusedVariables false
set_option maxRecDepth 6000
set_option linter.unusedSimpArgs false
theorem cnt_take {q : Prt} {ps : List Par} {i : Nat} {P : Par} (h : ps[i]? = some P) : cntQ q (ps.take (i + 1)) = cntQ q (ps.take i) + P.ps.countP q.is := by
 unfold cntQ
 rw [List.take_add_one, h, List.flatMap_append, List.countP_append]
 simp
theorem cnt_le {q : Prt} {ps : List Par} {n m : Nat} (hn : ps.length ≤ n) (hm : ∀ P ∈ ps, P.ps.length ≤ m) : cntQ q ps ≤ n * m := by
 unfold cntQ
 refine Nat.le_trans List.countP_le_length ?_
 induction ps generalizing n with
 | nil => simp
 | cons P ps ih =>
  simp only [List.length_cons] at hn
  obtain ⟨k, rfl⟩ : ∃ k, n = k + 1 := ⟨n - 1, by omega⟩
  rw [List.flatMap_cons, List.length_append, Nat.add_mul, Nat.one_mul]
  have h1 := ih (n := k) (by omega) (fun Q hQ => hm Q (List.mem_cons_of_mem _ hQ))
  have h2 := hm P (List.mem_cons_self ..)
  omega
theorem cp_take {f : Prt → Bool} {l : List Prt} {k : Nat} {t : Prt} (h : l[k]? = some t) : (l.take (k + 1)).countP f = (l.take k).countP f + (if f t then 1 else 0) := by
 rw [List.take_add_one, h, List.countP_append]
 cases ft : f t <;> simp [ft]
def EnP (x : Cfg) (h : Nat) (w : World) (e : Ending) (w' : World) : Prop := e = .returned (.tuple #[.int .i64 (cntQ ⟨h, true⟩ x.ps : Int), .int .i64 (cntQ ⟨h, false⟩ x.ps : Int)]) ∧ KF w w'
set_option maxHeartbeats 4000000 in
theorem dends_any (x : Cfg) (h : Nat) (w : World) (N : Nat) (hi : x.In w N) (hN : N ≤ w.heap.size) (hp : x.ps.length ≤ 8) (hpp : ∀ P ∈ x.ps, P.ps.length ≤ 8) : Calls Tryz.prog 30 #[x.v, .int .i64 (h : Int)] w (EnP x h w) := by
 obtain ⟨W, hW⟩ : ∃ W, W = x.laid w := ⟨_, rfl⟩
 obtain ⟨C, hC⟩ : ∃ C, C = w.heap.size := ⟨_, rfl⟩
 have HO : Hid (One w x C N W) := by rw [hW, hC]; exact One.mk' hi hN
 obtain ⟨L, hL⟩ : ∃ L, x.ps.length = L := ⟨_, rfl⟩
 obtain ⟨pa, hpa⟩ : ∃ pa, pa = x.pa := ⟨_, rfl⟩
 have HX : Hid (x.ps.length = L ∧ pa = x.pa ∧ (∀ P ∈ x.ps, P.ps.length ≤ 8) ∧ (∀ q, cntQ q x.ps ≤ 64)) := ⟨hL, hpa, hpp, fun q => cnt_le (n := 8) (m := 8) hp hpp⟩
 have hpc1 : (L : Int) ≤ x.pc := by have := hi.plen; omega
 have hpc2 : (x.pc : Int) ≤ 9223372036854775807 := by have := hi.plen; unfold maxLen at this; omega
 have hL8 : (L : Int) ≤ 8 := by omega
 clear hi hN hp hpp hL hpa
 unfold Cfg.laid at hW
 go_enter Tryz.func30, Tryz.ntmps30
 go_upto_region 1 with fail
 rw [← hW, ← hC]
 clear hW hC
 go_wp2
 go_loopw [6, 7, 8] (fun s d i wr => ∃ j : Nat, j ≤ L ∧ i = .int .i64 j ∧ s = .int .i64 (cntQ ⟨h, true⟩ (x.ps.take j) : Int) ∧ d = .int .i64 (cntQ ⟨h, false⟩ (x.ps.take j) : Int) ∧ KF W wr) (fun _ _ i _ => L - (intOf i).toNat)
 case atStart => exact ⟨0, by omega, rfl, rfl, rfl, Keeps.refl _ _⟩
 case round =>
  obtain ⟨j, hj, rfl, rfl, rfl, hK⟩ := hrel
  obtain ⟨S0, hS0⟩ : ∃ S, cntQ ⟨h, true⟩ (x.ps.take j) = S := ⟨_, rfl⟩
  obtain ⟨D0, hD0⟩ : ∃ D, cntQ ⟨h, false⟩ (x.ps.take j) = D := ⟨_, rfl⟩
  rw [hS0, hD0]
  have HS : Hid (cntQ ⟨h, true⟩ (x.ps.take j) = S0 ∧ cntQ ⟨h, false⟩ (x.ps.take j) = D0 ∧ KF W wr) := ⟨hS0, hD0, hK⟩
  have q5 := (HO.out.kept hK).cells.2.2.2.2.2.1
  rw [HX.out.1, ← HX.out.2.1] at q5
  clear hS0 hD0
  by_cases hlt : j < L
  ·
   have hjl : (j : Int) < L := by omega
   obtain ⟨P, hP⟩ : ∃ P, x.ps[j]? = some P := ⟨_, List.getElem?_eq_getElem (by have := HX.out.1; omega)⟩
   obtain ⟨K, hKl⟩ : ∃ K, P.ps.length = K := ⟨_, rfl⟩
   obtain ⟨qa, hqa⟩ : ∃ qa, qa = P.pa := ⟨_, rfl⟩
   have hPi := (HO.out.kept hK).cin.pin P (List.mem_of_getElem? hP)
   have hqc1 : (K : Int) ≤ P.pc := by have := hPi.plen; omega
   have hqc2 : (P.pc : Int) ≤ 9223372036854775807 := by have := hPi.plen; unfold maxLen at this; omega
   have hK8 : (K : Int) ≤ 8 := by have := HX.out.2.2.1 P (List.mem_of_getElem? hP); omega
   have hs1 : S0 ≤ 64 ∧ D0 ≤ 64 := by
    have h1 := cnt_le (q := ⟨h, true⟩) (ps := x.ps.take j) (n := 8) (m := 8) (by simp; omega) fun Q hQ => HX.out.2.2.1 Q (List.mem_of_mem_take hQ)
    have h2 := cnt_le (q := ⟨h, false⟩) (ps := x.ps.take j) (n := 8) (m := 8) (by simp; omega) fun Q hQ => HX.out.2.2.1 Q (List.mem_of_mem_take hQ)
    have := HS.out
    omega
   have HP : Hid (x.ps[j]? = some P ∧ P.ps.length = K ∧ qa = P.pa) := ⟨hP, hKl, hqa⟩
   clear hP hKl hqa hPi hK
   go_wp2
   clear q5
   go_loopw [6, 7, 9] (fun s d i wr => ∃ k : Nat, k ≤ K ∧ i = .int .i64 k ∧ s = .int .i64 ((S0 + (P.ps.take k).countP (Prt.is ⟨h, true⟩) : Nat) : Int) ∧ d = .int .i64 ((D0 + (P.ps.take k).countP (Prt.is ⟨h, false⟩) : Nat) : Int) ∧ KF W wr) (fun _ _ i _ => K - (intOf i).toNat)
   case atStart => exact ⟨0, by omega, rfl, rfl, rfl, HS.out.2.2⟩
   case round =>
    obtain ⟨k, hk, rfl, rfl, rfl, hK⟩ := hrel
    obtain ⟨S1, hS1⟩ : ∃ S, S0 + (P.ps.take k).countP (Prt.is ⟨h, true⟩) = S := ⟨_, rfl⟩
    obtain ⟨D1, hD1⟩ : ∃ D, D0 + (P.ps.take k).countP (Prt.is ⟨h, false⟩) = D := ⟨_, rfl⟩
    rw [hS1, hD1]
    have hs2 : S1 ≤ 72 ∧ D1 ≤ 72 := by
     have h1 : (P.ps.take k).countP (Prt.is ⟨h, true⟩) ≤ (P.ps.take k).length := List.countP_le_length
     have h2 : (P.ps.take k).countP (Prt.is ⟨h, false⟩) ≤ (P.ps.take k).length := List.countP_le_length
     rw [List.length_take] at h1 h2
     omega
    have hO := HO.out.kept hK
    obtain ⟨g, o, ha, hc⟩ := hO.cin.par HP.out.1
    rw [← HX.out.2.1] at ha
    have q5 := hO.cells.2.2.2.2.2.1
    rw [HX.out.1, ← HX.out.2.1, ha] at q5
    have p7 := hc 7 _ rfl
    rw [HP.out.2.1, ← HP.out.2.2] at p7
    by_cases hlk : k < K
    ·
     have hkk : (k : Int) < K := by omega
     obtain ⟨t, ht⟩ : ∃ t, P.ps[k]? = some t := ⟨_, List.getElem?_eq_getElem (by have := HP.out.2.1; omega)⟩
     obtain ⟨g2, o2, ha2, hc2⟩ := (hO.cin.pin P (List.mem_of_getElem? HP.out.1)).pseg.at ht
     rw [← HP.out.2.2] at ha2
     subst ha2
     obtain ⟨ch, sr⟩ := t
     have z0 := hc2 0 _ rfl
     rw [Nat.add_zero] at z0
     have z1 := hc2 1 _ rfl
     dsimp only at z0 z1
     obtain ⟨A, hA⟩ : ∃ A, A = wr.heap.size := ⟨_, rfl⟩
     obtain ⟨W2, hW2⟩ : ∃ W2, W2 = wr.alloc (.cells #[.int .i64 ch, .bool sr] 57) := ⟨_, rfl⟩
     have hb2 : Blk W2 A [.int .i64 ch, .bool sr] 57 := by rw [hW2, hA]; exact Blk.new _ _ _
     have HK2 : Hid (KF W W2 ∧ P.ps[k]? = some ⟨ch, sr⟩ ∧ S0 + (P.ps.take k).countP (Prt.is ⟨h, true⟩) = S1 ∧ D0 + (P.ps.take k).countP (Prt.is ⟨h, false⟩) = D1) := ⟨by rw [hW2]; exact hK.alloc _, ht, hS1, hD1⟩
     have y0 := hb2.cell (i := 0) rfl
     have y1 := hb2.cell (i := 1) rfl
     have w1 : IntKind.i64.wrap ((S1 : Int) + 1) = S1 + 1 := by rw [IntKind.wrap_i64]; omega
     have w2 : IntKind.i64.wrap ((D1 : Int) + 1) = D1 + 1 := by rw [IntKind.wrap_i64]; omega
     clear ht hc hc2 ha hO hK hb2 hS1 hD1 hs2
     go_upto_region 10 with fail
     rw [← hW2, ← hA]
     clear hW2 hA q5 p7 z0 z1
     have hnx : ∀ b : Bool, (P.ps.take (k + 1)).countP (Prt.is ⟨h, b⟩) = (P.ps.take k).countP (Prt.is ⟨h, b⟩) + (if Prt.is ⟨h, b⟩ ⟨ch, sr⟩ then 1 else 0) := fun b => cp_take HK2.out.2.1
     have HNX := Hid.mkq hnx
     clear hnx
     by_cases hch : ch = (h : Int)
     ·
      have e1 : (ch == (h : Int)) = true := by simp [hch]
      cases sr with
      | true =>
       have HZ : Hid (S0 + (P.ps.take (k + 1)).countP (Prt.is ⟨h, true⟩) = S1 + 1 ∧ D0 + (P.ps.take (k + 1)).countP (Prt.is ⟨h, false⟩) = D1) := by
        have i1 : Prt.is ⟨h, true⟩ ⟨ch, true⟩ = true := by unfold Prt.is; simp [hch]
        have i2 : Prt.is ⟨h, false⟩ ⟨ch, true⟩ = false := by unfold Prt.is; simp
        have h1 := HNX.out true
        have h2 := HNX.out false
        rw [i1] at h1
        rw [i2] at h2
        have := HK2.out.2.2
        simp at h1 h2
        exact ⟨by omega, by omega⟩
       go_wp2
       go_roundw
       case rel => exact ⟨k + 1, by omega, by go_num, by rw [HZ.out.1]; go_num, by rw [HZ.out.2], HK2.out.1⟩
       case measure => simp [intOf]; omega
      | false =>
       have HZ : Hid (S0 + (P.ps.take (k + 1)).countP (Prt.is ⟨h, true⟩) = S1 ∧ D0 + (P.ps.take (k + 1)).countP (Prt.is ⟨h, false⟩) = D1 + 1) := by
        have i1 : Prt.is ⟨h, true⟩ ⟨ch, false⟩ = false := by unfold Prt.is; simp
        have i2 : Prt.is ⟨h, false⟩ ⟨ch, false⟩ = true := by unfold Prt.is; simp [hch]
        have h1 := HNX.out true
        have h2 := HNX.out false
        rw [i1] at h1
        rw [i2] at h2
        have := HK2.out.2.2
        simp at h1 h2
        exact ⟨by omega, by omega⟩
       go_wp2
       go_roundw
       case rel => exact ⟨k + 1, by omega, by go_num, by rw [HZ.out.1], by rw [HZ.out.2]; go_num, HK2.out.1⟩
       case measure => simp [intOf]; omega
     ·
      have e1 : (ch == (h : Int)) = false := by simp [hch]
      have HZ : Hid (S0 + (P.ps.take (k + 1)).countP (Prt.is ⟨h, true⟩) = S1 ∧ D0 + (P.ps.take (k + 1)).countP (Prt.is ⟨h, false⟩) = D1) := by
       have i1 : Prt.is ⟨h, true⟩ ⟨ch, sr⟩ = false := by unfold Prt.is; simp [hch]
       have i2 : Prt.is ⟨h, false⟩ ⟨ch, sr⟩ = false := by unfold Prt.is; simp [hch]
       have h1 := HNX.out true
       have h2 := HNX.out false
       rw [i1] at h1
       rw [i2] at h2
       have := HK2.out.2.2
       simp at h1 h2
       exact ⟨by omega, by omega⟩
      go_wp2
      go_roundw
      case rel => exact ⟨k + 1, by omega, by go_num, by rw [HZ.out.1], by rw [HZ.out.2], HK2.out.1⟩
      case measure => simp [intOf]; omega
    ·
     obtain rfl : k = K := by omega
     have HZ : Hid (cntQ ⟨h, true⟩ (x.ps.take (j + 1)) = S1 ∧ cntQ ⟨h, false⟩ (x.ps.take (j + 1)) = D1 ∧ KF W wr) := by
      rw [List.take_of_length_le (by have := HP.out.2.1; omega)] at hS1 hD1
      refine ⟨?_, ?_, hK⟩
      ·
       rw [cnt_take HP.out.1, HS.out.1]; exact hS1
      ·
       rw [cnt_take HP.out.1, HS.out.2.1]; exact hD1
     clear hS1 hD1 hO hK hc
     go_wp2
     go_roundw
     case rel => exact ⟨j + 1, by omega, by go_num, by rw [HZ.out.1], by rw [HZ.out.2.1], HZ.out.2.2⟩
     case measure => simp [intOf]; omega
  ·
   obtain rfl : j = L := by omega
   have HZ : Hid (cntQ ⟨h, true⟩ x.ps = S0 ∧ cntQ ⟨h, false⟩ x.ps = D0 ∧ KF w wr) := by
    have := HS.out
    rw [List.take_of_length_le (by have := HX.out.1; omega)] at this
    exact ⟨this.1, this.2.1, HO.out.keeps.trans this.2.2 fun _ _ h => h⟩
   clear hK
   go_wp2
   go_ret2
   exact ⟨by rw [HZ.out.1, HZ.out.2.1]; rfl, HZ.out.2.2⟩
def chN (x : Cfg) (n : Nat) (h : Chn) : Int := (firstF (chnF x n h)).n
theorem chnF_at {x : Cfg} {n : Nat} {h : Chn} (hn : chN x n h ≠ 0) : firstF (chnF x n h) = ⟨chN x n h, n, -1⟩ := by
 revert hn
 unfold chN chnF
 cases h.okB
 ·
  simp [firstF, unl]
 ·
  cases ((cntQ ⟨n, true⟩ x.ps : Int) == 1)
  ·
   simp [firstF, unl, Flt.no]
  ·
   cases (inR (cntQ ⟨n, false⟩ x.ps : Int) 1 h.most)
   ·
    simp [firstF, unl, Flt.no]
   ·
    intro hn; exact absurd rfl hn
theorem chN_bad {x : Cfg} {n : Nat} {h : Chn} (hb : h.okB = false) : chN x n h = 415 := by
 unfold chN chnF
 rw [hb]
 simp [firstF, unl]
theorem chN_src {x : Cfg} {n : Nat} {h : Chn} (hb : h.okB = true) (h1 : ((cntQ ⟨n, true⟩ x.ps : Int) == 1) = false) : chN x n h = 416 := by
 unfold chN chnF
 rw [hb, h1]
 simp [firstF, unl, Flt.no]
theorem chN_dst {x : Cfg} {n : Nat} {h : Chn} (hb : h.okB = true) (h1 : ((cntQ ⟨n, true⟩ x.ps : Int) == 1) = true) (h2 : inR (cntQ ⟨n, false⟩ x.ps : Int) 1 h.most = false) : chN x n h = 417 := by
 unfold chN chnF
 rw [hb, h1, h2]
 simp [firstF, unl, Flt.no]
theorem chN_ok {x : Cfg} {n : Nat} {h : Chn} (hb : h.okB = true) (h1 : ((cntQ ⟨n, true⟩ x.ps : Int) == 1) = true) (h2 : inR (cntQ ⟨n, false⟩ x.ps : Int) 1 h.most = true) : chN x n h = 0 := by
 unfold chN chnF
 rw [hb, h1, h2]
 simp [firstF, unl, Flt.no]
set_option maxHeartbeats 4000000 in
theorem dchannel_any (x : Cfg) (n : Nat) (h : Chn) (hh : x.hs[n]? = some h) (w : World) (N : Nat) (hi : x.In w N) (hN : N ≤ w.heap.size) (hp : x.ps.length ≤ 8) (hpp : ∀ P ∈ x.ps, P.ps.length ≤ 8) : Calls Tryz.prog 18 #[x.v, .int .i64 (n : Int)] w (NuP (chN x n h) w) := by
 obtain ⟨V, hV⟩ : ∃ V, chN x n h = V := ⟨_, rfl⟩
 rw [hV]
 obtain ⟨W, hW⟩ : ∃ W, W = x.laid w := ⟨_, rfl⟩
 obtain ⟨C, hC⟩ : ∃ C, C = w.heap.size := ⟨_, rfl⟩
 have hO : One w x C N W := by rw [hW, hC]; exact One.mk' hi hN
 obtain ⟨L, hL⟩ : ∃ L, x.hs.length = L := ⟨_, rfl⟩
 have hnl : (n : Int) < L := by have := (List.getElem?_eq_some_iff.1 hh).1; omega
 have hhc1 : (L : Int) ≤ x.hc := by have := hi.hlen; omega
 have hhc2 : (x.hc : Int) ≤ 9223372036854775807 := by have := hi.hlen; unfold maxLen at this; omega
 obtain ⟨g, o, ha, hc⟩ := hO.cin.chn hh
 have q6 := hO.cells.2.2.2.2.2.2
 rw [hL, ha] at q6
 obtain ⟨kd, wd, dp⟩ := h
 have y0 := hc 0 _ rfl
 rw [Nat.add_zero] at y0
 have y1 := hc 1 _ rfl
 have y2 := hc 2 _ rfl
 dsimp only at y0 y1 y2
 obtain ⟨B, hB⟩ : ∃ B, B = W.heap.size := ⟨_, rfl⟩
 obtain ⟨W1, hW1⟩ : ∃ W1, W1 = W.alloc (.cells #[.int .i64 kd, .int .i64 wd, .int .i64 dp] 48) := ⟨_, rfl⟩
 have HI : Hid (One w x C N W1 ∧ Blk W1 B [.int .i64 kd, .int .i64 wd, .int .i64 dp] 48) := by rw [hW1, hB]; exact ⟨hO.kept ((Keeps.refl _ _).alloc _), Blk.new _ _ _⟩
 have HX : Hid (chN x n ⟨kd, wd, dp⟩ = V) := hV
 have HIn : Hid (∀ n a b w, Calls Tryz.prog 26 #[.int .i64 n, .int .i64 a, .int .i64 b] w fun e w' => e = .returned (.bool (inR n a b)) ∧ w' = w) := rin_any
 have HC : Hid (Calls Tryz.prog 30 #[x.v, .int .i64 (n : Int)] W1 (EnP x n W1)) := dends_any x n W1 N HI.out.1.cin HI.out.1.nn hp hpp
 clear hV hi hN hp hpp hO hL hh hc ha
 unfold Cfg.laid at hW
 go_enter Tryz.func18, Tryz.ntmps18
 go_upto_region 1 with fail
 rw [← hW, ← hC]
 clear hW hC
 go_upto_region 2 with fail
 rw [← hW1, ← hB]
 clear hW1 hB q6 y0 y1 y2
 have z0 := HI.out.2.cell (i := 0) rfl
 have z1 := HI.out.2.cell (i := 1) rfl
 have z2 := HI.out.2.cell (i := 2) rfl
 obtain ⟨q0, q1, q2, q3, q4, q5, q6⟩ := HI.out.1.cells
 by_cases hk2 : kd = 2
 ·
  have k2 : (kd == 2) = true := by simp [hk2]
  go_wp2_with fail
  refine (HIn.out wd 1 16 W1).mono ?_
  rintro e w2 ⟨rfl, rfl⟩
  cases b2 : inR wd 1 16 with
  | false =>
   have HV : Hid (V = 415) := by show V = _; rw [← HX.out]; exact chN_bad (by unfold Chn.okB; dsimp only; rw [b2]; rfl)
   clear b2
   go_wp2
   go_ret
   exact ⟨by rw [HV.out]; rfl, HI.out.1.keeps⟩
  | true =>
  have H2 : Hid (inR wd 1 16 = true) := b2
  clear b2
  go_wp2_with fail
  refine (HIn.out dp 1 8 w2).mono ?_
  rintro e w3 ⟨rfl, rfl⟩
  cases b3 : inR dp 1 8 with
  | false =>
   have HV : Hid (V = 415) := by show V = _; rw [← HX.out]; exact chN_bad (by unfold Chn.okB; simp [hk2, b3])
   clear b3
   go_wp2
   go_ret
   exact ⟨by rw [HV.out]; rfl, HI.out.1.keeps⟩
  | true =>
  have H3 : Hid (inR dp 1 8 = true) := b3
  clear b3
  have HOK : Hid (Chn.okB ⟨kd, wd, dp⟩ = true) := by show _ = _; unfold Chn.okB; dsimp only; rw [H2.out]; simp [hk2]; exact H3.out
  go_wp2_with fail
  refine HC.out.mono ?_
  rintro e w3 ⟨rfl, hK3⟩
  obtain ⟨S, hS⟩ : ∃ S : Int, (cntQ ⟨n, true⟩ x.ps : Int) = S := ⟨_, rfl⟩
  obtain ⟨D, hD⟩ : ∃ D : Int, (cntQ ⟨n, false⟩ x.ps : Int) = D := ⟨_, rfl⟩
  rw [hS, hD]
  have HS : Hid ((cntQ ⟨n, true⟩ x.ps : Int) = S ∧ (cntQ ⟨n, false⟩ x.ps : Int) = D ∧ KF w w3) := ⟨hS, hD, HI.out.1.keeps.trans hK3 fun _ _ h => h⟩
  clear hS hD hK3 q0 q1 q2 q3 q4 q5 q6 HC z0 z1 z2
  by_cases hs1 : S = 1
  rotate_left
  ·
   have HV : Hid (V = 416) := by show V = _; rw [← HX.out]; exact chN_src HOK.out (by rw [HS.out.1]; simp [hs1])
   go_wp2
   go_ret
   exact ⟨by rw [HV.out]; rfl, HS.out.2.2⟩
  have H1S : Hid (((cntQ ⟨n, true⟩ x.ps : Int) == 1) = true) := by show _ = _; rw [HS.out.1]; simp [hs1]
  by_cases hd1 : D = 1
  ·
   have HV : Hid (V = 0) := by
    show V = _
    rw [← HX.out]
    refine chN_ok HOK.out H1S.out ?_
    rw [HS.out.2.1, hd1]
    unfold Chn.most
    simp [hk2, inR]
   go_wp2
   go_ret
   exact ⟨by rw [HV.out]; rfl, HS.out.2.2⟩
  ·
   have HV : Hid (V = 417) := by
    show V = _
    rw [← HX.out]
    refine chN_dst HOK.out H1S.out ?_
    rw [HS.out.2.1]
    unfold Chn.most inR
    simp [hk2]
    omega
   go_wp2
   go_ret
   exact ⟨by rw [HV.out]; rfl, HS.out.2.2⟩
 ·
  have k2 : (kd == 2) = false := by simp [hk2]
  by_cases hk1 : kd = 1
  rotate_left
  ·
   have k1 : (kd == 1) = false := by simp [hk1]
   have HV : Hid (V = 415) := by show V = _; rw [← HX.out]; exact chN_bad (by unfold Chn.okB; simp [hk2, hk1])
   go_wp2
   go_ret
   exact ⟨by rw [HV.out]; rfl, HI.out.1.keeps⟩
  have k1 : (kd == 1) = true := by simp [hk1]
  go_wp2_with fail
  refine (HIn.out wd 1 16 W1).mono ?_
  rintro e w2 ⟨rfl, rfl⟩
  cases b2 : inR wd 1 16 with
  | false =>
   have HV : Hid (V = 415) := by show V = _; rw [← HX.out]; exact chN_bad (by unfold Chn.okB; dsimp only; rw [b2]; rfl)
   clear b2
   go_wp2
   go_ret
   exact ⟨by rw [HV.out]; rfl, HI.out.1.keeps⟩
  | true =>
  have H2 : Hid (inR wd 1 16 = true) := b2
  clear b2
  by_cases hd0 : dp = 0
  rotate_left
  ·
   have d0 : (dp == 0) = false := by simp [hd0]
   have HV : Hid (V = 415) := by show V = _; rw [← HX.out]; exact chN_bad (by unfold Chn.okB; simp [hk1, hd0])
   go_wp2
   go_ret
   exact ⟨by rw [HV.out]; rfl, HI.out.1.keeps⟩
  have d0 : (dp == 0) = true := by simp [hd0]
  have HOK : Hid (Chn.okB ⟨kd, wd, dp⟩ = true) := by show _ = _; unfold Chn.okB; dsimp only; rw [H2.out]; simp [hk1]; omega
  go_wp2_with fail
  refine HC.out.mono ?_
  rintro e w3 ⟨rfl, hK3⟩
  obtain ⟨S, hS⟩ : ∃ S : Int, (cntQ ⟨n, true⟩ x.ps : Int) = S := ⟨_, rfl⟩
  obtain ⟨D, hD⟩ : ∃ D : Int, (cntQ ⟨n, false⟩ x.ps : Int) = D := ⟨_, rfl⟩
  rw [hS, hD]
  have HS : Hid ((cntQ ⟨n, true⟩ x.ps : Int) = S ∧ (cntQ ⟨n, false⟩ x.ps : Int) = D ∧ KF w w3) := ⟨hS, hD, HI.out.1.keeps.trans hK3 fun _ _ h => h⟩
  clear hS hD hK3 q0 q1 q2 q3 q4 q5 q6 HC z0 z1 z2
  by_cases hs1 : S = 1
  rotate_left
  ·
   have HV : Hid (V = 416) := by show V = _; rw [← HX.out]; exact chN_src HOK.out (by rw [HS.out.1]; simp [hs1])
   go_wp2
   go_ret
   exact ⟨by rw [HV.out]; rfl, HS.out.2.2⟩
  have H1S : Hid (((cntQ ⟨n, true⟩ x.ps : Int) == 1) = true) := by show _ = _; rw [HS.out.1]; simp [hs1]
  have hms : Chn.most ⟨kd, wd, dp⟩ = 4 := by unfold Chn.most; simp; omega
  have HMS : Hid (Chn.most ⟨kd, wd, dp⟩ = 4) := hms
  clear hms
  go_wp2_with fail
  refine (HIn.out D 1 4 w3).mono ?_
  rintro e w4 ⟨rfl, rfl⟩
  cases b4 : inR D 1 4 with
  | true =>
   have HV : Hid (V = 0) := by show V = _; rw [← HX.out]; exact chN_ok HOK.out H1S.out (by rw [HS.out.2.1, HMS.out]; exact b4)
   clear b4
   go_wp2
   go_ret
   exact ⟨by rw [HV.out]; rfl, HS.out.2.2⟩
  | false =>
   have HV : Hid (V = 417) := by show V = _; rw [← HX.out]; exact chN_dst HOK.out H1S.out (by rw [HS.out.2.1, HMS.out]; exact b4)
   clear b4
   go_wp2
   go_ret
   exact ⟨by rw [HV.out]; rfl, HS.out.2.2⟩
set_option maxHeartbeats 4000000 in
theorem dsplit_any (x : Cfg) (c : Nat) (p : Int) (w : World) (N : Nat) (hi : x.In w N) (hN : N ≤ w.heap.size) (hc : c ≤ x.cs.length) (hc4 : x.cs.length ≤ 4) (hw : ∀ X ∈ x.cs.take c, X.ws.length ≤ 16) : Calls Tryz.prog 31 #[x.v, .int .i64 (c : Int), .int .i64 p] w (BoP (hasW p (x.cs.take c)) w) := by
 obtain ⟨V, hV⟩ : ∃ V, hasW p (x.cs.take c) = V := ⟨_, rfl⟩
 rw [hV]
 obtain ⟨W, hW⟩ : ∃ W, W = x.laid w := ⟨_, rfl⟩
 obtain ⟨C, hC⟩ : ∃ C, C = w.heap.size := ⟨_, rfl⟩
 have HO : Hid (One w x C N W) := by rw [hW, hC]; exact One.mk' hi hN
 obtain ⟨L, hL⟩ : ∃ L, x.cs.length = L := ⟨_, rfl⟩
 obtain ⟨ca, hca⟩ : ∃ ca, ca = x.ca := ⟨_, rfl⟩
 have HX : Hid (hasW p (x.cs.take c) = V ∧ x.cs.length = L ∧ ca = x.ca ∧ c ≤ L ∧ (∀ X ∈ x.cs.take c, X.ws.length ≤ 16)) := ⟨hV, hL, hca, by omega, hw⟩
 have hcc1 : (L : Int) ≤ x.cc := by have := hi.clen; omega
 have hcc2 : (x.cc : Int) ≤ 9223372036854775807 := by have := hi.clen; unfold maxLen at this; omega
 have hcL : (c : Int) ≤ L := by omega
 have hL4 : (L : Int) ≤ 4 := by omega
 clear hV hi hN hc hL hca hw
 unfold Cfg.laid at hW
 go_enter Tryz.func31, Tryz.ntmps31
 go_upto_region 1 with fail
 rw [← hW, ← hC]
 clear hW hC
 go_wp2
 go_loopw [7] (fun i wr => ∃ j : Nat, j ≤ c ∧ i = .int .i64 j ∧ hasW p (x.cs.take j) = false ∧ W = wr) (fun i _ => c - (intOf i).toNat)
 case atStart => exact ⟨0, by omega, rfl, by unfold hasW; split <;> rfl, rfl⟩
 case round =>
  obtain ⟨j, hj, rfl, hno, rfl⟩ := hrel
  have HN : Hid (hasW p (x.cs.take j) = false) := hno
  clear hno
  by_cases hlt : j < c
  ·
   have hjc : (j : Int) < c := by omega
   have hjl : (j : Int) < L := by omega
   obtain ⟨X, hX⟩ : ∃ X, x.cs[j]? = some X := ⟨_, List.getElem?_eq_getElem (by have := HX.out; omega)⟩
   have hXi := HO.out.cin.cin X (List.mem_of_getElem? hX)
   obtain ⟨g, o, ha, hc⟩ := HO.out.cin.cseg.at hX
   have r0 := hc 0 _ rfl
   rw [Nat.mul_one, Nat.add_zero] at r0
   rw [← HX.out.2.2.1] at ha
   subst ha
   have q4 := HO.out.cells.2.2.2.2.1
   rw [HX.out.2.1, ← HX.out.2.2.1] at q4
   obtain ⟨K, hK⟩ : ∃ K, X.ws.length = K := ⟨_, rfl⟩
   rw [hK] at r0
   obtain ⟨xa, hxa⟩ : ∃ xa, xa = X.a := ⟨_, rfl⟩
   rw [← hxa] at r0
   have hK16 : (K : Int) ≤ 16 := by have := HX.out.2.2.2.2 X (List.mem_of_getElem? (i := j) (by rw [List.getElem?_take, if_pos hlt]; exact hX)); omega
   have hkc1 : (K : Int) ≤ X.c := by have := hXi.len; omega
   have hkc2 : (X.c : Int) ≤ 9223372036854775807 := by have := hXi.len; unfold maxLen at this; omega
   have HP : Hid (x.cs[j]? = some X ∧ X.ws.length = K ∧ xa = X.a) := ⟨hX, hK, hxa⟩
   clear hX hXi hc hK hxa
   go_wp2
   go_loopw [8] (fun i wr => ∃ k : Nat, k ≤ K ∧ i = .int .i64 k ∧ (p = -1 ∨ ((X.ws.take k).any fun y => y.p == p) = false) ∧ W = wr) (fun i _ => K - (intOf i).toNat)
   case atStart => exact ⟨0, by omega, rfl, .inr rfl, rfl⟩
   case round =>
    obtain ⟨k, hk, rfl, hno, rfl⟩ := hrel
    have HM : Hid (p = -1 ∨ ((X.ws.take k).any fun y => y.p == p) = false) := hno
    clear hno
    by_cases hlk : k < K
    ·
     have hkk : (k : Int) < K := by omega
     by_cases hp1 : p = -1
     ·
      have HP1 : Hid (p = -1) := hp1
      subst hp1
      go_wp2
      go_roundw
      case rel => exact ⟨k + 1, by omega, by go_num, .inl trivial, trivial⟩
      case measure => simp [intOf]; omega
     ·
      have hpb : (p == -1) = false := by simp [hp1]
      obtain ⟨y, hy⟩ : ∃ y, X.ws[k]? = some y := ⟨_, List.getElem?_eq_getElem (by have := HP.out.2.1; omega)⟩
      obtain ⟨g2, o2, ha2, hc2⟩ := (HO.out.cin.cin X (List.mem_of_getElem? HP.out.1)).seg.at hy
      rw [← HP.out.2.2] at ha2
      subst ha2
      have z0 := hc2 0 _ rfl
      rw [Nat.add_zero] at z0
      obtain ⟨yp, yu, ys⟩ := y
      dsimp only at z0
      have HY : Hid (X.ws[k]? = some ⟨yp, yu, ys⟩ ∧ ¬ p = -1) := ⟨hy, hp1⟩
      clear hy hc2
      by_cases hyp : yp = p
      ·
       have e1 : (yp == p) = true := by simp [hyp]
       have HF : Hid (V = true) := by
        show V = true
        rw [← HX.out.1]
        unfold hasW
        rw [if_neg HY.out.2]
        exact any_hit HP.out.1 hlt (List.any_eq_true.2 ⟨_, List.mem_of_getElem? HY.out.1, by simpa using hyp⟩)
       go_wp2
       go_ret
       exact ⟨by rw [HF.out]; rfl, HO.out.keeps⟩
      ·
       have e1 : (yp == p) = false := by simp [hyp]
       have HF : Hid (((X.ws.take (k + 1)).any fun y => y.p == p) = false) := by
        refine any_next HY.out.1 ?_ (by simpa using hyp)
        exact HM.out.resolve_left HY.out.2
       go_wp2
       go_roundw
       case rel => exact ⟨k + 1, by omega, by go_num, .inr HF.out, trivial⟩
       case measure => simp [intOf]; omega
    ·
     obtain rfl : k = K := by omega
     have HF : Hid (hasW p (x.cs.take (j + 1)) = false) := by
      have h1 := HN.out
      have h2 := HM.out
      rw [List.take_of_length_le (by have := HP.out.2.1; omega)] at h2
      show _ = false
      unfold hasW at h1 ⊢
      by_cases e : p = -1
      ·
       rw [if_pos e]
      ·
       rw [if_neg e] at h1 ⊢
       exact any_next HP.out.1 h1 (h2.resolve_left e)
     go_wp2
     go_roundw
     case rel => exact ⟨j + 1, by omega, by go_num, HF.out, trivial⟩
     case measure => simp [intOf]; omega
  ·
   obtain rfl : j = c := by omega
   have HF : Hid (V = false) := by show V = false; rw [← HX.out.1]; exact HN.out
   go_wp2
   go_ret
   exact ⟨by rw [HF.out]; rfl, HO.out.keeps⟩
end Go.Proofs.YtlnmlbkeemahcaaGreat
