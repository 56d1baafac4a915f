import Derived.Test.YtlnmlbkeemahcaaGreatGd
import Derived.StillTactics
import Derived.Laws.Strings
namespace Go.Proofs.YtlnmlbkeemahcaaGreat
open Go.RowKit
set_option linter.unusedVariables false
set_option maxRecDepth 6000
set_option linter.unusedSimpArgs false
theorem rin_any (n a b : Int) (w : World) : Calls Tryz.prog 26 #[.int .i64 n, .int .i64 a, .int .i64 b] w fun e w' => e = .returned (.bool (inR n a b)) ∧ w' = w := by
 unfold inR
 go_enter Tryz.func26, Tryz.ntmps26
 by_cases h : a ≤ n
 ·
  have q : decide (a ≤ n) = true := by simpa using h
  go_wp2
  go_ret
  simp [h]
 ·
  have q : decide (a ≤ n) = false := by simpa using h
  go_wp2
  go_ret
  simp [h]
theorem rmeet_any (r o : Rn) (w : World) (h1 : -1000000 ≤ r.f ∧ r.f ≤ 1000000 ∧ -1000000 ≤ r.s ∧ r.s ≤ 1000000) (h2 : -1000000 ≤ o.f ∧ o.f ≤ 1000000 ∧ -1000000 ≤ o.s ∧ o.s ≤ 1000000) :
  Calls Tryz.prog 32 #[.int .i64 r.f, .int .i64 r.s, .int .i64 o.f, .int .i64 o.s] w fun e w' => e = .returned (.bool (o.meets r)) ∧ w' = w := by
 obtain ⟨a, b⟩ := r
 obtain ⟨c, d⟩ := o
 dsimp only at *
 have q1 : IntKind.i64.wrap (c + d) = c + d := by rw [IntKind.wrap_i64]; omega
 have q2 : IntKind.i64.wrap (a + b) = a + b := by rw [IntKind.wrap_i64]; omega
 unfold Rn.meets
 dsimp only
 clear h1 h2
 go_enter Tryz.func32, Tryz.ntmps32
 by_cases h : a < c + d
 ·
  have q : decide (a < c + d) = true := by simpa using h
  go_wp2
  go_ret
  simp [h]
 ·
  have q : decide (a < c + d) = false := by simpa using h
  go_wp2
  go_ret
  simp [h]
theorem rnone_any (w : World) : Calls Tryz.prog 16 #[] w fun e w' => e = .returned (.agg #[.int .i64 (-1), .int .i64 (-1)]) ∧ KF w w' := by
 go_enter Tryz.func16, Tryz.ntmps16
 go_wp2
 have hB := Blk.new w #[.int .i64 (-1), .int .i64 (-1)] 34
 refine bodyPost_ret (results_cell_row rfl _ _ w.heap.size 34 _ (0, 0) _ rfl hB Tryz.underlying34 rfl (by kernel_rfl)) rfl ?_
 exact ⟨rfl, (Keeps.refl _ _).alloc _⟩
theorem rof_any (n : Int) (w : World) : Calls Tryz.prog 19 #[.int .i64 n] w fun e w' => e = .returned (.agg #[.int .i64 n, .int .i64 (-1)]) ∧ KF w w' := by
 go_enter Tryz.func19, Tryz.ntmps19
 go_wp2
 have hB := Blk.new w #[.int .i64 n, .int .i64 (-1)] 34
 refine bodyPost_ret (results_cell_row rfl _ _ w.heap.size 34 _ (0, 0) _ rfl hB Tryz.underlying34 rfl (by kernel_rfl)) rfl ?_
 exact ⟨rfl, (Keeps.refl _ _).alloc _⟩
def whoN (x : Cfg) : Int := if inR x.frames 1 1024 = false then 400 else if inR x.major 1 16384 = false then 401 else if inR (x.cs.length : Int) 1 4 = false then 402 else if inR (x.ps.length : Int) 1 8 = false then 403 else if decide ((x.hs.length : Int) ≤ 16) = false then 404 else 0
def NuP (n : Int) (w : World) (e : Ending) (w' : World) : Prop := e = .returned (.int .i64 n) ∧ KF w w'
def BoP (b : Bool) (w : World) (e : Ending) (w' : World) : Prop := e = .returned (.bool b) ∧ KF w w'
theorem dwhole_any (x : Cfg) (w : World) (N : Nat) (hi : x.In w N) (hN : N ≤ w.heap.size) : Calls Tryz.prog 15 #[x.v] w (NuP (whoN x) w) := by
 obtain ⟨W, hW⟩ : ∃ W, W = x.laid w := ⟨_, rfl⟩
 obtain ⟨C, hC⟩ : ∃ C, C = w.heap.size := ⟨_, rfl⟩
 have HO : Hid (One w x C N W) := by rw [hW, hC]; exact One.mk' hi hN
 have HC : Hid (∀ n a b, Calls Tryz.prog 26 #[.int .i64 n, .int .i64 a, .int .i64 b] W fun e w' => e = .returned (.bool (inR n a b)) ∧ w' = W) := fun n a b => rin_any n a b W
 obtain ⟨q0, q1, q2, q3, q4, q5, q6⟩ := HO.out.cells
 obtain ⟨NC, hNC⟩ : ∃ n, x.cs.length = n := ⟨_, rfl⟩
 obtain ⟨NP, hNP⟩ : ∃ n, x.ps.length = n := ⟨_, rfl⟩
 obtain ⟨NH, hNH⟩ : ∃ n, x.hs.length = n := ⟨_, rfl⟩
 rw [hNC] at q4
 rw [hNP] at q5
 rw [hNH] at q6
 have HN : Hid (x.cs.length = NC ∧ x.ps.length = NP ∧ x.hs.length = NH) := ⟨hNC, hNP, hNH⟩
 obtain ⟨V, hV⟩ : ∃ V, whoN x = V := ⟨_, rfl⟩
 rw [hV]
 have HV : Hid (whoN x = V) := hV
 clear hi hN q2 q3 hNC hNP hNH hV
 unfold Cfg.laid at hW
 go_enter Tryz.func15, Tryz.ntmps15
 go_upto_region 1 with fail
 rw [← hW, ← hC]
 clear hW hC
 go_wp2_with fail
 refine (HC.out x.frames 1 1024).mono ?_
 rintro e w1 ⟨rfl, rfl⟩
 cases c1 : inR x.frames 1 1024 with
 | false =>
  have HX : Hid (inR x.frames 1 1024 = false) := c1
  clear c1
  go_wp2
  go_ret
  exact ⟨by have h := HV.out; unfold whoN at h; rw [HX.out] at h; simp at h; rw [← h]; rfl, HO.out.keeps⟩
 | true =>
 have H1 : Hid (inR x.frames 1 1024 = true) := c1
 clear c1
 go_wp2_with fail
 refine (HC.out x.major 1 16384).mono ?_
 rintro e w1 ⟨rfl, rfl⟩
 cases c1 : inR x.major 1 16384 with
 | false =>
  have HX : Hid (inR x.major 1 16384 = false) := c1
  clear c1
  go_wp2
  go_ret
  exact ⟨by have h := HV.out; unfold whoN at h; rw [H1.out, HX.out] at h; simp at h; rw [← h]; rfl, HO.out.keeps⟩
 | true =>
 have H2 : Hid (inR x.major 1 16384 = true) := c1
 clear c1
 go_wp2_with fail
 refine (HC.out (NC : Int) 1 4).mono ?_
 rintro e w1 ⟨rfl, rfl⟩
 cases c1 : inR (NC : Int) 1 4 with
 | false =>
  have HX : Hid (inR (NC : Int) 1 4 = false) := c1
  clear c1
  go_wp2
  go_ret
  exact ⟨by have h := HV.out; unfold whoN at h; rw [H1.out, H2.out, HN.out.1, HX.out] at h; simp at h; rw [← h]; rfl, HO.out.keeps⟩
 | true =>
 have H3 : Hid (inR (NC : Int) 1 4 = true) := c1
 clear c1
 go_wp2_with fail
 refine (HC.out (NP : Int) 1 8).mono ?_
 rintro e w1 ⟨rfl, rfl⟩
 cases c1 : inR (NP : Int) 1 8 with
 | false =>
  have HX : Hid (inR (NP : Int) 1 8 = false) := c1
  clear c1
  go_wp2
  go_ret
  exact ⟨by have h := HV.out; unfold whoN at h; rw [H1.out, H2.out, HN.out.1, H3.out, HN.out.2.1, HX.out] at h; simp at h; rw [← h]; rfl, HO.out.keeps⟩
 | true =>
 have H4 : Hid (inR (NP : Int) 1 8 = true) := c1
 clear c1
 by_cases c5 : (16 : Int) < NH
 ·
  have HX : Hid (decide ((NH : Int) ≤ 16) = false) := by show _ = _; simp; omega
  go_wp2
  go_ret
  exact ⟨by have h := HV.out; unfold whoN at h; rw [H1.out, H2.out, HN.out.1, H3.out, HN.out.2.1, H4.out, HN.out.2.2, HX.out] at h; simp at h; rw [← h]; rfl, HO.out.keeps⟩
 ·
  have HX : Hid (decide ((NH : Int) ≤ 16) = true) := by show _ = _; simp; omega
  go_wp2
  go_ret
  exact ⟨by have h := HV.out; unfold whoN at h; rw [H1.out, H2.out, HN.out.1, H3.out, HN.out.2.1, H4.out, HN.out.2.2, HX.out] at h; simp at h; rw [← h]; rfl, HO.out.keeps⟩
theorem ba_nil {s : ByteArray} (h : s.size = 0) : s = { data := #[] } := by
 obtain ⟨d⟩ := s
 congr 1
 exact Array.eq_empty_of_size_eq_zero h
def NaP (B : Bool) (w : World) (e : Ending) (w' : World) : Prop := e = .returned (.bool B) ∧ w' = w
set_option maxHeartbeats 4000000 in
theorem dIsName_any (s : ByteArray) (hs : s.size ≤ 9223372036854775807) (w : World) : Calls Tryz.prog 54 #[.string s] w (NaP (nameB s) w) := by
 by_cases h0 : s.size = 0
 ·
  rw [ba_nil h0]
  have e : nameB { data := #[] } = false := by kernel_rfl
  rw [e]
  go_enter Tryz.func54, Tryz.ntmps54
  go_wp2
  go_ret
  exact ⟨rfl, rfl⟩
 have hne : s.toList.isEmpty = false := by
  rw [ByteArray.toList_eq]
  cases hh : s.data.toList with
  | nil => exact absurd (by rw [ByteArray.size, ← Array.length_toList, hh]; rfl) h0
  | cons a b => rfl
 obtain ⟨B, hB⟩ : ∃ B, nameB s = B := ⟨_, rfl⟩
 have HB : Hid (nameB s = B) := hB
 rw [hB]
 clear hB
 obtain ⟨L, hL⟩ : ∃ L, s.size = L := ⟨_, rfl⟩
 have HL : Hid (s.size = L) := hL
 rw [hL] at hs h0
 by_cases h2 : 16 < L
 ·
  have q2 : (16 : Int) < L := by omega
  go_enter Tryz.func54, Tryz.ntmps54
  go_wp2
  go_ret
  refine ⟨?_, rfl⟩
  rw [← HB.out]
  unfold nameB
  rw [HL.out, show decide (L ≤ 16) = false by simp; omega]
  simp
 have q2 : ¬ (16 : Int) < L := by omega
 have HB2 : Hid ((letB (bt s 0) && (List.range L).all fun i => chrB (bt s i)) = B) := by
  refine Hid.mkq ?_
  rw [← HB.out]
  unfold nameB
  rw [HL.out, show decide (1 ≤ L) = true by simp; omega, show decide (L ≤ 16) = true by simp; omega]
  simp
 have hb0 := bt_of (s := s) (i := 0) (by omega)
 have hl0 : 0 < s.size := by omega
 obtain ⟨c0, hc0⟩ : ∃ c, bt s 0 = c := ⟨_, rfl⟩
 have HC0 : Hid (bt s 0 = c0) := hc0
 rw [hc0] at hb0
 clear hc0
 by_cases d1 : c0 < 97
 ·
  have q3 : (c0 : Int) < 97 := by omega
  have HX : Hid (B = false) := by
   refine Hid.mkq ?_
   rw [← HB2.out, HC0.out]
   unfold letB
   rw [show decide (97 ≤ c0) = false by simp; omega]
   rfl
  go_enter Tryz.func54, Tryz.ntmps54
  go_wp2
  go_ret
  exact ⟨by rw [HX.out]; rfl, rfl⟩
 have q3 : ¬ (c0 : Int) < 97 := by omega
 by_cases d2 : 122 < c0
 ·
  have q4 : (122 : Int) < c0 := by omega
  have HX : Hid (B = false) := by
   refine Hid.mkq ?_
   rw [← HB2.out, HC0.out]
   unfold letB
   rw [show decide (c0 ≤ 122) = false by simp; omega]
   simp
  go_enter Tryz.func54, Tryz.ntmps54
  go_wp2
  go_ret
  exact ⟨by rw [HX.out]; rfl, rfl⟩
 have q4 : ¬ (122 : Int) < c0 := by omega
 have HB3 : Hid (((List.range L).all fun i => chrB (bt s i)) = B) := by
  refine Hid.mkq ?_
  rw [← HB2.out, HC0.out]
  unfold letB
  rw [show decide (97 ≤ c0) = true by simp; omega, show decide (c0 ≤ 122) = true by simp; omega]
  rfl
 go_enter Tryz.func54, Tryz.ntmps54
 go_wp2
 clear hb0 q2 q3 q4 hne
 go_loopw [3] (fun i wr => ∃ j : Nat, j ≤ L ∧ i = .int .i64 j ∧ (∀ i, i < j → chrB (bt s i) = true) ∧ w = wr) (fun i _ => L - (intOf i).toNat)
 case atStart => exact ⟨0, by omega, rfl, fun i hi => by omega, rfl⟩
 case round =>
  obtain ⟨k, hk, rfl, hno, rfl⟩ := hrel
  have HN : Hid (∀ i, i < k → chrB (bt s i) = true) := hno
  clear hno
  by_cases hlt : k < L
  ·
   have hlk : k < s.size := by omega
   have hbk := bt_of hlk
   obtain ⟨c, hc⟩ : ∃ c, bt s k = c := ⟨_, rfl⟩
   have HCc : Hid (bt s k = c) := hc
   rw [hc] at hbk
   clear hc
   have HOK : chrB c = true → ∀ i, i < k + 1 → chrB (bt s i) = true := fun h i hi => by
    by_cases e : i = k
    ·
     subst e; rw [HCc.out]; exact h
    ·
     exact HN.out i (by omega)
   have HBAD : chrB c = false → B = false := fun h => by
    rw [← HB3.out]
    rw [List.all_eq_false]
    exact ⟨k, List.mem_range.2 hlt, by rw [HCc.out, h]; simp⟩
   have HOK := Hid.mkq HOK
   have HBAD := Hid.mkq HBAD
   by_cases e1 : c < 97
   ·
    have q1 : (c : Int) < 97 := by omega
    by_cases e2 : c < 48
    ·
     have q2 : (c : Int) < 48 := by omega
     by_cases e3 : c = 45
     ·
      have q3 : (c : Int) = 45 := by omega
      have q4 : ((c : Int) == 45) = true := by simp; omega
      have HX : Hid (chrB c = true) := by refine Hid.mkq ?_; unfold chrB letB; simp; omega
      go_wp2
      go_roundw
      case rel => exact ⟨k + 1, by omega, by go_num, HOK.out HX.out, by trivial⟩
      case measure => simp [intOf]; omega
     ·
      have q3 : ¬ (c : Int) = 45 := by omega
      have q4 : ((c : Int) == 45) = false := by simp; omega
      have HX : Hid (chrB c = false) := by refine Hid.mkq ?_; unfold chrB letB; simp; omega
      go_wp2
      go_ret
      rw [HBAD.out HX.out]
      exact ⟨rfl, rfl⟩
    ·
     have q2 : ¬ (c : Int) < 48 := by omega
     by_cases e3 : 57 < c
     ·
      have q3 : (57 : Int) < c := by omega
      have q5 : ¬ (c : Int) = 45 := by omega
      have q4 : ((c : Int) == 45) = false := by simp; omega
      have HX : Hid (chrB c = false) := by refine Hid.mkq ?_; unfold chrB letB; simp; omega
      go_wp2
      go_ret
      rw [HBAD.out HX.out]
      exact ⟨rfl, rfl⟩
     ·
      have q3 : ¬ (57 : Int) < c := by omega
      have HX : Hid (chrB c = true) := by refine Hid.mkq ?_; unfold chrB letB; simp; omega
      go_wp2
      go_roundw
      case rel => exact ⟨k + 1, by omega, by go_num, HOK.out HX.out, by trivial⟩
      case measure => simp [intOf]; omega
   ·
    have q1 : ¬ (c : Int) < 97 := by omega
    by_cases e2 : 122 < c
    ·
     have q2 : (122 : Int) < c := by omega
     have q3 : ¬ (c : Int) < 48 := by omega
     have q4 : (57 : Int) < c := by omega
     have q5 : ¬ (c : Int) = 45 := by omega
     have q6 : ((c : Int) == 45) = false := by simp; omega
     have HX : Hid (chrB c = false) := by refine Hid.mkq ?_; unfold chrB letB; simp; omega
     go_wp2
     go_ret
     rw [HBAD.out HX.out]
     exact ⟨rfl, rfl⟩
    ·
     have q2 : ¬ (122 : Int) < c := by omega
     have HX : Hid (chrB c = true) := by refine Hid.mkq ?_; unfold chrB letB; simp; omega
     go_wp2
     go_roundw
     case rel => exact ⟨k + 1, by omega, by go_num, HOK.out HX.out, by trivial⟩
     case measure => simp [intOf]; omega
  ·
   have hkL : k = L := by omega
   go_wp2
   go_ret
   refine ⟨?_, rfl⟩
   have : B = true := by
    rw [← HB3.out, List.all_eq_true]
    intro i hi
    exact HN.out i (by rw [List.mem_range] at hi; omega)
   rw [this]
   rfl
def nmB (x : Cfg) (p : Nat) (P : Par) : Bool := nameB P.name && !((x.ps.take p).any fun Q => Q.name.toList == P.name.toList)
set_option maxHeartbeats 1000000 in
theorem dnamed_any (x : Cfg) (p : Nat) (P : Par) (hP : x.ps[p]? = some P) (w : World) (N : Nat) (hi : x.In w N) (hN : N ≤ w.heap.size) : Calls Tryz.prog 27 #[x.v, .int .i64 (p : Int)] w (BoP (nmB x p P) w) := by
 obtain ⟨W, hW⟩ : ∃ W, W = x.laid w := ⟨_, rfl⟩
 obtain ⟨C, hC⟩ : ∃ C, C = w.heap.size := ⟨_, rfl⟩
 have HO : Hid (One w x C N W) := by rw [hW, hC]; exact One.mk' hi hN
 obtain ⟨B, hB⟩ : ∃ B, nmB x p P = B := ⟨_, rfl⟩
 have HB : Hid (nmB x p P = B ∧ x.ps[p]? = some P) := ⟨hB, hP⟩
 rw [hB]
 obtain ⟨L, hL⟩ : ∃ L, x.ps.length = L := ⟨_, rfl⟩
 have hpl : p < L := by rw [← hL]; exact (List.getElem?_eq_some_iff.1 hP).1
 have HL : Hid (x.ps.length = L) := hL
 obtain ⟨pa, hpa⟩ : ∃ pa, pa = x.pa := ⟨_, rfl⟩
 have HPA : Hid (pa = x.pa) := hpa
 have hpc1 : (L : Int) ≤ x.pc := by have := hi.plen; omega
 have hpc2 : (x.pc : Int) ≤ 9223372036854775807 := by have := hi.plen; unfold maxLen at this; omega
 clear hi hN hB hL hpa hP
 unfold Cfg.laid at hW
 go_enter Tryz.func27, Tryz.ntmps27
 go_upto_region 1 with fail
 rw [← hW, ← hC]
 clear hW hC
 go_wp2
 go_loopw [5] (fun i wr => ∃ j : Nat, j ≤ p ∧ i = .int .i64 j ∧ ((x.ps.take j).any fun Q => Q.name.toList == P.name.toList) = false ∧ KF W wr) (fun i _ => p - (intOf i).toNat)
 case atStart => exact ⟨0, by omega, rfl, rfl, Keeps.refl _ _⟩
 case round =>
  obtain ⟨j, hj, rfl, hno, hK⟩ := hrel
  have hO := HO.out.kept hK
  have q5 := hO.cells.2.2.2.2.2.1
  rw [HL.out, ← HPA.out] at q5
  have HK : Hid (KF W wr ∧ ((x.ps.take j).any fun Q => Q.name.toList == P.name.toList) = false) := ⟨hK, hno⟩
  obtain ⟨g, o, ha, hc⟩ := hO.cin.par HB.out.2
  have p0 := hc 0 _ rfl
  rw [Nat.add_zero] at p0
  rw [← HPA.out] at ha
  have hpp : (p : Int) < L := by omega
  by_cases hlt : j < p
  ·
   obtain ⟨Q, hQ⟩ : ∃ Q, x.ps[j]? = some Q := ⟨_, List.getElem?_eq_getElem (by have := HL.out; omega)⟩
   obtain ⟨g', o', ha', hc'⟩ := hO.cin.par hQ
   rw [← HPA.out, ha] at ha'
   cases ha'
   have r0 := hc' 0 _ rfl
   rw [Nat.add_zero] at r0
   rw [ha] at q5
   have hjp : (j : Int) < p := by omega
   have hjl : (j : Int) < L := by omega
   obtain ⟨b, hb⟩ : ∃ b, (Q.name.toList == P.name.toList) = b := ⟨_, rfl⟩
   have HX : Hid ((Q.name.toList == P.name.toList) = b ∧ x.ps[j]? = some Q) := ⟨hb, hQ⟩
   clear hQ hc' hc hO hK hno
   cases b with
   | true =>
    have HF : Hid (B = false) := by
     show B = false
     rw [← HB.out.1]
     unfold nmB
     have : ((x.ps.take p).any fun Q => Q.name.toList == P.name.toList) = true := List.any_eq_true.2 ⟨Q, List.mem_of_getElem? (i := j) (by rw [List.getElem?_take, if_pos hlt]; exact HX.out.2), HX.out.1⟩
     rw [this]
     simp
    go_upto_region 4 with fail
    go_still Tryz.mixed
    go_wp2
    go_ret
    exact ⟨by rw [HF.out]; rfl, (HO.out.keeps.trans HK.out.1 fun _ _ h => h).drew⟩
   | false =>
    go_upto_region 4 with fail
    go_still Tryz.mixed
    go_wp2
    go_roundw
    case rel =>
     refine ⟨j + 1, by omega, by go_num, ?_, HK.out.1.drew⟩
     rw [List.take_add_one, HX.out.2, List.any_append, HK.out.2]
     simpa using HX.out.1
    case measure => simp [intOf]; omega
  ·
   obtain rfl : j = p := by omega
   have hsz : P.name.size ≤ 9223372036854775807 := (hO.cin.pin P (List.mem_of_getElem? HB.out.2)).name
   have HC : Hid (Calls Tryz.prog 54 #[.string P.name] wr (NaP (nameB P.name) wr)) := dIsName_any P.name hsz wr
   have HF : Hid (B = nameB P.name) := by
    show B = _
    rw [← HB.out.1]
    unfold nmB
    rw [hno]
    simp
   rw [ha] at q5
   clear hc hO hK hno hsz
   go_wp2_with fail
   refine HC.out.mono ?_
   rintro e w2 ⟨rfl, rfl⟩
   go_wp2
   go_ret
   exact ⟨by rw [HF.out]; rfl, HO.out.keeps.trans HK.out.1 fun _ _ h => h⟩
set_option maxHeartbeats 1000000 in
theorem dright_any (x : Cfg) (r : Rgn) (hr : r.Fine) (w : World) (N : Nat) (hi : x.In w N) (hN : N ≤ w.heap.size) (hf : 1 ≤ x.frames ∧ x.frames ≤ 1024) : Calls Tryz.prog 55 #[x.v, r.v] w (BoP (r.okB x.frames) w) := by
 obtain ⟨pg, ps, fr, rt⟩ := r
 obtain ⟨f1, f2, f3, f4⟩ := hr
 unfold I64 at f1 f2 f3 f4
 dsimp only at f1 f2 f3 f4
 obtain ⟨W, hW⟩ : ∃ W, W = (x.laid w).alloc (.cells #[.int .i64 pg, .int .i64 ps, .int .i64 fr, .int .i64 rt] 54) := ⟨_, rfl⟩
 obtain ⟨C, hC⟩ : ∃ C, C = w.heap.size := ⟨_, rfl⟩
 have HO : Hid (One w x C N W ∧ Blk W (C + 1) [.int .i64 pg, .int .i64 ps, .int .i64 fr, .int .i64 rt] 54) := by
  rw [hW, hC]
  refine ⟨(One.mk' hi hN).kept ((Keeps.refl _ _).alloc _), ?_⟩
  have := Blk.new (x.laid w) #[.int .i64 pg, .int .i64 ps, .int .i64 fr, .int .i64 rt] 54
  simpa [Cfg.laid] using this
 have q0 := HO.out.1.cells.1
 have g0 := HO.out.2.cell (i := 0) rfl
 have g1 := HO.out.2.cell (i := 1) rfl
 have g2 := HO.out.2.cell (i := 2) rfl
 have g3 := HO.out.2.cell (i := 3) rfl
 obtain ⟨FR, hFR⟩ : ∃ FR, x.frames = FR := ⟨_, rfl⟩
 rw [hFR] at q0 hf
 obtain ⟨B, hB⟩ : ∃ B, Rgn.okB ⟨pg, ps, fr, rt⟩ x.frames = B := ⟨_, rfl⟩
 have HB : Hid (Rgn.okB ⟨pg, ps, fr, rt⟩ FR = B) := by rw [← hFR]; exact hB
 rw [hB]
 have HC : Hid (∀ n a b, Calls Tryz.prog 26 #[.int .i64 n, .int .i64 a, .int .i64 b] W fun e w' => e = .returned (.bool (inR n a b)) ∧ w' = W) := fun n a b => rin_any n a b W
 clear hi hN hB hFR
 unfold Cfg.laid at hW
 go_enter Tryz.func55, Tryz.ntmps55
 go_upto_region 1 with fail
 rw [← hW, ← hC]
 clear hW hC
 go_wp2_with fail
 refine (HC.out pg 0 255).mono ?_
 rintro e w1 ⟨rfl, rfl⟩
 cases c1 : inR pg 0 255 with
 | false =>
  have HX : Hid (B = false) := by show B = false; rw [← HB.out]; unfold Rgn.okB; dsimp only; rw [c1]; rfl
  clear c1
  go_wp2
  go_ret
  exact ⟨by rw [HX.out]; rfl, HO.out.1.keeps⟩
 | true =>
 have H1 : Hid (inR pg 0 255 = true) := c1
 rw [inR_iff] at c1
 have q1 : IntKind.i64.wrap (256 - pg) = 256 - pg := by rw [IntKind.wrap_i64]; omega
 clear c1
 go_wp2_with fail
 refine (HC.out ps 1 (256 - pg)).mono ?_
 rintro e w1 ⟨rfl, rfl⟩
 cases c2 : inR ps 1 (256 - pg) with
 | false =>
  have HX : Hid (B = false) := by show B = false; rw [← HB.out]; unfold Rgn.okB; dsimp only; rw [c2]; simp
  clear c2
  go_wp2
  go_ret
  exact ⟨by rw [HX.out]; rfl, HO.out.1.keeps⟩
 | true =>
 have H2 : Hid (inR ps 1 (256 - pg) = true) := c2
 clear c2
 by_cases c3 : 0 ≤ fr
 ·
  have q2 : IntKind.i64.wrap (FR - fr) = FR - fr := by rw [IntKind.wrap_i64]; omega
  by_cases c4 : ps ≤ FR - fr
  ·
   have HX : Hid (B = inR rt 1 7) := by
    show B = _
    rw [← HB.out]
    unfold Rgn.okB
    dsimp only
    rw [H1.out, H2.out]
    simp [c3, c4]
   go_wp2_with fail
   refine (HC.out rt 1 7).mono ?_
   rintro e w1 ⟨rfl, rfl⟩
   go_wp2
   go_ret
   exact ⟨by rw [HX.out]; rfl, HO.out.1.keeps⟩
  ·
   have HX : Hid (B = false) := by show B = false; rw [← HB.out]; unfold Rgn.okB; dsimp only; simp [c4]
   go_wp2
   go_ret
   exact ⟨by rw [HX.out]; rfl, HO.out.1.keeps⟩
 ·
  have HX : Hid (B = false) := by show B = false; rw [← HB.out]; unfold Rgn.okB; dsimp only; simp [c3]
  go_wp2
  go_ret
  exact ⟨by rw [HX.out]; rfl, HO.out.1.keeps⟩
theorem and4 {rt : Int} (h : 1 ≤ rt ∧ rt ≤ 7) : (bits BinOp.and IntKind.i64 rt 4 = 4 ∧ 4 ≤ rt) ∨ (bits BinOp.and IntKind.i64 rt 4 = 0 ∧ rt < 4) := by
 have : rt = 1 ∨ rt = 2 ∨ rt = 3 ∨ rt = 4 ∨ rt = 5 ∨ rt = 6 ∨ rt = 7 := by omega
 rcases this with rfl | rfl | rfl | rfl | rfl | rfl | rfl
 ·
  exact .inr ⟨by kernel_rfl, by omega⟩
 ·
  exact .inr ⟨by kernel_rfl, by omega⟩
 ·
  exact .inr ⟨by kernel_rfl, by omega⟩
 ·
  exact .inl ⟨by kernel_rfl, by omega⟩
 ·
  exact .inl ⟨by kernel_rfl, by omega⟩
 ·
  exact .inl ⟨by kernel_rfl, by omega⟩
 ·
  exact .inl ⟨by kernel_rfl, by omega⟩
theorem okB_bd {r : Rgn} {fr : Int} (h : r.okB fr = true) (hf : fr ≤ 1024) : (0 ≤ r.page ∧ r.page ≤ 255 ∧ 1 ≤ r.pages ∧ r.pages ≤ 256) ∧ (0 ≤ r.frame ∧ r.frame ≤ 1024) ∧ (1 ≤ r.rights ∧ r.rights ≤ 7) := by
 unfold Rgn.okB at h
 simp only [Bool.and_eq_true, inR_iff, decide_eq_true_eq] at h
 omega
structure OneP2 (w : World) (P : Par) (B N : Nat) (w' : World) : Prop where
 blk : Blk w' B P.vs 41
 keeps : KF w w'
 pin : P.In w' N
theorem OneP2.kept {w : World} {P : Par} {B N : Nat} {w' w'' : World} (h : OneP2 w P B N w') (hN : N ≤ w'.heap.size) (hK : KF w' w'') : OneP2 w P B N w'' :=
 ⟨h.blk.kept hK fun h => h, h.keeps.trans hK fun _ _ h => h, h.pin.below (hK.below hN fun _ h => h.elim)⟩
set_option maxHeartbeats 2000000 in
theorem dentry_any (P : Par) (w : World) (N : Nat) (hi : P.In w N) (hN : N ≤ w.heap.size) (fr : Int) (hf : fr ≤ 1024) (hr : ∀ r ∈ P.rs, r.okB fr = true) : Calls Tryz.prog 29 #[P.v] w (BoP P.begB w) := by
 obtain ⟨B, hB⟩ : ∃ B, P.begB = B := ⟨_, rfl⟩
 have HB : Hid (P.begB = B) := hB
 rw [hB]
 obtain ⟨W, hW⟩ : ∃ W, W = w.alloc (.cells P.vs.toArray 41) := ⟨_, rfl⟩
 obtain ⟨Q, hQ⟩ : ∃ Q, Q = w.heap.size := ⟨_, rfl⟩
 have hK : KF w W := by rw [hW]; exact (Keeps.refl _ _).alloc _
 have HO : Hid (OneP2 w P Q N W ∧ N ≤ W.heap.size ∧ (∀ r ∈ P.rs, r.okB fr = true) ∧ fr ≤ 1024) := ⟨⟨by rw [hW, hQ]; exact Blk.new _ _ _, hK, hi.below (hK.below hN fun _ h => h.elim)⟩, Nat.le_trans hN hK.size, hr, hf⟩
 have HC : Hid (∀ n a b w, Calls Tryz.prog 26 #[.int .i64 n, .int .i64 a, .int .i64 b] w fun e w' => e = .returned (.bool (inR n a b)) ∧ w' = w) := rin_any
 obtain ⟨name, en, ac, re, inp, ou, ra, rc, rs, pa, pc, ps⟩ := P
 have c1 := HO.out.1.blk.cell (i := 1) rfl
 have c6 := HO.out.1.blk.cell (i := 6) rfl
 dsimp only at c1 c6
 obtain ⟨L, hL⟩ : ∃ L, rs.length = L := ⟨_, rfl⟩
 have HL : Hid (rs.length = L) := hL
 rw [hL] at c6
 have hrc : (L : Int) ≤ rc ∧ (rc : Int) ≤ 9223372036854775807 := by have := hi.rlen; dsimp only at this; unfold maxLen at this; omega
 simp only [Par.vs] at hW
 simp only [Par.v]
 clear hi hN hK hr hf hB hL
 go_enter Tryz.func29, Tryz.ntmps29
 go_upto_region 1 with fail
 rw [← hW, ← hQ]
 clear hW hQ
 go_wp2_with fail
 refine (HC.out en 0 4095 W).mono ?_
 rintro e w1 ⟨rfl, rfl⟩
 cases hb : inR en 0 4095 with
 | false =>
  have HX : Hid (B = false) := by show B = false; rw [← HB.out]; unfold Par.begB; dsimp only; rw [hb]; rfl
  clear hb
  go_wp2
  go_ret
  exact ⟨by rw [HX.out]; rfl, HO.out.1.keeps⟩
 | true =>
 have HE : Hid (inR en 0 4095 = true) := hb
 have hen : 0 ≤ en ∧ en ≤ 4095 := inR_iff.1 hb
 obtain ⟨z, hz⟩ : ∃ z, en / 16 = z := ⟨_, rfl⟩
 have q1 : en.tdiv 16 = z := by rw [Int.tdiv_eq_ediv_of_nonneg hen.1]; exact hz
 have hzb : 0 ≤ z ∧ z ≤ 255 := by omega
 have q2 : IntKind.i64.wrap z = z := by rw [IntKind.wrap_i64]; omega
 have HB2 : Hid (rs.any (Rgn.runs ⟨z, 1⟩) = B) := by
  show _ = B
  rw [← HB.out]
  unfold Par.begB
  dsimp only
  rw [hb, hz]
  rfl
 clear hb hz
 go_wp2
 clear c1 c6
 go_loopw [3] (fun i wr => ∃ j : Nat, j ≤ L ∧ i = .int .i64 j ∧ (rs.take j).any (Rgn.runs ⟨z, 1⟩) = false ∧ OneP2 w ⟨name, en, ac, re, inp, ou, ra, rc, rs, pa, pc, ps⟩ Q N wr ∧ N ≤ wr.heap.size) (fun i _ => L - (intOf i).toNat)
 case atStart => exact ⟨0, by omega, rfl, rfl, HO.out.1, HO.out.2.1⟩
 case round =>
  obtain ⟨j, hj, rfl, hno, hI, hNr⟩ := hrel
  have c1 := hI.blk.cell (i := 1) rfl
  have c6 := hI.blk.cell (i := 6) rfl
  dsimp only at c1 c6
  rw [HL.out] at c6
  by_cases hlt : j < L
  ·
   obtain ⟨r, hr⟩ : ∃ r, rs[j]? = some r := ⟨_, List.getElem?_eq_getElem (by have := HL.out; omega)⟩
   obtain ⟨g1, o1, hra, hg1⟩ := hI.pin.rseg.at hr
   dsimp only at hra
   subst hra
   obtain ⟨bd1, bd2, bd3⟩ := okB_bd (HO.out.2.2.1 r (List.mem_of_getElem? hr)) HO.out.2.2.2
   obtain ⟨pg, pn, pf, rt⟩ := r
   have y0 := hg1 0 _ rfl
   rw [Nat.add_zero] at y0
   have y1 := hg1 1 _ rfl
   have y2 := hg1 2 _ rfl
   have y3 := hg1 3 _ rfl
   dsimp only at y0 y1 y2 y3 bd1 bd2 bd3
   obtain ⟨W1, hW1⟩ : ∃ W1, W1 = wr.alloc (.cells #[.int .i64 pg, .int .i64 pn, .int .i64 pf, .int .i64 rt] 54) := ⟨_, rfl⟩
   obtain ⟨A, hA⟩ : ∃ A, A = wr.heap.size := ⟨_, rfl⟩
   have hK1 : KF wr W1 := by rw [hW1]; exact (Keeps.refl _ _).alloc _
   have hb1 : Blk W1 A [.int .i64 pg, .int .i64 pn, .int .i64 pf, .int .i64 rt] 54 := by rw [hW1, hA]; exact Blk.new _ _ _
   have hI1 := hI.kept hNr hK1
   have HK : Hid (OneP2 w ⟨name, en, ac, re, inp, ou, some ⟨g1, o1, none⟩, rc, rs, pa, pc, ps⟩ Q N W1 ∧ N ≤ W1.heap.size ∧ (rs.take j).any (Rgn.runs ⟨z, 1⟩) = false ∧ rs[j]? = some ⟨pg, pn, pf, rt⟩) := ⟨hI1, Nat.le_trans hNr hK1.size, hno, hr⟩
   have e1 := hI1.blk.cell (i := 1) rfl
   have e6 := hI1.blk.cell (i := 6) rfl
   dsimp only at e1 e6
   rw [HL.out] at e6
   have r0 := hb1.cell (i := 0) rfl
   have r1 := hb1.cell (i := 1) rfl
   have r3 := hb1.cell (i := 3) rfl
   have q3 : IntKind.i64.wrap (pg + pn) = pg + pn := by rw [IntKind.wrap_i64]; omega
   have q4 : IntKind.i64.wrap (pg + pn - 1) = pg + pn - 1 := by rw [IntKind.wrap_i64]; omega
   clear hI hno hr hg1 hI1 hK1 hb1 hNr
   go_upto_region 7 with fail
   rw [← hW1, ← hA]
   clear hW1 hA y0 y1 y2 y3 c1 c6
   go_wp2_with fail
   refine (HC.out z pg (pg + pn - 1) W1).mono ?_
   rintro e w1 ⟨rfl, rfl⟩
   have hnext : ∀ b, Rgn.runs ⟨z, 1⟩ ⟨pg, pn, pf, rt⟩ = b → b = false → (rs.take (j + 1)).any (Rgn.runs ⟨z, 1⟩) = false := fun b hb hf => by
    rw [List.take_add_one, HK.out.2.2.2, List.any_append, HK.out.2.2.1]
    simp [hb, hf]
   have HNX := Hid.mkq hnext
   clear hnext
   cases ci : inR z pg (pg + pn - 1) with
   | false =>
    have HX : Hid (Rgn.runs ⟨z, 1⟩ ⟨pg, pn, pf, rt⟩ = false) := by
     show _ = _
     unfold Rgn.runs Rgn.pg Rn.meets
     dsimp only
     have : ¬ (pg ≤ z ∧ z ≤ pg + pn - 1) := fun h => by rw [inR_iff.2 h] at ci; cases ci
     simp
     omega
    clear ci
    go_wp2
    go_roundw
    case rel => exact ⟨j + 1, by omega, by go_num, HNX.out _ HX.out rfl, HK.out.1, HK.out.2.1⟩
    case measure => simp [intOf]; omega
   | true =>
    have hci := inR_iff.1 ci
    clear ci
    rcases and4 bd3 with ⟨ha, h4⟩ | ⟨ha, h4⟩
    ·
     have HX : Hid (B = true) := by
      show B = true
      rw [← HB2.out]
      refine List.any_eq_true.2 ⟨_, List.mem_of_getElem? HK.out.2.2.2, ?_⟩
      unfold Rgn.runs Rgn.pg Rn.meets
      dsimp only
      simp
      omega
     go_wp2
     go_ret
     exact ⟨by rw [HX.out]; rfl, HK.out.1.keeps⟩
    ·
     have HX : Hid (Rgn.runs ⟨z, 1⟩ ⟨pg, pn, pf, rt⟩ = false) := by
      show _ = _
      unfold Rgn.runs Rgn.pg Rn.meets
      dsimp only
      simp
      omega
     go_wp2
     go_roundw
     case rel => exact ⟨j + 1, by omega, by go_num, HNX.out _ HX.out rfl, HK.out.1, HK.out.2.1⟩
     case measure => simp [intOf]; omega
  ·
   obtain rfl : j = L := by omega
   have HX : Hid (B = false ∧ KF w wr) := by
    refine ⟨?_, hI.keeps⟩
    rw [← HB2.out]
    rw [List.take_of_length_le (by have := HL.out; omega)] at hno
    exact hno
   clear hI hno
   go_wp2
   go_ret
   exact ⟨by rw [HX.out.1]; rfl, HX.out.2⟩
end Go.Proofs.YtlnmlbkeemahcaaGreat
