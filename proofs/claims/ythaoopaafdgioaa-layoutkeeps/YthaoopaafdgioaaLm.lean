import Derived.Test.YthaoopaafdgioaaP
import Derived.Test.YthaoopaafdgioaaMv
namespace Go.Proofs.Ythaoopaafdgioaa
open Go.RowKit
set_option linter.unusedVariables false
set_option linter.unusedSimpArgs false
set_option maxRecDepth 6000

/-- The same configuration with the kernel one frame further on, and other numbers that say nothing. -/
def Cfg.next (x : Cfg) (k fr rm : Int) : Cfg := ⟨fr, rm, k, rm, none, 0, [], x.pa, x.pc, x.ps, x.ha, x.hc, x.hs⟩
theorem next_ns {x : Cfg} {k fr rm : Int} (hk : I64 k) (hf : I64 fr) (hr : I64 rm) {n : Int} (hn : n ∈ (x.next k fr rm).ns) : I64 n := by
  simp only [Cfg.ns, Cfg.next, List.mem_cons, List.not_mem_nil, or_false] at hn
  rcases hn with rfl | rfl | rfl | rfl <;> assumption
theorem Cfg.next_in {x : Cfg} {w : World} {N : Nat} (h : x.In w N) {k fr rm : Int} (hk : I64 k) (hf : I64 fr) (hr : I64 rm) : (x.next k fr rm).In w N :=
  ⟨.inl rfl, fun h => (h rfl).elim, ⟨by simp [Cfg.next], by simp [Cfg.next, maxLen]⟩, (fun y hy => by cases hy), h.pseg, h.plo, h.plen, h.pin, h.hseg, h.hlo, h.hlen, h.hfine, fun n hn => next_ns hk hf hr hn⟩
theorem chAt_next (x : Cfg) (k fr rm b : Int) (n : Nat) : chAt (x.next k fr rm) (b + 16) n = chAt x b n + 16 := by
  induction n with
  | zero => rfl
  | succ n ih => show chAt _ _ n + chSz (x.next k fr rm) n = chAt x b n + chSz x n + 16; rw [ih, show chSz (x.next k fr rm) n = chSz x n from rfl]; omega
theorem rtAt_next (x : Cfg) (k fr rm b : Int) (n : Nat) : rtAt (x.next k fr rm) (b + 16) n = rtAt x b n + 16 := by
  induction n with
  | zero => rfl
  | succ n ih => show rtAt _ _ n + rtSz (x.next k fr rm) n = rtAt x b n + rtSz x n + 16; rw [ih, show rtSz (x.next k fr rm) n = rtSz x n from rfl]; omega
theorem fillN_next (a : Int) : fillN (a + 16) = fillN a := by unfold fillN; have : (a + 16) % 16 = a % 16 := by omega
                                                              rw [this]
theorem chB_next (x : Cfg) (k fr rm a : Int) : chB (x.next k fr rm) (a + 16) = chB x a + 16 := by unfold chB; simp [Cfg.next]; omega
theorem chE_next (x : Cfg) (k fr rm a : Int) : chE (x.next k fr rm) (a + 16) = chE x a + 16 := by unfold chE; rw [chB_next]; exact chAt_next x k fr rm _ _
theorem rtB_next (x : Cfg) (k fr rm a : Int) : rtB (x.next k fr rm) (a + 16) = rtB x a + 16 := by unfold rtB; rw [chE_next, fillN_next]; omega
theorem mayB_next {x : Cfg} {k fr rm : Int} (hk : 0 ≤ k ∧ k < 1024) (hx : 0 ≤ x.kernel ∧ x.kernel < 1024) : (x.next k fr rm).mayB = x.mayB := by
  rw [Bool.eq_iff_iff, Cfg.mayB_iff, Cfg.mayB_iff]
  constructor
  · rintro ⟨_, _, h⟩; exact ⟨hx.1, hx.2, h⟩
  · rintro ⟨_, _, h⟩; exact ⟨hk.1, hk.2, h⟩
theorem mayB_out {x : Cfg} (h : ¬ (0 ≤ x.kernel ∧ x.kernel < 1024)) : x.mayB = false := (Cfg.mayB_no fun h2 => h ⟨h2.1, h2.2.1⟩).out
theorem dst_bd {x : Cfg} (hm : x.mayB = true) {a b : Int} (ha : 0 ≤ a ∧ a ≤ 20000) (hb : b = chB x a) {i : Nat} {h : Chn} (hh : x.hs[i]? = some h) : ∀ d ∈ placed (dstsOf x i) (chAt x b i + 2 + h.stg) h.prt (dstsOf x i).length, 0 ≤ d.pos ∧ d.pos ≤ 100000 := by
  intro d hd
  obtain ⟨hs, _, h1, h4⟩ := Cfg.mayB_chn hm hh
  have hpb := Chn.plc_bd hs
  have h2 : 3 ≤ h.stg ∧ h.stg ≤ 137 := by unfold Chn.stg; omega
  have h3 : 4 ≤ h.prt ∧ h.prt ≤ 139 := by unfold Chn.prt; split <;> omega
  have hc := chAt_bd hm b i
  have hil : i < x.hs.length := (List.getElem?_eq_some_iff.1 hh).1
  have h16 := (Cfg.mayB_iff.1 hm).2.2.2.1
  have h8 := (Cfg.mayB_iff.1 hm).2.2.1
  have hbb : 0 ≤ b ∧ b ≤ 21000 := by rw [hb]; unfold chB; omega
  have hl : (dstsOf x i).length ≤ 4 := h4
  obtain ⟨j, hj⟩ := List.mem_iff_getElem?.1 hd
  unfold placed at hj
  rw [List.getElem?_mapIdx] at hj
  cases hdj : (dstsOf x i)[j]? with
  | none => rw [hdj] at hj; cases hj
  | some y =>
    rw [hdj] at hj
    have hjl : j < (dstsOf x i).length := (List.getElem?_eq_some_iff.1 hdj).1
    simp only [Option.map_some, hjl, if_true, Option.some.injEq] at hj
    subst hj
    dsimp only
    have h5 : j = 0 ∨ j = 1 ∨ j = 2 ∨ j = 3 := by omega
    rcases h5 with h5 | h5 | h5 | h5 <;> subst h5 <;> omega
theorem placed_next (D : List Dst) (b k : Int) : placed D (b + 16) k D.length = (placed D b k D.length).map (fun d => ⟨d.p, d.q, d.pos + 16⟩) := by
  apply List.ext_getElem?
  intro i
  simp only [placed, List.getElem?_map, List.getElem?_mapIdx]
  cases h : D[i]? with
  | none => rfl
  | some y =>
    have hi : i < D.length := (List.getElem?_eq_some_iff.1 h).1
    simp only [Option.map_some, hi, if_true, Option.some.injEq, Dst.mk.injEq, true_and]
    omega
theorem tabL_next (a : Int) (n : Nat) : tabL (a + 16) n = (tabL a n).map (· + 1) := by
  unfold tabL
  rw [List.map_map]
  apply List.map_congr_left
  intro k _
  show (a + 16) / 16 + 1 + (k : Int) = a / 16 + 1 + (k : Int) + 1
  omega
theorem mvd_of {x : Cfg} (hm : x.mayB = true) {k fr rm a : Int} (ha : 0 ≤ a ∧ a ≤ 20000) {F F' : Nat → PP} {G G' : Nat → CP} {T T' : Nat → List Int} {D D' : Nat → List Dst}
    (hF : FOK x (a + 2) (rtB x a) x.ps.length F T) (hG : GOK x (chB x a) x.hs.length G D)
    (hF' : FOK (x.next k fr rm) (a + 16 + 2) (rtB (x.next k fr rm) (a + 16)) x.ps.length F' T') (hG' : GOK (x.next k fr rm) (chB (x.next k fr rm) (a + 16)) x.hs.length G' D') :
    Mvd x.ps.length x.hs.length F F' G G' T T' D D' := by
  have h16 := (Cfg.mayB_iff.1 hm).2.2.2.1
  have h8 := (Cfg.mayB_iff.1 hm).2.2.1
  have hbb : 0 ≤ chB x a ∧ chB x a ≤ 21000 := by unfold chB; omega
  have hce := chAt_bd hm (chB x a) x.hs.length
  have hrb : 0 ≤ rtB x a ∧ rtB x a ≤ 50000 := by
    unfold rtB fillN chE
    split <;> omega
  constructor
  · intro i hi
    obtain ⟨f1, f2, f3, f4⟩ := hF i hi
    obtain ⟨P, hP, f5, f6⟩ := f4 hi
    obtain ⟨g1, g2, g3, g4⟩ := hF' i hi
    obtain ⟨P', hP', g5, g6⟩ := g4 hi
    obtain rfl : P = P' := by have : x.ps[i]? = some P' := hP'; rw [hP] at this; exact Option.some.inj this
    have hr := rtAt_bd x (rtB x a) i
    rw [rtB_next, rtAt_next] at g5 g6
    refine ⟨⟨by omega, by omega, by omega, by omega, by omega, by omega, by omega, by omega⟩, by omega, by omega, by omega, by omega, by rw [g6, f6]; exact tabL_next _ _, fun y hy => ?_⟩
    rw [f6] at hy
    unfold tabL at hy
    obtain ⟨m, hm2, rfl⟩ := List.mem_map.1 hy
    have hm3 := List.mem_range.1 hm2
    have := cntT_le P.rs 16
    omega
  · intro i hi
    obtain ⟨s, h, g1, g2, g3, g4, g5, g6, g7⟩ := hG i hi
    obtain ⟨s', h', k1, k2, k3, k4, k5, k6, k7⟩ := hG' i hi
    obtain rfl : h = h' := by have : x.hs[i]? = some h' := k2; rw [g2] at this; exact Option.some.inj this
    obtain rfl : s = s' := by have : endsL true i x.ps x.ps.length = [s'] := k1; rw [g1] at this; exact (List.cons.inj this).1
    have hc := chAt_bd hm (chB x a) i
    rw [chB_next, chAt_next] at k3 k4 k7
    refine ⟨⟨by omega, by omega, by omega, by omega⟩, by omega, by omega, by rw [k5, g5], by rw [k6, g6], ?_, ?_⟩
    · rw [k7, g7, show chAt x (chB x a) i + 16 + 2 + h.stg = chAt x (chB x a) i + 2 + h.stg + 16 by omega]
      exact placed_next _ _ _
    · rw [g7]; exact dst_bd hm ha rfl g2

/-- What Of told, letter by letter. -/
def OfR (x : Cfg) (lo : Nat) (A En er : Int) (a1 : Option Addr) (n1 c1 : Nat) (a2 : Option Addr) (n2 c2 : Nat) (w' : World) : Prop :=
  (x.mayB = false ∧ er = 150 ∧ n1 = 0 ∧ En = 0) ∨
  (x.mayB = true ∧ er = 0 ∧ A = 16 * x.kernel ∧ En = rtAt x (rtB x (16 * x.kernel)) x.ps.length / 16 ∧ ∃ b1 b2 F G T D, a1 = some ⟨b1, 0, none⟩ ∧ n1 = x.ps.length ∧ c1 = x.ps.length ∧ a2 = some ⟨b2, 0, none⟩ ∧ n2 = x.hs.length ∧ c2 = x.hs.length ∧
    LD x lo b1 b2 F G T D w' ∧ FOK x (16 * x.kernel + 2) (rtB x (16 * x.kernel)) x.ps.length F T ∧ GOK x (chB x (16 * x.kernel)) x.hs.length G D)
theorem OfP.letters {x : Cfg} {w : World} {e : Ending} {w' : World} (h : OfP x w e w') : ∃ A En er a1 n1 c1 a2 n2 c2, e = .returned (.tuple #[.agg #[.int .i64 A, .slice a1 n1 c1, .slice a2 n2 c2, .int .i64 En], .int .i64 er]) ∧ OfR x w.heap.size A En er a1 n1 c1 a2 n2 c2 w' := by
  rcases h.2 with ⟨h1, rfl⟩ | ⟨h1, b1, b2, F, G, T, D, rfl, h2, h3, h4⟩
  · exact ⟨_, _, _, _, _, _, _, _, _, rfl, .inl ⟨h1, rfl, rfl, rfl⟩⟩
  · exact ⟨_, _, _, _, _, _, _, _, _, rfl, .inr ⟨h1, rfl, rfl, rfl, b1, b2, F, G, T, D, rfl, rfl, rfl, rfl, rfl, rfl, h2, h3, h4⟩⟩
theorem OfR.grow {x : Cfg} {lo : Nat} {A En er : Int} {a1 a2 : Option Addr} {n1 c1 n2 c2 : Nat} {w w' : World} (h : OfR x lo A En er a1 n1 c1 a2 n2 c2 w) (hK : Keeps (fun _ => False) w w') : OfR x lo A En er a1 n1 c1 a2 n2 c2 w' := by
  rcases h with h | ⟨h1, h2, h3, h4, b1, b2, F, G, T, D, e1, e2, e3, e4, e5, e6, h5, h6, h7⟩
  · exact .inl h
  · exact .inr ⟨h1, h2, h3, h4, b1, b2, F, G, T, D, e1, e2, e3, e4, e5, e6, h5.kept hK (fun _ h => h.elim) (Nat.le_refl _), h6, h7⟩
theorem LD.duo {x : Cfg} {lo b1 b2 : Nat} {F : Nat → PP} {G : Nat → CP} {T : Nat → List Int} {D : Nat → List Dst} {w : World} (h : LD x lo b1 b2 F G T D w) : Duo w x.ps.length x.hs.length b1 b2 F G T D :=
  ⟨h.p, h.c, fun i hi => (h.tr i hi).1.lower' (Nat.zero_le _), fun i hi => (h.dr i hi).1.lower' (Nat.zero_le _)⟩

set_option maxHeartbeats 4000000 in
theorem layoutMoves_any (x : Cfg) (fr rm : Int) (hf : I64 fr) (hr : I64 rm) (w : World) (N : Nat) (hi : x.In w N) (hN : N ≤ w.heap.size) :
    Calls Try.prog 7 #[x.v, .int .i64 fr, .int .i64 rm] w fun e w' => e = .returned (.bool true) ∧ Keeps (fun _ => False) w w' := by
  obtain ⟨W, hW⟩ : ∃ W, W = x.laid w := ⟨_, rfl⟩
  obtain ⟨C, hC⟩ : ∃ C, C = w.heap.size := ⟨_, rfl⟩
  have HO : Hid (One w x C N W) := by rw [hW, hC]; exact One.mk' hi hN
  have hkI : I64 x.kernel := hi.ns _ (by simp [Cfg.ns])
  obtain ⟨k', hk'⟩ : ∃ k', IntKind.i64.wrap (x.kernel + 1) = k' := ⟨_, rfl⟩
  have HKN : Hid (I64 k' ∧ (1 ≤ k' → k' = x.kernel + 1) ∧ I64 fr ∧ I64 rm) := by
    rw [IntKind.wrap_i64] at hk'
    refine ⟨?_, ?_, hf, hr⟩
    · unfold I64; omega
    · unfold I64 at hkI; omega
  clear hi hN hf hr hkI
  unfold Cfg.laid at hW
  go_enter Try.func7, Try.ntmps7
  go_upto_region 1 with fail
  rw [← hW, ← hC]
  clear hW hC
  obtain ⟨q0, q1, q2, q3, q4, q5, q6⟩ := HO.out.cells
  have HC1 : Hid (Calls Try.prog 9 #[x.v] W (OfP x W)) := Of_any x W N HO.out.cin HO.out.nn
  go_wp2_with fail
  refine HC1.out.mono ?_
  rintro e w1 hP
  have hK := hP.1
  obtain ⟨A, En, er, a1, n1, c1, a2, n2, c2, rfl, hR⟩ := hP.letters
  have HO1 : Hid (One w x C N w1 ∧ OfR x W.heap.size A En er a1 n1 c1 a2 n2 c2 w1) := ⟨HO.out.kept hK, hR⟩
  clear hP hK hR HC1 q0 q1 q2 q3 q4 q5 q6
  obtain ⟨q0, q1, q2, q3, q4, q5, q6⟩ := HO1.out.1.cells
  obtain ⟨W1, hW1⟩ : ∃ W1, W1 = w1.alloc (.cells #[.int .i64 A, .slice a1 n1 c1, .slice a2 n2 c2, .int .i64 En] 30) := ⟨_, rfl⟩
  obtain ⟨E, hE⟩ : ∃ E, E = w1.heap.size := ⟨_, rfl⟩
  have HW1 : Hid (One w x C N W1 ∧ OfR x W.heap.size A En er a1 n1 c1 a2 n2 c2 W1 ∧ Blk W1 E [.int .i64 A, .slice a1 n1 c1, .slice a2 n2 c2, .int .i64 En] 30) := by
    have k1 : Keeps (fun _ => False) w1 W1 := by rw [hW1]; exact (Keeps.refl _ _).alloc _
    exact ⟨HO1.out.1.kept k1, HO1.out.2.grow k1, by rw [hW1, hE]; exact Blk.new _ _ _⟩
  go_upto_region 2 with fail
  rw [← hW1, ← hE]
  clear hW1 hE q0 q1 q2 q3 q4 q5 q6 HO1
  obtain ⟨q0, q1, q2, q3, q4, q5, q6⟩ := HW1.out.1.cells
  obtain ⟨W2, hW2⟩ : ∃ W2, W2 = W1.alloc (.cells #[.int .i64 fr, .int .i64 rm, .int .i64 k', .int .i64 rm, .slice none 0 0, .slice x.pa x.ps.length x.pc, .slice x.ha x.hs.length x.hc] 26) := ⟨_, rfl⟩
  obtain ⟨E2, hE2⟩ : ∃ E, E = W1.heap.size := ⟨_, rfl⟩
  have HW2 : Hid (One w x C N W2 ∧ OfR x W.heap.size A En er a1 n1 c1 a2 n2 c2 W2 ∧ Blk W2 E [.int .i64 A, .slice a1 n1 c1, .slice a2 n2 c2, .int .i64 En] 30 ∧ Blk W2 E2 (x.next k' fr rm).vs 26) := by
    have k1 : Keeps (fun _ => False) W1 W2 := by rw [hW2]; exact (Keeps.refl _ _).alloc _
    exact ⟨HW1.out.1.kept k1, HW1.out.2.1.grow k1, HW1.out.2.2.kept k1 fun h => h, by rw [hW2, hE2]; exact Blk.new _ _ _⟩
  go_upto_region 8 with fail
  rw [← hW2, ← hE2]
  clear hW2 hE2 q0 q1 q2 q3 q4 q5 q6 HW1 hk'
  have q0 := HW2.out.2.2.2.cell (i := 0) rfl
  have q1 := HW2.out.2.2.2.cell (i := 1) rfl
  have q2 := HW2.out.2.2.2.cell (i := 2) rfl
  have q3 := HW2.out.2.2.2.cell (i := 3) rfl
  have q4 := HW2.out.2.2.2.cell (i := 4) rfl
  have q5 := HW2.out.2.2.2.cell (i := 5) rfl
  have q6 := HW2.out.2.2.2.cell (i := 6) rfl
  simp only [Cfg.next, List.length_nil] at q0 q1 q2 q3 q4 q5 q6
  have HC2 : Hid (Calls Try.prog 9 #[.agg #[.int .i64 fr, .int .i64 rm, .int .i64 k', .int .i64 rm, .slice none 0 0, .slice x.pa x.ps.length x.pc, .slice x.ha x.hs.length x.hc]] W2 (OfP (x.next k' fr rm) W2)) := Of_any (x.next k' fr rm) W2 N (Cfg.next_in HW2.out.1.cin HKN.out.1 HKN.out.2.2.1 HKN.out.2.2.2) HW2.out.1.nn
  go_wp2_with fail
  refine HC2.out.mono ?_
  rintro e w3 hP
  have hK := hP.1
  obtain ⟨B, Fn, er2, d1, m1, f1, d2, m2, f2, rfl, hR⟩ := hP.letters
  have HO3 : Hid (One w x C N w3 ∧ OfR x W.heap.size A En er a1 n1 c1 a2 n2 c2 w3 ∧ Blk w3 E [.int .i64 A, .slice a1 n1 c1, .slice a2 n2 c2, .int .i64 En] 30 ∧ Blk w3 E2 (x.next k' fr rm).vs 26 ∧ OfR (x.next k' fr rm) W2.heap.size B Fn er2 d1 m1 f1 d2 m2 f2 w3) := ⟨HW2.out.1.kept hK, HW2.out.2.1.grow hK, HW2.out.2.2.1.kept hK fun h => h, HW2.out.2.2.2.kept hK fun h => h, hR⟩
  clear hP hK hR HC2 q0 q1 q2 q3 q4 q5 q6
  obtain ⟨W3, hW3⟩ : ∃ W3, W3 = w3.alloc (.cells #[.int .i64 B, .slice d1 m1 f1, .slice d2 m2 f2, .int .i64 Fn] 30) := ⟨_, rfl⟩
  obtain ⟨E3, hE3⟩ : ∃ E, E = w3.heap.size := ⟨_, rfl⟩
  have HW3 : Hid (One w x C N W3 ∧ OfR x W.heap.size A En er a1 n1 c1 a2 n2 c2 W3 ∧ Blk W3 E [.int .i64 A, .slice a1 n1 c1, .slice a2 n2 c2, .int .i64 En] 30 ∧ Blk W3 E2 (x.next k' fr rm).vs 26 ∧ OfR (x.next k' fr rm) W2.heap.size B Fn er2 d1 m1 f1 d2 m2 f2 W3 ∧ Blk W3 E3 [.int .i64 B, .slice d1 m1 f1, .slice d2 m2 f2, .int .i64 Fn] 30) := by
    have k1 : Keeps (fun _ => False) w3 W3 := by rw [hW3]; exact (Keeps.refl _ _).alloc _
    exact ⟨HO3.out.1.kept k1, HO3.out.2.1.grow k1, HO3.out.2.2.1.kept k1 fun h => h, HO3.out.2.2.2.1.kept k1 fun h => h, HO3.out.2.2.2.2.grow k1, by rw [hW3, hE3]; exact Blk.new _ _ _⟩
  go_upto_region 9 with fail
  rw [← hW3, ← hE3]
  clear hW3 hE3 HO3
  have q2 := HW3.out.2.2.2.1.cell (i := 2) rfl
  simp only [Cfg.next] at q2
  have z1 := HW3.out.2.2.2.2.2.cell (i := 1) rfl
  by_cases hk0 : k' ≤ 0
  · have e0 : decide (k' ≤ 0) = true := by simp [hk0]
    have e1 : (k' == 1024) = false := by simp; omega
    go_wp2
    go_ret
    exact ⟨rfl, HW3.out.1.keeps⟩
  have e0 : decide (k' ≤ 0) = false := by simp [hk0]
  have hkn := HKN.out.2.1 (by omega)
  by_cases hk1 : k' = 1024
  · have HF : Hid (er2 = 150 ∧ m1 = 0) := by
      rcases HW3.out.2.2.2.2.1 with h | h
      · exact ⟨h.2.1, h.2.2.1⟩
      · have := mayB_out (x := x.next k' fr rm) (by show ¬ (0 ≤ k' ∧ k' < 1024); omega)
        rw [this] at h
        cases h.1
    obtain ⟨rfl, rfl⟩ := HF.out
    subst hk1
    go_wp2
    go_ret
    exact ⟨rfl, HW3.out.1.keeps⟩
  have e1 : (k' == 1024) = false := by simp [hk1]
  obtain ⟨b, hb⟩ : ∃ b, x.mayB = b := ⟨_, rfl⟩
  cases b with
  | false =>
    have HF : Hid (er = 150 ∧ er2 = 150) := by
      refine ⟨?_, ?_⟩
      · rcases HW3.out.2.1 with h | h
        · exact h.2.1
        · rw [hb] at h; cases h.1
      · rcases HW3.out.2.2.2.2.1 with h | h
        · exact h.2.1
        · exfalso
          have h1 := (Cfg.mayB_iff.1 h.1)
          have h2 : k' < 1024 := h1.2.1
          rw [mayB_next (x := x) ⟨by omega, h2⟩ ⟨by omega, by omega⟩, hb] at h
          cases h.1
    obtain ⟨rfl, rfl⟩ := HF.out
    clear hb hkn
    go_wp2
    go_ret
    exact ⟨rfl, HW3.out.1.keeps⟩
  | true =>
    have hkb := Cfg.mayB_iff.1 hb
    have hb2 : (x.next k' fr rm).mayB = true := by rw [mayB_next (x := x) ⟨by omega, by omega⟩ ⟨hkb.1, hkb.2.1⟩]; exact hb
    rcases HW3.out.2.1 with h | ⟨_, rfl, rfl, rfl, b1, b2, F, G, T, D, rfl, rfl, rfl, rfl, rfl, rfl, hLD, hF, hG⟩
    · rw [hb] at h; cases h.1
    rcases HW3.out.2.2.2.2.1 with h | ⟨_, rfl, rfl, rfl, b1', b2', F', G', T', D', rfl, rfl, rfl, rfl, rfl, rfl, hLD', hF', hG'⟩
    · rw [hb2] at h; cases h.1
    have hk16 : 16 * (x.next k' fr rm).kernel = 16 * x.kernel + 16 := by show 16 * k' = _; omega
    rw [hk16] at hF' hG'
    have hMv := mvd_of hb (a := 16 * x.kernel) (by omega) hF hG hF' hG'
    have HCM := moved_any x.ps.length x.hs.length b1 b2 b1' b2' F F' G G' T T' D D' (16 * x.kernel) (rtAt x (rtB x (16 * x.kernel)) x.ps.length / 16) W3 hLD.duo hLD'.duo hMv hkb.2.2.1 hkb.2.2.2.1 (by omega) (by
      have h1 := chAt_bd hb (chB x (16 * x.kernel)) x.hs.length
      have h2 := rtAt_bd x (rtB x (16 * x.kernel)) x.ps.length
      have h3 : 0 ≤ chB x (16 * x.kernel) ∧ chB x (16 * x.kernel) ≤ 21000 := by unfold chB; omega
      have h4 : 0 ≤ rtB x (16 * x.kernel) ∧ rtB x (16 * x.kernel) ≤ 50000 := by unfold rtB fillN chE; split <;> omega
      omega)
    have hEn2 : rtAt (x.next k' fr rm) (rtB (x.next k' fr rm) (16 * (x.next k' fr rm).kernel)) (x.next k' fr rm).ps.length / 16 = rtAt x (rtB x (16 * x.kernel)) x.ps.length / 16 + 1 := by
      rw [hk16, rtB_next, rtAt_next]
      show (rtAt x (rtB x (16 * x.kernel)) x.ps.length + 16) / 16 = _
      omega
    have s0 := HW3.out.2.2.1.cell (i := 0) rfl
    have s1 := HW3.out.2.2.1.cell (i := 1) rfl
    have s2 := HW3.out.2.2.1.cell (i := 2) rfl
    have s3 := HW3.out.2.2.1.cell (i := 3) rfl
    have z0 := HW3.out.2.2.2.2.2.cell (i := 0) rfl
    have z2 := HW3.out.2.2.2.2.2.cell (i := 2) rfl
    have z3 := HW3.out.2.2.2.2.2.cell (i := 3) rfl
    have HO9 : Hid (One w x C N W3) := HW3.out.1
    rw [hEn2] at z3 ⊢
    rw [hk16] at z0 ⊢
    rw [show (x.next k' fr rm).ps.length = x.ps.length from rfl] at z1 ⊢
    rw [show (x.next k' fr rm).hs.length = x.hs.length from rfl] at z2 ⊢
    obtain ⟨AA, hAA⟩ : ∃ AA, 16 * x.kernel = AA := ⟨_, rfl⟩
    obtain ⟨EE, hEE⟩ : ∃ EE, rtAt x (rtB x (16 * x.kernel)) x.ps.length / 16 = EE := ⟨_, rfl⟩
    rw [hEE] at s3 z3 HCM ⊢
    rw [hAA] at s0 z0 HCM ⊢
    have HCM : Hid (Calls _ _ _ _ _) := HCM
    clear hEn2 hMv hLD hLD' hF hF' hG hG' hb hb2 hkb hkn hk16 hAA hEE HW3 HW2
    go_wp2_with fail
    refine HCM.out.mono ?_
    rintro e w4 ⟨rfl, hK⟩
    have HK : Hid (Keeps (fun _ => False) w w4) := HO9.out.keeps.trans hK fun _ _ h => h
    clear hK s0 s1 s2 s3 z0 z1 z2 z3 q2
    go_wp2
    go_ret
    exact ⟨rfl, HK.out⟩
end Go.Proofs.Ythaoopaafdgioaa
