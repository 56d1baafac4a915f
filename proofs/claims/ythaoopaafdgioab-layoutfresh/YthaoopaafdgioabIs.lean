import Derived.Test.YthaoopaafdgioabP
import Derived.Test.YthaoopaafdgioabMv
import Derived.Test.YthaoopaafdgioabOy
import Derived.Test.YthaoopaafdgioabSe
namespace Go.Proofs.Ythaoopaafdgioab
open Go.RowKit
set_option linter.unusedVariables false
set_option linter.unusedSimpArgs false
set_option maxRecDepth 6000

/-- The same configuration with the kernel one frame further on, and other numbers that say nothing. -/
def Cfg.next (x : Cfg) (k fr rm : Int) : Cfg := ⟨fr, rm, k, rm, none, 0, [], x.pa, x.pc, x.ps, x.ha, x.hc, x.hs⟩
theorem next_ns {x : Cfg} {k fr rm : Int} (hk : I64 k) (hf : I64 fr) (hr : I64 rm) {n : Int} (hn : n ∈ (x.next k fr rm).ns) : I64 n := by
  simp only [Cfg.ns, Cfg.next, List.mem_cons, List.not_mem_nil, or_false] at hn
  rcases hn with rfl | rfl | rfl | rfl <;> assumption
theorem Cfg.next_in {x : Cfg} {w : World} {N : Nat} (h : x.In w N) {k fr rm : Int} (hk : I64 k) (hf : I64 fr) (hr : I64 rm) : (x.next k fr rm).In w N :=
  ⟨.inl rfl, fun h => (h rfl).elim, ⟨by simp [Cfg.next], by simp [Cfg.next, maxLen]⟩, (fun y hy => by cases hy), h.pseg, h.plo, h.plen, h.pin, h.hseg, h.hlo, h.hlen, h.hfine, fun n hn => next_ns hk hf hr hn⟩
theorem chAt_next (x : Cfg) (k fr rm b : Int) (n : Nat) : chAt (x.next k fr rm) (b + 16) n = chAt x b n + 16 := by
  induction n with
  | zero => rfl
  | succ n ih => show chAt _ _ n + chSz (x.next k fr rm) n = chAt x b n + chSz x n + 16; rw [ih, show chSz (x.next k fr rm) n = chSz x n from rfl]; omega
theorem rtAt_next (x : Cfg) (k fr rm b : Int) (n : Nat) : rtAt (x.next k fr rm) (b + 16) n = rtAt x b n + 16 := by
  induction n with
  | zero => rfl
  | succ n ih => show rtAt _ _ n + rtSz (x.next k fr rm) n = rtAt x b n + rtSz x n + 16; rw [ih, show rtSz (x.next k fr rm) n = rtSz x n from rfl]; omega
theorem fillN_next (a : Int) : fillN (a + 16) = fillN a := by unfold fillN; have : (a + 16) % 16 = a % 16 := by omega
                                                              rw [this]
theorem chB_next (x : Cfg) (k fr rm a : Int) : chB (x.next k fr rm) (a + 16) = chB x a + 16 := by unfold chB; simp [Cfg.next]; omega
theorem chE_next (x : Cfg) (k fr rm a : Int) : chE (x.next k fr rm) (a + 16) = chE x a + 16 := by unfold chE; rw [chB_next]; exact chAt_next x k fr rm _ _
theorem rtB_next (x : Cfg) (k fr rm a : Int) : rtB (x.next k fr rm) (a + 16) = rtB x a + 16 := by unfold rtB; rw [chE_next, fillN_next]; omega
theorem mayB_next {x : Cfg} {k fr rm : Int} (hk : 0 ≤ k ∧ k < 1024) (hx : 0 ≤ x.kernel ∧ x.kernel < 1024) : (x.next k fr rm).mayB = x.mayB := by
  rw [Bool.eq_iff_iff, Cfg.mayB_iff, Cfg.mayB_iff]
  constructor
  · rintro ⟨_, _, h⟩; exact ⟨hx.1, hx.2, h⟩
  · rintro ⟨_, _, h⟩; exact ⟨hk.1, hk.2, h⟩
theorem mayB_out {x : Cfg} (h : ¬ (0 ≤ x.kernel ∧ x.kernel < 1024)) : x.mayB = false := (Cfg.mayB_no fun h2 => h ⟨h2.1, h2.2.1⟩).out
theorem dst_bd {x : Cfg} (hm : x.mayB = true) {a b : Int} (ha : 0 ≤ a ∧ a ≤ 20000) (hb : b = chB x a) {i : Nat} {h : Chn} (hh : x.hs[i]? = some h) : ∀ d ∈ placed (dstsOf x i) (chAt x b i + 2 + h.stg) h.prt (dstsOf x i).length, 0 ≤ d.pos ∧ d.pos ≤ 100000 := by
  intro d hd
  obtain ⟨hs, _, h1, h4⟩ := Cfg.mayB_chn hm hh
  have hpb := Chn.plc_bd hs
  have h2 : 3 ≤ h.stg ∧ h.stg ≤ 137 := by unfold Chn.stg; omega
  have h3 : 4 ≤ h.prt ∧ h.prt ≤ 139 := by unfold Chn.prt; split <;> omega
  have hc := chAt_bd hm b i
  have hil : i < x.hs.length := (List.getElem?_eq_some_iff.1 hh).1
  have h16 := (Cfg.mayB_iff.1 hm).2.2.2.1
  have h8 := (Cfg.mayB_iff.1 hm).2.2.1
  have hbb : 0 ≤ b ∧ b ≤ 21000 := by rw [hb]; unfold chB; omega
  have hl : (dstsOf x i).length ≤ 4 := h4
  obtain ⟨j, hj⟩ := List.mem_iff_getElem?.1 hd
  unfold placed at hj
  rw [List.getElem?_mapIdx] at hj
  cases hdj : (dstsOf x i)[j]? with
  | none => rw [hdj] at hj; cases hj
  | some y =>
    rw [hdj] at hj
    have hjl : j < (dstsOf x i).length := (List.getElem?_eq_some_iff.1 hdj).1
    simp only [Option.map_some, hjl, if_true, Option.some.injEq] at hj
    subst hj
    dsimp only
    have h5 : j = 0 ∨ j = 1 ∨ j = 2 ∨ j = 3 := by omega
    rcases h5 with h5 | h5 | h5 | h5 <;> subst h5 <;> omega
theorem placed_next (D : List Dst) (b k : Int) : placed D (b + 16) k D.length = (placed D b k D.length).map (fun d => ⟨d.p, d.q, d.pos + 16⟩) := by
  apply List.ext_getElem?
  intro i
  simp only [placed, List.getElem?_map, List.getElem?_mapIdx]
  cases h : D[i]? with
  | none => rfl
  | some y =>
    have hi : i < D.length := (List.getElem?_eq_some_iff.1 h).1
    simp only [Option.map_some, hi, if_true, Option.some.injEq, Dst.mk.injEq, true_and]
    omega
theorem tabL_next (a : Int) (n : Nat) : tabL (a + 16) n = (tabL a n).map (· + 1) := by
  unfold tabL
  rw [List.map_map]
  apply List.map_congr_left
  intro k _
  show (a + 16) / 16 + 1 + (k : Int) = a / 16 + 1 + (k : Int) + 1
  omega
theorem mvd_of {x : Cfg} (hm : x.mayB = true) {k fr rm a : Int} (ha : 0 ≤ a ∧ a ≤ 20000) {F F' : Nat → PP} {G G' : Nat → CP} {T T' : Nat → List Int} {D D' : Nat → List Dst}
    (hF : FOK x (a + 2) (rtB x a) x.ps.length F T) (hG : GOK x (chB x a) x.hs.length G D)
    (hF' : FOK (x.next k fr rm) (a + 16 + 2) (rtB (x.next k fr rm) (a + 16)) x.ps.length F' T') (hG' : GOK (x.next k fr rm) (chB (x.next k fr rm) (a + 16)) x.hs.length G' D') :
    Mvd x.ps.length x.hs.length F F' G G' T T' D D' := by
  have h16 := (Cfg.mayB_iff.1 hm).2.2.2.1
  have h8 := (Cfg.mayB_iff.1 hm).2.2.1
  have hbb : 0 ≤ chB x a ∧ chB x a ≤ 21000 := by unfold chB; omega
  have hce := chAt_bd hm (chB x a) x.hs.length
  have hrb : 0 ≤ rtB x a ∧ rtB x a ≤ 50000 := by
    unfold rtB fillN chE
    split <;> omega
  constructor
  · intro i hi
    obtain ⟨f1, f2, f3, f4⟩ := hF i hi
    obtain ⟨P, hP, f5, f6⟩ := f4 hi
    obtain ⟨g1, g2, g3, g4⟩ := hF' i hi
    obtain ⟨P', hP', g5, g6⟩ := g4 hi
    obtain rfl : P = P' := by have : x.ps[i]? = some P' := hP'; rw [hP] at this; exact Option.some.inj this
    have hr := rtAt_bd x (rtB x a) i
    rw [rtB_next, rtAt_next] at g5 g6
    refine ⟨⟨by omega, by omega, by omega, by omega, by omega, by omega, by omega, by omega⟩, by omega, by omega, by omega, by omega, by rw [g6, f6]; exact tabL_next _ _, fun y hy => ?_⟩
    rw [f6] at hy
    unfold tabL at hy
    obtain ⟨m, hm2, rfl⟩ := List.mem_map.1 hy
    have hm3 := List.mem_range.1 hm2
    have := cntT_le P.rs 16
    omega
  · intro i hi
    obtain ⟨s, h, g1, g2, g3, g4, g5, g6, g7⟩ := hG i hi
    obtain ⟨s', h', k1, k2, k3, k4, k5, k6, k7⟩ := hG' i hi
    obtain rfl : h = h' := by have : x.hs[i]? = some h' := k2; rw [g2] at this; exact Option.some.inj this
    obtain rfl : s = s' := by have : endsL true i x.ps x.ps.length = [s'] := k1; rw [g1] at this; exact (List.cons.inj this).1
    have hc := chAt_bd hm (chB x a) i
    rw [chB_next, chAt_next] at k3 k4 k7
    refine ⟨⟨by omega, by omega, by omega, by omega⟩, by omega, by omega, by rw [k5, g5], by rw [k6, g6], ?_, ?_⟩
    · rw [k7, g7, show chAt x (chB x a) i + 16 + 2 + h.stg = chAt x (chB x a) i + 2 + h.stg + 16 by omega]
      exact placed_next _ _ _
    · rw [g7]; exact dst_bd hm ha rfl g2

/-- What Of told, letter by letter. -/
def OfR (x : Cfg) (lo : Nat) (A En er : Int) (a1 : Option Addr) (n1 c1 : Nat) (a2 : Option Addr) (n2 c2 : Nat) (w' : World) : Prop :=
  (x.mayB = false ∧ er = 150 ∧ n1 = 0 ∧ En = 0) ∨
  (x.mayB = true ∧ er = 0 ∧ A = 16 * x.kernel ∧ En = rtAt x (rtB x (16 * x.kernel)) x.ps.length / 16 ∧ ∃ b1 b2 F G T D, a1 = some ⟨b1, 0, none⟩ ∧ n1 = x.ps.length ∧ c1 = x.ps.length ∧ a2 = some ⟨b2, 0, none⟩ ∧ n2 = x.hs.length ∧ c2 = x.hs.length ∧
    LD x lo b1 b2 F G T D w' ∧ FOK x (16 * x.kernel + 2) (rtB x (16 * x.kernel)) x.ps.length F T ∧ GOK x (chB x (16 * x.kernel)) x.hs.length G D)
theorem OfP.letters {x : Cfg} {w : World} {e : Ending} {w' : World} (h : OfP x w e w') : ∃ A En er a1 n1 c1 a2 n2 c2, e = .returned (.tuple #[.agg #[.int .i64 A, .slice a1 n1 c1, .slice a2 n2 c2, .int .i64 En], .int .i64 er]) ∧ OfR x w.heap.size A En er a1 n1 c1 a2 n2 c2 w' := by
  rcases h.2 with ⟨h1, rfl⟩ | ⟨h1, b1, b2, F, G, T, D, rfl, h2, h3, h4⟩
  · exact ⟨_, _, _, _, _, _, _, _, _, rfl, .inl ⟨h1, rfl, rfl, rfl⟩⟩
  · exact ⟨_, _, _, _, _, _, _, _, _, rfl, .inr ⟨h1, rfl, rfl, rfl, b1, b2, F, G, T, D, rfl, rfl, rfl, rfl, rfl, rfl, h2, h3, h4⟩⟩
theorem OfR.grow {x : Cfg} {lo : Nat} {A En er : Int} {a1 a2 : Option Addr} {n1 c1 n2 c2 : Nat} {w w' : World} (h : OfR x lo A En er a1 n1 c1 a2 n2 c2 w) (hK : Keeps (fun _ => False) w w') : OfR x lo A En er a1 n1 c1 a2 n2 c2 w' := by
  rcases h with h | ⟨h1, h2, h3, h4, b1, b2, F, G, T, D, e1, e2, e3, e4, e5, e6, h5, h6, h7⟩
  · exact .inl h
  · exact .inr ⟨h1, h2, h3, h4, b1, b2, F, G, T, D, e1, e2, e3, e4, e5, e6, h5.kept hK (fun _ h => h.elim) (Nat.le_refl _), h6, h7⟩
theorem LD.duo {x : Cfg} {lo b1 b2 : Nat} {F : Nat → PP} {G : Nat → CP} {T : Nat → List Int} {D : Nat → List Dst} {w : World} (h : LD x lo b1 b2 F G T D w) : Duo w x.ps.length x.hs.length b1 b2 F G T D :=
  ⟨h.p, h.c, fun i hi => (h.tr i hi).1.lower' (Nat.zero_le _), fun i hi => (h.dr i hi).1.lower' (Nat.zero_le _)⟩

end Go.Proofs.Ythaoopaafdgioab
namespace Go.Proofs.Ythaoopaafdgioab
open Go.RowKit
set_option linter.unusedVariables false
set_option linter.unusedSimpArgs false
set_option maxRecDepth 8000

/-- What Of told, letter by letter, with all of it where there is none. -/
def OfS (x : Cfg) (lo : Nat) (A En er : Int) (a1 : Option Addr) (n1 c1 : Nat) (a2 : Option Addr) (n2 c2 : Nat) (w' : World) : Prop :=
  (x.mayB = false ∧ er = 150 ∧ n1 = 0 ∧ n2 = 0 ∧ En = 0 ∧ A = 0) ∨
  (x.mayB = true ∧ er = 0 ∧ A = 16 * x.kernel ∧ En = rtAt x (rtB x (16 * x.kernel)) x.ps.length / 16 ∧ ∃ b1 b2 F G T D, a1 = some ⟨b1, 0, none⟩ ∧ n1 = x.ps.length ∧ c1 = x.ps.length ∧ a2 = some ⟨b2, 0, none⟩ ∧ n2 = x.hs.length ∧ c2 = x.hs.length ∧
    LD x lo b1 b2 F G T D w' ∧ FOK x (16 * x.kernel + 2) (rtB x (16 * x.kernel)) x.ps.length F T ∧ GOK x (chB x (16 * x.kernel)) x.hs.length G D)
theorem OfP.letters2 {x : Cfg} {w : World} {e : Ending} {w' : World} (h : OfP x w e w') : ∃ A En er a1 n1 c1 a2 n2 c2, e = .returned (.tuple #[.agg #[.int .i64 A, .slice a1 n1 c1, .slice a2 n2 c2, .int .i64 En], .int .i64 er]) ∧ OfS x w.heap.size A En er a1 n1 c1 a2 n2 c2 w' := by
  rcases h.2 with ⟨h1, rfl⟩ | ⟨h1, b1, b2, F, G, T, D, rfl, h2, h3, h4⟩
  · exact ⟨_, _, _, _, _, _, _, _, _, rfl, .inl ⟨h1, rfl, rfl, rfl, rfl, rfl⟩⟩
  · exact ⟨_, _, _, _, _, _, _, _, _, rfl, .inr ⟨h1, rfl, rfl, rfl, b1, b2, F, G, T, D, rfl, rfl, rfl, rfl, rfl, rfl, h2, h3, h4⟩⟩
theorem OfS.grow {x : Cfg} {lo : Nat} {A En er : Int} {a1 a2 : Option Addr} {n1 c1 n2 c2 : Nat} {w w' : World} (h : OfS x lo A En er a1 n1 c1 a2 n2 c2 w) (hK : Keeps (fun _ => False) w w') : OfS x lo A En er a1 n1 c1 a2 n2 c2 w' := by
  rcases h with h | ⟨h1, h2, h3, h4, b1, b2, F, G, T, D, e1, e2, e3, e4, e5, e6, h5, h6, h7⟩
  · exact .inl h
  · exact .inr ⟨h1, h2, h3, h4, b1, b2, F, G, T, D, e1, e2, e3, e4, e5, e6, h5.kept hK (fun _ h => h.elim) (Nat.le_refl _), h6, h7⟩

def ndE (x : Cfg) : Int := if x.mayB = true then 0 else 150
def ndN (x : Cfg) : Int := if x.mayB = true then rtAt x (rtB x (16 * x.kernel)) x.ps.length / 16 - x.kernel else 0
theorem rt_bound {x : Cfg} (hb : x.mayB = true) : 0 ≤ rtAt x (rtB x (16 * x.kernel)) x.ps.length / 16 ∧ rtAt x (rtB x (16 * x.kernel)) x.ps.length / 16 ≤ 100000 := by
  have hk := Cfg.mayB_iff.1 hb
  have h1 := chAt_bd hb (chB x (16 * x.kernel)) x.hs.length
  have h2 := rtAt_bd x (rtB x (16 * x.kernel)) x.ps.length
  have h3 : 0 ≤ chB x (16 * x.kernel) ∧ chB x (16 * x.kernel) ≤ 21000 := by unfold chB; omega
  have h4 : 0 ≤ rtB x (16 * x.kernel) ∧ rtB x (16 * x.kernel) ≤ 50000 := by unfold rtB fillN chE; split <;> omega
  omega

set_option maxHeartbeats 4000000 in
theorem Need_any (x : Cfg) (w : World) (N : Nat) (hi : x.In w N) (hN : N ≤ w.heap.size) : Calls Try.prog 11 #[x.v] w fun e w' => e = .returned (.tuple #[.int .i64 (ndN x), .int .i64 (ndE x)]) ∧ Keeps (fun _ => False) w w' := by
  obtain ⟨W, hW⟩ : ∃ W, W = x.laid w := ⟨_, rfl⟩
  obtain ⟨C, hC⟩ : ∃ C, C = w.heap.size := ⟨_, rfl⟩
  have HO : Hid (One w x C N W) := by rw [hW, hC]; exact One.mk' hi hN
  clear hi hN
  unfold Cfg.laid at hW
  go_enter Try.func11, Try.ntmps11
  go_upto_region 1 with fail
  rw [← hW, ← hC]
  clear hW hC
  obtain ⟨q0, q1, q2, q3, q4, q5, q6⟩ := HO.out.cells
  have HC1 : Hid (Calls Try.prog 12 #[x.v] W (OfP x W)) := Of_any x W N HO.out.cin HO.out.nn
  go_wp2_with fail
  refine HC1.out.mono ?_
  rintro e w1 hP
  have hK := hP.1
  obtain ⟨A, En, er, a1, n1, c1, a2, n2, c2, rfl, hR⟩ := hP.letters
  obtain ⟨W1, hW1⟩ : ∃ W1, W1 = w1.alloc (.cells #[.int .i64 A, .slice a1 n1 c1, .slice a2 n2 c2, .int .i64 En] 31) := ⟨_, rfl⟩
  obtain ⟨E, hE⟩ : ∃ E, E = w1.heap.size := ⟨_, rfl⟩
  have k1 : Keeps (fun _ => False) w1 W1 := by rw [hW1]; exact (Keeps.refl _ _).alloc _
  have hB1 : Blk W1 E [.int .i64 A, .slice a1 n1 c1, .slice a2 n2 c2, .int .i64 En] 31 := by rw [hW1, hE]; exact Blk.new _ _ _
  have HO1 : Hid (One w x C N W1) := (HO.out.kept hK).kept k1
  have c2' : W1.cell? ⟨C, 2, none⟩ = some (.int .i64 x.kernel) := HO1.out.cfg.cell (i := 2) rfl
  have b3 := hB1.cell (i := 3) rfl
  clear hK HC1 q0 q1 q2 q3 q4 q5 q6 hP k1 hB1
  go_upto_region 2 with fail
  rw [← hW1, ← hE]
  clear hW1 hE
  rcases hR with ⟨h1, rfl, rfl, rfl⟩ | ⟨h1, rfl, rfl, rfl, _⟩
  · have HE : Hid (ndN x = 0 ∧ ndE x = 150) := by unfold ndN ndE; rw [h1]; exact ⟨rfl, rfl⟩
    clear h1
    go_wp2
    go_returns
    exact ⟨by rw [HE.out.1, HE.out.2]; rfl, HO1.out.keeps⟩
  · have HE : Hid (ndN x = rtAt x (rtB x (16 * x.kernel)) x.ps.length / 16 - x.kernel ∧ ndE x = 0) := by unfold ndN ndE; rw [h1]; exact ⟨rfl, rfl⟩
    have hk := Cfg.mayB_iff.1 h1
    have hb := rt_bound h1
    obtain ⟨EN, hEN⟩ : ∃ EN, rtAt x (rtB x (16 * x.kernel)) x.ps.length / 16 = EN := ⟨_, rfl⟩
    rw [hEN] at HE hb b3
    (try rw [hEN])
    have w1' : IntKind.i64.wrap (EN - x.kernel) = EN - x.kernel := by rw [IntKind.wrap_i64]; omega
    clear h1 hk hb hEN
    go_wp2
    go_returns
    exact ⟨by rw [HE.out.1, HE.out.2]; rfl, HO1.out.keeps⟩

set_option maxHeartbeats 4000000 in
theorem rNeed_any (x : Cfg) (w : World) (N : Nat) (hi : x.In w N) (hN : N ≤ w.heap.size) : Calls Try.prog 8 #[x.v] w fun e w' => e = .returned (.tuple #[.int .i64 (ndN x), .int .i64 (ndE x)]) ∧ Keeps (fun _ => False) w w' := by
  obtain ⟨W, hW⟩ : ∃ W, W = x.laid w := ⟨_, rfl⟩
  obtain ⟨C, hC⟩ : ∃ C, C = w.heap.size := ⟨_, rfl⟩
  have HO : Hid (One w x C N W) := by rw [hW, hC]; exact One.mk' hi hN
  clear hi hN
  unfold Cfg.laid at hW
  go_enter Try.func8, Try.ntmps8
  go_upto_region 1 with fail
  rw [← hW, ← hC]
  clear hW hC
  obtain ⟨q0, q1, q2, q3, q4, q5, q6⟩ := HO.out.cells
  have HC1 : Hid (Calls Try.prog 6 #[x.v] W (OfP x W)) := rOf_any x W N HO.out.cin HO.out.nn
  go_wp2_with fail
  refine HC1.out.mono ?_
  rintro e w1 hP
  have hK := hP.1
  obtain ⟨A, En, er, a1, n1, c1, a2, n2, c2, rfl, hR⟩ := hP.letters
  obtain ⟨W1, hW1⟩ : ∃ W1, W1 = w1.alloc (.cells #[.int .i64 A, .slice a1 n1 c1, .slice a2 n2 c2, .int .i64 En] 31) := ⟨_, rfl⟩
  obtain ⟨E, hE⟩ : ∃ E, E = w1.heap.size := ⟨_, rfl⟩
  have k1 : Keeps (fun _ => False) w1 W1 := by rw [hW1]; exact (Keeps.refl _ _).alloc _
  have hB1 : Blk W1 E [.int .i64 A, .slice a1 n1 c1, .slice a2 n2 c2, .int .i64 En] 31 := by rw [hW1, hE]; exact Blk.new _ _ _
  have HO1 : Hid (One w x C N W1) := (HO.out.kept hK).kept k1
  have c2' : W1.cell? ⟨C, 2, none⟩ = some (.int .i64 x.kernel) := HO1.out.cfg.cell (i := 2) rfl
  have b3 := hB1.cell (i := 3) rfl
  clear hK HC1 q0 q1 q2 q3 q4 q5 q6 hP k1 hB1
  go_upto_region 2 with fail
  rw [← hW1, ← hE]
  clear hW1 hE
  rcases hR with ⟨h1, rfl, rfl, rfl⟩ | ⟨h1, rfl, rfl, rfl, _⟩
  · have HE : Hid (ndN x = 0 ∧ ndE x = 150) := by unfold ndN ndE; rw [h1]; exact ⟨rfl, rfl⟩
    clear h1
    go_wp2
    go_returns
    exact ⟨by rw [HE.out.1, HE.out.2]; rfl, HO1.out.keeps⟩
  · have HE : Hid (ndN x = rtAt x (rtB x (16 * x.kernel)) x.ps.length / 16 - x.kernel ∧ ndE x = 0) := by unfold ndN ndE; rw [h1]; exact ⟨rfl, rfl⟩
    have hk := Cfg.mayB_iff.1 h1
    have hb := rt_bound h1
    obtain ⟨EN, hEN⟩ : ∃ EN, rtAt x (rtB x (16 * x.kernel)) x.ps.length / 16 = EN := ⟨_, rfl⟩
    rw [hEN] at HE hb b3
    (try rw [hEN])
    have w1' : IntKind.i64.wrap (EN - x.kernel) = EN - x.kernel := by rw [IntKind.wrap_i64]; omega
    clear h1 hk hb hEN
    go_wp2
    go_returns
    exact ⟨by rw [HE.out.1, HE.out.2]; rfl, HO1.out.keeps⟩

theorem eqd_of {x : Cfg} {a b c : Int} {F F' : Nat → PP} {G G' : Nat → CP} {T T' : Nat → List Int} {D D' : Nat → List Dst}
    (hF : FOK x a b x.ps.length F T) (hG : GOK x c x.hs.length G D) (hF' : FOK x a b x.ps.length F' T') (hG' : GOK x c x.hs.length G' D') : Eqd x.ps.length x.hs.length F F' G G' T T' D D' := by
  constructor
  · intro i hi
    obtain ⟨f1, f2, f3, f4⟩ := hF i hi
    obtain ⟨P, hP, f5, f6⟩ := f4 hi
    obtain ⟨g1, g2, g3, g4⟩ := hF' i hi
    obtain ⟨P', hP', g5, g6⟩ := g4 hi
    obtain rfl : P = P' := by rw [hP] at hP'; exact Option.some.inj hP'
    exact ⟨by rw [f1, g1], by rw [f2, g2], by rw [f3, g3], by rw [f5, g5], by rw [f6, g6]⟩
  · intro i hi
    obtain ⟨s, h, g1, g2, g3, g4, g5, g6, g7⟩ := hG i hi
    obtain ⟨s', h', k1, k2, k3, k4, k5, k6, k7⟩ := hG' i hi
    obtain rfl : h = h' := by rw [g2] at k2; exact Option.some.inj k2
    obtain rfl : s = s' := by rw [g1] at k1; exact (List.cons.inj k1).1
    exact ⟨by rw [g3, k3], by rw [g4, k4], by rw [g5, k5], by rw [g6, k6], by rw [g7, k7]⟩

set_option maxHeartbeats 4000000 in
theorem sameZ_any (A : Int) (a1 a2 a3 a4 : Option Addr) (c1 c2 c3 c4 : Nat) (w : World) : Calls Try.prog 13 #[.agg #[.int .i64 A, .slice a1 0 c1, .slice a2 0 c2, .int .i64 0], .agg #[.int .i64 A, .slice a3 0 c3, .slice a4 0 c4, .int .i64 0]] w fun e w' => e = .returned (.bool true) ∧ Keeps (fun _ => False) w w' := by
  obtain ⟨W, hW⟩ : ∃ W, W = (w.alloc (.cells #[.int .i64 A, .slice a1 0 c1, .slice a2 0 c2, .int .i64 0] 31)).alloc (.cells #[.int .i64 A, .slice a3 0 c3, .slice a4 0 c4, .int .i64 0] 31) := ⟨_, rfl⟩
  obtain ⟨C, hC⟩ : ∃ C, C = w.heap.size := ⟨_, rfl⟩
  have HW : Hid (Keeps (fun _ => False) w W ∧ Blk W C [.int .i64 A, .slice a1 0 c1, .slice a2 0 c2, .int .i64 0] 31 ∧ Blk W (C + 1) [.int .i64 A, .slice a3 0 c3, .slice a4 0 c4, .int .i64 0] 31) := by
    have k : Keeps (fun _ => False) w W := by rw [hW]; exact ((Keeps.refl _ _).alloc _).alloc _
    refine ⟨k, by rw [hW, hC]; exact (Blk.new w _ _).alloc _, ?_⟩
    rw [hW, hC]
    have := Blk.new (w.alloc (.cells #[.int .i64 A, .slice a1 0 c1, .slice a2 0 c2, .int .i64 0] 31)) #[.int .i64 A, .slice a3 0 c3, .slice a4 0 c4, .int .i64 0] 31
    simpa using this
  go_enter Try.func13, Try.ntmps13
  go_upto_region 1 with fail
  rw [← hW, ← hC]
  clear hW hC
  have a0 := HW.out.2.1.cell (i := 0) rfl
  have a1' := HW.out.2.1.cell (i := 1) rfl
  have a2' := HW.out.2.1.cell (i := 2) rfl
  have a3' := HW.out.2.1.cell (i := 3) rfl
  have d0 := HW.out.2.2.cell (i := 0) rfl
  have d1 := HW.out.2.2.cell (i := 1) rfl
  have d2 := HW.out.2.2.cell (i := 2) rfl
  have d3 := HW.out.2.2.cell (i := 3) rfl
  go_wp2
  clear a0 a1' a3' d0 d1 d2 d3
  go_loopw [46] (fun i wr => i = .int .i64 0 ∧ wr = W) (fun i _ => 0)
  case atStart => exact ⟨rfl, rfl⟩
  case round =>
    obtain ⟨rfl, rfl⟩ := hrel
    go_wp2
    go_loopw [116] (fun i wx => i = .int .i64 0 ∧ wx = wr) (fun i _ => 0)
    case atStart => exact ⟨rfl, rfl⟩
    case round =>
      obtain ⟨rfl, rfl⟩ := hrel
      go_wp2
      go_ret
      exact ⟨rfl, HW.out.1⟩

end Go.Proofs.Ythaoopaafdgioab
