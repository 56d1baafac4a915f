import Derived.Test.YthaoopaafdgioaaOy
import Derived.Test.YthaoopaafdgioaaSe
import Derived.Test.YthaoopaafdgioaaLm
namespace Go.Proofs.Ythaoopaafdgioaa
open Go.RowKit
set_option linter.unusedVariables false
set_option linter.unusedSimpArgs false
set_option maxRecDepth 8000

/-- What Of told, letter by letter, with all of it where there is none. -/
def OfS (x : Cfg) (lo : Nat) (A En er : Int) (a1 : Option Addr) (n1 c1 : Nat) (a2 : Option Addr) (n2 c2 : Nat) (w' : World) : Prop :=
  (x.mayB = false ∧ er = 150 ∧ n1 = 0 ∧ n2 = 0 ∧ En = 0 ∧ A = 0) ∨
  (x.mayB = true ∧ er = 0 ∧ A = 16 * x.kernel ∧ En = rtAt x (rtB x (16 * x.kernel)) x.ps.length / 16 ∧ ∃ b1 b2 F G T D, a1 = some ⟨b1, 0, none⟩ ∧ n1 = x.ps.length ∧ c1 = x.ps.length ∧ a2 = some ⟨b2, 0, none⟩ ∧ n2 = x.hs.length ∧ c2 = x.hs.length ∧
    LD x lo b1 b2 F G T D w' ∧ FOK x (16 * x.kernel + 2) (rtB x (16 * x.kernel)) x.ps.length F T ∧ GOK x (chB x (16 * x.kernel)) x.hs.length G D)
theorem OfP.letters2 {x : Cfg} {w : World} {e : Ending} {w' : World} (h : OfP x w e w') : ∃ A En er a1 n1 c1 a2 n2 c2, e = .returned (.tuple #[.agg #[.int .i64 A, .slice a1 n1 c1, .slice a2 n2 c2, .int .i64 En], .int .i64 er]) ∧ OfS x w.heap.size A En er a1 n1 c1 a2 n2 c2 w' := by
  rcases h.2 with ⟨h1, rfl⟩ | ⟨h1, b1, b2, F, G, T, D, rfl, h2, h3, h4⟩
  · exact ⟨_, _, _, _, _, _, _, _, _, rfl, .inl ⟨h1, rfl, rfl, rfl, rfl, rfl⟩⟩
  · exact ⟨_, _, _, _, _, _, _, _, _, rfl, .inr ⟨h1, rfl, rfl, rfl, b1, b2, F, G, T, D, rfl, rfl, rfl, rfl, rfl, rfl, h2, h3, h4⟩⟩
theorem OfS.grow {x : Cfg} {lo : Nat} {A En er : Int} {a1 a2 : Option Addr} {n1 c1 n2 c2 : Nat} {w w' : World} (h : OfS x lo A En er a1 n1 c1 a2 n2 c2 w) (hK : Keeps (fun _ => False) w w') : OfS x lo A En er a1 n1 c1 a2 n2 c2 w' := by
  rcases h with h | ⟨h1, h2, h3, h4, b1, b2, F, G, T, D, e1, e2, e3, e4, e5, e6, h5, h6, h7⟩
  · exact .inl h
  · exact .inr ⟨h1, h2, h3, h4, b1, b2, F, G, T, D, e1, e2, e3, e4, e5, e6, h5.kept hK (fun _ h => h.elim) (Nat.le_refl _), h6, h7⟩

def ndE (x : Cfg) : Int := if x.mayB = true then 0 else 150
def ndN (x : Cfg) : Int := if x.mayB = true then rtAt x (rtB x (16 * x.kernel)) x.ps.length / 16 - x.kernel else 0
theorem rt_bound {x : Cfg} (hb : x.mayB = true) : 0 ≤ rtAt x (rtB x (16 * x.kernel)) x.ps.length / 16 ∧ rtAt x (rtB x (16 * x.kernel)) x.ps.length / 16 ≤ 100000 := by
  have hk := Cfg.mayB_iff.1 hb
  have h1 := chAt_bd hb (chB x (16 * x.kernel)) x.hs.length
  have h2 := rtAt_bd x (rtB x (16 * x.kernel)) x.ps.length
  have h3 : 0 ≤ chB x (16 * x.kernel) ∧ chB x (16 * x.kernel) ≤ 21000 := by unfold chB; omega
  have h4 : 0 ≤ rtB x (16 * x.kernel) ∧ rtB x (16 * x.kernel) ≤ 50000 := by unfold rtB fillN chE; split <;> omega
  omega

set_option maxHeartbeats 4000000 in
theorem Need_any (x : Cfg) (w : World) (N : Nat) (hi : x.In w N) (hN : N ≤ w.heap.size) : Calls Try.prog 11 #[x.v] w fun e w' => e = .returned (.tuple #[.int .i64 (ndN x), .int .i64 (ndE x)]) ∧ Keeps (fun _ => False) w w' := by
  obtain ⟨W, hW⟩ : ∃ W, W = x.laid w := ⟨_, rfl⟩
  obtain ⟨C, hC⟩ : ∃ C, C = w.heap.size := ⟨_, rfl⟩
  have HO : Hid (One w x C N W) := by rw [hW, hC]; exact One.mk' hi hN
  clear hi hN
  unfold Cfg.laid at hW
  go_enter Try.func11, Try.ntmps11
  go_upto_region 1 with fail
  rw [← hW, ← hC]
  clear hW hC
  obtain ⟨q0, q1, q2, q3, q4, q5, q6⟩ := HO.out.cells
  have HC1 : Hid (Calls Try.prog 9 #[x.v] W (OfP x W)) := Of_any x W N HO.out.cin HO.out.nn
  go_wp2_with fail
  refine HC1.out.mono ?_
  rintro e w1 hP
  have hK := hP.1
  obtain ⟨A, En, er, a1, n1, c1, a2, n2, c2, rfl, hR⟩ := hP.letters
  obtain ⟨W1, hW1⟩ : ∃ W1, W1 = w1.alloc (.cells #[.int .i64 A, .slice a1 n1 c1, .slice a2 n2 c2, .int .i64 En] 30) := ⟨_, rfl⟩
  obtain ⟨E, hE⟩ : ∃ E, E = w1.heap.size := ⟨_, rfl⟩
  have k1 : Keeps (fun _ => False) w1 W1 := by rw [hW1]; exact (Keeps.refl _ _).alloc _
  have hB1 : Blk W1 E [.int .i64 A, .slice a1 n1 c1, .slice a2 n2 c2, .int .i64 En] 30 := by rw [hW1, hE]; exact Blk.new _ _ _
  have HO1 : Hid (One w x C N W1) := (HO.out.kept hK).kept k1
  have c2' : W1.cell? ⟨C, 2, none⟩ = some (.int .i64 x.kernel) := HO1.out.cfg.cell (i := 2) rfl
  have b3 := hB1.cell (i := 3) rfl
  clear hK HC1 q0 q1 q2 q3 q4 q5 q6 hP k1 hB1
  go_upto_region 2 with fail
  rw [← hW1, ← hE]
  clear hW1 hE
  rcases hR with ⟨h1, rfl, rfl, rfl⟩ | ⟨h1, rfl, rfl, rfl, _⟩
  · have HE : Hid (ndN x = 0 ∧ ndE x = 150) := by unfold ndN ndE; rw [h1]; exact ⟨rfl, rfl⟩
    clear h1
    go_wp2
    go_returns
    exact ⟨by rw [HE.out.1, HE.out.2]; rfl, HO1.out.keeps⟩
  · have HE : Hid (ndN x = rtAt x (rtB x (16 * x.kernel)) x.ps.length / 16 - x.kernel ∧ ndE x = 0) := by unfold ndN ndE; rw [h1]; exact ⟨rfl, rfl⟩
    have hk := Cfg.mayB_iff.1 h1
    have hb := rt_bound h1
    obtain ⟨EN, hEN⟩ : ∃ EN, rtAt x (rtB x (16 * x.kernel)) x.ps.length / 16 = EN := ⟨_, rfl⟩
    rw [hEN] at HE hb b3
    (try rw [hEN])
    have w1' : IntKind.i64.wrap (EN - x.kernel) = EN - x.kernel := by rw [IntKind.wrap_i64]; omega
    clear h1 hk hb hEN
    go_wp2
    go_returns
    exact ⟨by rw [HE.out.1, HE.out.2]; rfl, HO1.out.keeps⟩

set_option maxHeartbeats 4000000 in
theorem rNeed_any (x : Cfg) (w : World) (N : Nat) (hi : x.In w N) (hN : N ≤ w.heap.size) : Calls Try.prog 12 #[x.v] w fun e w' => e = .returned (.tuple #[.int .i64 (ndN x), .int .i64 (ndE x)]) ∧ Keeps (fun _ => False) w w' := by
  obtain ⟨W, hW⟩ : ∃ W, W = x.laid w := ⟨_, rfl⟩
  obtain ⟨C, hC⟩ : ∃ C, C = w.heap.size := ⟨_, rfl⟩
  have HO : Hid (One w x C N W) := by rw [hW, hC]; exact One.mk' hi hN
  clear hi hN
  unfold Cfg.laid at hW
  go_enter Try.func12, Try.ntmps12
  go_upto_region 1 with fail
  rw [← hW, ← hC]
  clear hW hC
  obtain ⟨q0, q1, q2, q3, q4, q5, q6⟩ := HO.out.cells
  have HC1 : Hid (Calls Try.prog 10 #[x.v] W (OfP x W)) := rOf_any x W N HO.out.cin HO.out.nn
  go_wp2_with fail
  refine HC1.out.mono ?_
  rintro e w1 hP
  have hK := hP.1
  obtain ⟨A, En, er, a1, n1, c1, a2, n2, c2, rfl, hR⟩ := hP.letters
  obtain ⟨W1, hW1⟩ : ∃ W1, W1 = w1.alloc (.cells #[.int .i64 A, .slice a1 n1 c1, .slice a2 n2 c2, .int .i64 En] 30) := ⟨_, rfl⟩
  obtain ⟨E, hE⟩ : ∃ E, E = w1.heap.size := ⟨_, rfl⟩
  have k1 : Keeps (fun _ => False) w1 W1 := by rw [hW1]; exact (Keeps.refl _ _).alloc _
  have hB1 : Blk W1 E [.int .i64 A, .slice a1 n1 c1, .slice a2 n2 c2, .int .i64 En] 30 := by rw [hW1, hE]; exact Blk.new _ _ _
  have HO1 : Hid (One w x C N W1) := (HO.out.kept hK).kept k1
  have c2' : W1.cell? ⟨C, 2, none⟩ = some (.int .i64 x.kernel) := HO1.out.cfg.cell (i := 2) rfl
  have b3 := hB1.cell (i := 3) rfl
  clear hK HC1 q0 q1 q2 q3 q4 q5 q6 hP k1 hB1
  go_upto_region 2 with fail
  rw [← hW1, ← hE]
  clear hW1 hE
  rcases hR with ⟨h1, rfl, rfl, rfl⟩ | ⟨h1, rfl, rfl, rfl, _⟩
  · have HE : Hid (ndN x = 0 ∧ ndE x = 150) := by unfold ndN ndE; rw [h1]; exact ⟨rfl, rfl⟩
    clear h1
    go_wp2
    go_returns
    exact ⟨by rw [HE.out.1, HE.out.2]; rfl, HO1.out.keeps⟩
  · have HE : Hid (ndN x = rtAt x (rtB x (16 * x.kernel)) x.ps.length / 16 - x.kernel ∧ ndE x = 0) := by unfold ndN ndE; rw [h1]; exact ⟨rfl, rfl⟩
    have hk := Cfg.mayB_iff.1 h1
    have hb := rt_bound h1
    obtain ⟨EN, hEN⟩ : ∃ EN, rtAt x (rtB x (16 * x.kernel)) x.ps.length / 16 = EN := ⟨_, rfl⟩
    rw [hEN] at HE hb b3
    (try rw [hEN])
    have w1' : IntKind.i64.wrap (EN - x.kernel) = EN - x.kernel := by rw [IntKind.wrap_i64]; omega
    clear h1 hk hb hEN
    go_wp2
    go_returns
    exact ⟨by rw [HE.out.1, HE.out.2]; rfl, HO1.out.keeps⟩

theorem eqd_of {x : Cfg} {a b c : Int} {F F' : Nat → PP} {G G' : Nat → CP} {T T' : Nat → List Int} {D D' : Nat → List Dst}
    (hF : FOK x a b x.ps.length F T) (hG : GOK x c x.hs.length G D) (hF' : FOK x a b x.ps.length F' T') (hG' : GOK x c x.hs.length G' D') : Eqd x.ps.length x.hs.length F F' G G' T T' D D' := by
  constructor
  · intro i hi
    obtain ⟨f1, f2, f3, f4⟩ := hF i hi
    obtain ⟨P, hP, f5, f6⟩ := f4 hi
    obtain ⟨g1, g2, g3, g4⟩ := hF' i hi
    obtain ⟨P', hP', g5, g6⟩ := g4 hi
    obtain rfl : P = P' := by rw [hP] at hP'; exact Option.some.inj hP'
    exact ⟨by rw [f1, g1], by rw [f2, g2], by rw [f3, g3], by rw [f5, g5], by rw [f6, g6]⟩
  · intro i hi
    obtain ⟨s, h, g1, g2, g3, g4, g5, g6, g7⟩ := hG i hi
    obtain ⟨s', h', k1, k2, k3, k4, k5, k6, k7⟩ := hG' i hi
    obtain rfl : h = h' := by rw [g2] at k2; exact Option.some.inj k2
    obtain rfl : s = s' := by rw [g1] at k1; exact (List.cons.inj k1).1
    exact ⟨by rw [g3, k3], by rw [g4, k4], by rw [g5, k5], by rw [g6, k6], by rw [g7, k7]⟩

set_option maxHeartbeats 4000000 in
theorem sameZ_any (A : Int) (a1 a2 a3 a4 : Option Addr) (c1 c2 c3 c4 : Nat) (w : World) : Calls Try.prog 13 #[.agg #[.int .i64 A, .slice a1 0 c1, .slice a2 0 c2, .int .i64 0], .agg #[.int .i64 A, .slice a3 0 c3, .slice a4 0 c4, .int .i64 0]] w fun e w' => e = .returned (.bool true) ∧ Keeps (fun _ => False) w w' := by
  obtain ⟨W, hW⟩ : ∃ W, W = (w.alloc (.cells #[.int .i64 A, .slice a1 0 c1, .slice a2 0 c2, .int .i64 0] 30)).alloc (.cells #[.int .i64 A, .slice a3 0 c3, .slice a4 0 c4, .int .i64 0] 30) := ⟨_, rfl⟩
  obtain ⟨C, hC⟩ : ∃ C, C = w.heap.size := ⟨_, rfl⟩
  have HW : Hid (Keeps (fun _ => False) w W ∧ Blk W C [.int .i64 A, .slice a1 0 c1, .slice a2 0 c2, .int .i64 0] 30 ∧ Blk W (C + 1) [.int .i64 A, .slice a3 0 c3, .slice a4 0 c4, .int .i64 0] 30) := by
    have k : Keeps (fun _ => False) w W := by rw [hW]; exact ((Keeps.refl _ _).alloc _).alloc _
    refine ⟨k, by rw [hW, hC]; exact (Blk.new w _ _).alloc _, ?_⟩
    rw [hW, hC]
    have := Blk.new (w.alloc (.cells #[.int .i64 A, .slice a1 0 c1, .slice a2 0 c2, .int .i64 0] 30)) #[.int .i64 A, .slice a3 0 c3, .slice a4 0 c4, .int .i64 0] 30
    simpa using this
  go_enter Try.func13, Try.ntmps13
  go_upto_region 1 with fail
  rw [← hW, ← hC]
  clear hW hC
  have a0 := HW.out.2.1.cell (i := 0) rfl
  have a1' := HW.out.2.1.cell (i := 1) rfl
  have a2' := HW.out.2.1.cell (i := 2) rfl
  have a3' := HW.out.2.1.cell (i := 3) rfl
  have d0 := HW.out.2.2.cell (i := 0) rfl
  have d1 := HW.out.2.2.cell (i := 1) rfl
  have d2 := HW.out.2.2.cell (i := 2) rfl
  have d3 := HW.out.2.2.cell (i := 3) rfl
  go_wp2
  clear a0 a1' a3' d0 d1 d2 d3
  go_loopw [46] (fun i wr => i = .int .i64 0 ∧ wr = W) (fun i _ => 0)
  case atStart => exact ⟨rfl, rfl⟩
  case round =>
    obtain ⟨rfl, rfl⟩ := hrel
    go_wp2
    go_loopw [116] (fun i wx => i = .int .i64 0 ∧ wx = wr) (fun i _ => 0)
    case atStart => exact ⟨rfl, rfl⟩
    case round =>
      obtain ⟨rfl, rfl⟩ := hrel
      go_wp2
      go_ret
      exact ⟨rfl, HW.out.1⟩

set_option maxHeartbeats 8000000 in
theorem layoutIs_any (x : Cfg) (w : World) (N : Nat) (hi : x.In w N) (hN : N ≤ w.heap.size) :
    Calls Try.prog 3 #[x.v] w fun e w' => e = .returned (.bool true) ∧ Keeps (fun _ => False) w w' := by
  obtain ⟨W, hW⟩ : ∃ W, W = x.laid w := ⟨_, rfl⟩
  obtain ⟨C, hC⟩ : ∃ C, C = w.heap.size := ⟨_, rfl⟩
  have HO : Hid (One w x C N W) := by rw [hW, hC]; exact One.mk' hi hN
  clear hi hN
  unfold Cfg.laid at hW
  go_enter Try.func3, Try.ntmps3
  go_upto_region 1 with fail
  rw [← hW, ← hC]
  clear hW hC
  obtain ⟨q0, q1, q2, q3, q4, q5, q6⟩ := HO.out.cells
  have HC1 : Hid (Calls Try.prog 9 #[x.v] W (OfP x W)) := Of_any x W N HO.out.cin HO.out.nn
  go_wp2_with fail
  refine HC1.out.mono ?_
  rintro e w1 hP
  have hK := hP.1
  obtain ⟨A, En, er, a1, n1, c1, a2, n2, c2, rfl, hR⟩ := hP.letters2
  have HO1 : Hid (One w x C N w1 ∧ OfS x W.heap.size A En er a1 n1 c1 a2 n2 c2 w1) := ⟨HO.out.kept hK, hR⟩
  clear hP hK hR HC1 q0 q1 q2 q3 q4 q5 q6
  obtain ⟨W1, hW1⟩ : ∃ W1, W1 = w1.alloc (.cells #[.int .i64 A, .slice a1 n1 c1, .slice a2 n2 c2, .int .i64 En] 30) := ⟨_, rfl⟩
  obtain ⟨E, hE⟩ : ∃ E, E = w1.heap.size := ⟨_, rfl⟩
  have HW1 : Hid (One w x C N W1 ∧ OfS x W.heap.size A En er a1 n1 c1 a2 n2 c2 W1 ∧ Blk W1 E [.int .i64 A, .slice a1 n1 c1, .slice a2 n2 c2, .int .i64 En] 30) := by
    have k1 : Keeps (fun _ => False) w1 W1 := by rw [hW1]; exact (Keeps.refl _ _).alloc _
    exact ⟨HO1.out.1.kept k1, HO1.out.2.grow k1, by rw [hW1, hE]; exact Blk.new _ _ _⟩
  go_upto_region 2 with fail
  rw [← hW1, ← hE]
  clear hW1 hE HO1
  obtain ⟨q0, q1, q2, q3, q4, q5, q6⟩ := HW1.out.1.cells
  have HC2 : Hid (Calls Try.prog 10 #[x.v] W1 (OfP x W1)) := rOf_any x W1 N HW1.out.1.cin HW1.out.1.nn
  go_wp2_with fail
  refine HC2.out.mono ?_
  rintro e w2 hP
  have hK := hP.1
  obtain ⟨B, Fn, er2, d1, m1, f1, d2, m2, f2, rfl, hR⟩ := hP.letters2
  have HO2 : Hid (One w x C N w2 ∧ OfS x W.heap.size A En er a1 n1 c1 a2 n2 c2 w2 ∧ Blk w2 E [.int .i64 A, .slice a1 n1 c1, .slice a2 n2 c2, .int .i64 En] 30 ∧ OfS x W1.heap.size B Fn er2 d1 m1 f1 d2 m2 f2 w2) := ⟨HW1.out.1.kept hK, HW1.out.2.1.grow hK, HW1.out.2.2.kept hK fun h => h, hR⟩
  clear hP hK hR HC2 q0 q1 q2 q3 q4 q5 q6
  obtain ⟨W3, hW3⟩ : ∃ W3, W3 = w2.alloc (.cells #[.int .i64 B, .slice d1 m1 f1, .slice d2 m2 f2, .int .i64 Fn] 30) := ⟨_, rfl⟩
  obtain ⟨E3, hE3⟩ : ∃ E, E = w2.heap.size := ⟨_, rfl⟩
  have HW3 : Hid (One w x C N W3 ∧ OfS x W.heap.size A En er a1 n1 c1 a2 n2 c2 W3 ∧ Blk W3 E [.int .i64 A, .slice a1 n1 c1, .slice a2 n2 c2, .int .i64 En] 30 ∧ OfS x W1.heap.size B Fn er2 d1 m1 f1 d2 m2 f2 W3 ∧ Blk W3 E3 [.int .i64 B, .slice d1 m1 f1, .slice d2 m2 f2, .int .i64 Fn] 30) := by
    have k1 : Keeps (fun _ => False) w2 W3 := by rw [hW3]; exact (Keeps.refl _ _).alloc _
    exact ⟨HO2.out.1.kept k1, HO2.out.2.1.grow k1, HO2.out.2.2.1.kept k1 fun h => h, HO2.out.2.2.2.grow k1, by rw [hW3, hE3]; exact Blk.new _ _ _⟩
  go_upto_region 3 with fail
  rw [← hW3, ← hE3]
  clear hW3 hE3 HO2 HW1
  obtain ⟨q0, q1, q2, q3, q4, q5, q6⟩ := HW3.out.1.cells
  obtain ⟨NN, hNN⟩ : ∃ v, ndN x = v := ⟨_, rfl⟩
  obtain ⟨NE, hNE⟩ : ∃ v, ndE x = v := ⟨_, rfl⟩
  have HC3 : Hid (Calls Try.prog 11 #[x.v] W3 fun e w' => e = .returned (.tuple #[.int .i64 NN, .int .i64 NE]) ∧ Keeps (fun _ => False) W3 w') := by rw [← hNN, ← hNE]; exact Need_any x W3 N HW3.out.1.cin HW3.out.1.nn
  go_wp2_with fail
  refine HC3.out.mono ?_
  rintro e w4 ⟨rfl, hK4⟩
  have HO4 : Hid (One w x C N w4 ∧ Keeps (fun _ => False) W3 w4) := ⟨HW3.out.1.kept hK4, hK4⟩
  clear hK4 HC3 q0 q1 q2 q3 q4 q5 q6
  obtain ⟨q0, q1, q2, q3, q4, q5, q6⟩ := HO4.out.1.cells
  have HC4 : Hid (Calls Try.prog 12 #[x.v] w4 fun e w' => e = .returned (.tuple #[.int .i64 NN, .int .i64 NE]) ∧ Keeps (fun _ => False) w4 w') := by rw [← hNN, ← hNE]; exact rNeed_any x w4 N HO4.out.1.cin HO4.out.1.nn
  go_wp2_with fail
  refine HC4.out.mono ?_
  rintro e w5 ⟨rfl, hK5⟩
  have k35 : Keeps (fun _ => False) W3 w5 := HO4.out.2.trans hK5 fun _ _ h => h
  obtain ⟨hO, hR1, hB1, hR2, hB2⟩ := HW3.out
  have HO5 : Hid (One w x C N w5) := hO.kept k35
  have s0 := (hB1.kept k35 fun h => h).cell (i := 0) rfl
  have s1 := (hB1.kept k35 fun h => h).cell (i := 1) rfl
  have s2 := (hB1.kept k35 fun h => h).cell (i := 2) rfl
  have s3 := (hB1.kept k35 fun h => h).cell (i := 3) rfl
  have z0 := (hB2.kept k35 fun h => h).cell (i := 0) rfl
  have z1 := (hB2.kept k35 fun h => h).cell (i := 1) rfl
  have z2 := (hB2.kept k35 fun h => h).cell (i := 2) rfl
  have z3 := (hB2.kept k35 fun h => h).cell (i := 3) rfl
  have HSM : Hid (er = er2 ∧ Calls Try.prog 13 #[.agg #[.int .i64 A, .slice a1 n1 c1, .slice a2 n2 c2, .int .i64 En], .agg #[.int .i64 B, .slice d1 m1 f1, .slice d2 m2 f2, .int .i64 Fn]] w5 fun e w' => e = .returned (.bool true) ∧ Keeps (fun _ => False) w5 w') := by
    have r1 := hR1.grow k35
    have r2 := hR2.grow k35
    rcases r1 with ⟨h1, rfl, rfl, rfl, rfl, rfl⟩ | ⟨h1, rfl, rfl, rfl, b1, b2, F, G, T, D, rfl, rfl, rfl, rfl, rfl, rfl, hLD, hF, hG⟩
    · rcases r2 with ⟨_, rfl, rfl, rfl, rfl, rfl⟩ | ⟨h2, _⟩
      · exact ⟨rfl, sameZ_any 0 _ _ _ _ _ _ _ _ w5⟩
      · rw [h1] at h2; cases h2
    · rcases r2 with ⟨h2, _⟩ | ⟨_, rfl, rfl, rfl, b1', b2', F', G', T', D', rfl, rfl, rfl, rfl, rfl, rfl, hLD', hF', hG'⟩
      · rw [h1] at h2; cases h2
      · have hk := Cfg.mayB_iff.1 h1
        exact ⟨rfl, sameL_any x.ps.length x.hs.length b1 b2 b1' b2' F F' G G' T T' D D' _ _ w5 hLD.duo hLD'.duo (eqd_of hF hG hF' hG') hk.2.2.1 hk.2.2.2.1⟩
  obtain ⟨e12, hsm⟩ := HSM.out
  subst e12
  have HSM2 : Hid (Calls _ _ _ _ _) := hsm
  clear HSM hsm hO hR1 hB1 hR2 hB2 k35 hK5 HC4 q0 q1 q2 q3 q4 q5 q6 HW3 HO4 hNN hNE
  go_wp2_with fail
  refine HSM2.out.mono ?_
  rintro e w6 ⟨rfl, hK6⟩
  have HK : Hid (Keeps (fun _ => False) w w6) := HO5.out.keeps.trans hK6 fun _ _ h => h
  clear hK6 s0 s1 s2 s3 z0 z1 z2 z3
  go_wp2
  go_ret
  exact ⟨rfl, HK.out⟩

end Go.Proofs.Ythaoopaafdgioaa
