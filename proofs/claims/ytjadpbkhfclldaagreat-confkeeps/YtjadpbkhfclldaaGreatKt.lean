import Derived.Test.YtjadpbkhfclldaaGreatCn
import Derived.Deep.RegionHeld2
namespace Go.Proofs.YtjadpbkhfclldaaGreat
open Go.RowKit
set_option linter.unusedVariables false
set_option maxRecDepth 6000

structure PPar where
  name : ByteArray
  entry : Int
  action : Int
  restarts : Int
  inputs : Int
  outputs : Int
  rs : List Rgn
  ps : List Prt
structure PCfg where
  frames : Int
  major : Int
  kernel : Int
  room : Int
  cs : List (List Win)
  ps : List PPar
  hs : List Chn
def Par.pure (x : Par) : PPar := ⟨x.name, x.entry, x.action, x.restarts, x.inputs, x.outputs, x.rs, x.ps⟩
def Cfg.pure (x : Cfg) : PCfg := ⟨x.frames, x.major, x.kernel, x.room, x.cs.map Core.ws, x.ps.map Par.pure, x.hs⟩


set_option maxHeartbeats 1000000 in
theorem sameWindows_eq (a1 a2 : Option Addr) (c1 c2 : Nat) (l : List Win) (w : World) (h1 : SegA Win.vs 3 w a1 l) (h2 : SegA Win.vs 3 w a2 l) (hl1 : l.length ≤ c1 ∧ c1 ≤ maxLen) (hl2 : l.length ≤ c2 ∧ c2 ≤ maxLen) :
    Calls Tryz.prog 48 #[.slice a1 l.length c1, .slice a2 l.length c2] w fun e w' => e = .returned (.bool true) ∧ Keeps (fun _ => False) w w' := by
  obtain ⟨L, hL⟩ : ∃ L, l.length = L := ⟨_, rfl⟩
  have HS : Hid (SegA Win.vs 3 w a1 l ∧ SegA Win.vs 3 w a2 l ∧ l.length = L) := ⟨h1, h2, hL⟩
  rw [hL] at hl1 hl2 ⊢
  have hc1 : (L : Int) ≤ c1 := by omega
  have hc2 : (L : Int) ≤ c2 := by omega
  have hc3 : (c1 : Int) ≤ 9223372036854775807 := by unfold maxLen at hl1; omega
  clear h1 h2 hL hl1 hl2
  go_enter Tryz.func48, Tryz.ntmps48
  go_wp2
  go_loopw [13] (fun i wr => ∃ j : Nat, j ≤ L ∧ i = .int .i64 j ∧ Keeps (fun _ => False) w wr) (fun i _ => L - (intOf i).toNat)
  case atStart => exact ⟨0, by omega, rfl, Keeps.refl _ _⟩
  case round =>
    obtain ⟨j, hj, rfl, hK⟩ := hrel
    by_cases hlt : j < L
    · obtain ⟨y, hy⟩ : ∃ y, l[j]? = some y := ⟨_, List.getElem?_eq_getElem (by have := HS.out.2.2; omega)⟩
      obtain ⟨g1, o1, rfl, hg1⟩ := (HS.out.1.kept hK fun _ _ _ e => e).at hy
      obtain ⟨g2, o2, rfl, hg2⟩ := (HS.out.2.1.kept hK fun _ _ _ e => e).at hy
      have y0 := hg1 0 _ rfl
      rw [Nat.add_zero] at y0
      have y1 := hg1 1 _ rfl
      have y2 := hg1 2 _ rfl
      have x0 := hg2 0 _ rfl
      rw [Nat.add_zero] at x0
      have x1 := hg2 1 _ rfl
      have x2 := hg2 2 _ rfl
      have HK : Hid (Keeps (fun _ => False) w wr) := hK
      clear hy hg1 hg2 hK
      obtain ⟨p, u, s⟩ := y
      go_wp2
      go_quiet (fail)
      clear y0 y1 y2 x0 x1 x2
      go_wp2
      go_roundw
      case rel => exact ⟨j + 1, by omega, by go_num, HK.out.drewN _⟩
      case measure => simp [intOf]; omega
    · obtain rfl : j = L := by omega
      have HK : Hid (Keeps (fun _ => False) w wr) := hK
      clear hK
      go_wp2
      go_ret
      exact ⟨rfl, HK.out⟩

set_option maxHeartbeats 4000000 in
theorem samePartition_eq (x y : Par) (w : World) (hp : x.pure = y.pure) (h1 : x.Ok w) (h2 : y.Ok w) :
    Calls Tryz.prog 24 #[x.v, y.v] w fun e w' => e = .returned (.bool true) ∧ Keeps (fun _ => False) w w' := by
  obtain ⟨s, n1, n2, n3, n4, n5, ra1, rc1, rs, pa1, pc1, ps⟩ := x
  obtain ⟨s', n1', n2', n3', n4', n5', ra2, rc2, rs', pa2, pc2, ps'⟩ := y
  simp only [Par.pure, PPar.mk.injEq] at hp
  obtain ⟨rfl, rfl, rfl, rfl, rfl, rfl, rfl, rfl⟩ := hp
  obtain ⟨L1, hL1⟩ : ∃ L, rs.length = L := ⟨_, rfl⟩
  obtain ⟨L2, hL2⟩ : ∃ L, ps.length = L := ⟨_, rfl⟩
  have HS : Hid (SegA Rgn.vs 4 w ra1 rs ∧ SegA Rgn.vs 4 w ra2 rs ∧ SegA Prt.vs 2 w pa1 ps ∧ SegA Prt.vs 2 w pa2 ps ∧ rs.length = L1 ∧ ps.length = L2) := ⟨h1.rseg, h2.rseg, h1.pseg, h2.pseg, hL1, hL2⟩
  have hr1 := h1.rlen
  have hr2 := h2.rlen
  have hp1 := h1.plen
  have hp2 := h2.plen
  simp only [hL1, hL2] at hr1 hr2 hp1 hp2
  simp only [Par.v, hL1, hL2]
  have d1 : (L1 : Int) ≤ rc1 := by omega
  have d2 : (L1 : Int) ≤ rc2 := by omega
  have d3 : (L2 : Int) ≤ pc1 := by omega
  have d4 : (L2 : Int) ≤ pc2 := by omega
  have d5 : (rc1 : Int) ≤ 9223372036854775807 := by unfold maxLen at hr1; omega
  have d6 : (pc1 : Int) ≤ 9223372036854775807 := by unfold maxLen at hp1; omega
  clear h1 h2 hL1 hL2 hr1 hr2 hp1 hp2
  obtain ⟨C, hC⟩ : ∃ C, C = w.heap.size := ⟨_, rfl⟩
  obtain ⟨W, hWd⟩ : ∃ W, W = (w.alloc (.cells #[.string s, .int .i64 n1, .int .i64 n2, .int .i64 n3, .int .i64 n4, .int .i64 n5, .slice ra1 L1 rc1, .slice pa1 L2 pc1] 47)).alloc (.cells #[.string s, .int .i64 n1, .int .i64 n2, .int .i64 n3, .int .i64 n4, .int .i64 n5, .slice ra2 L1 rc2, .slice pa2 L2 pc2] 47) := ⟨_, rfl⟩
  have HW : Hid (Blk W C [.string s, .int .i64 n1, .int .i64 n2, .int .i64 n3, .int .i64 n4, .int .i64 n5, .slice ra1 L1 rc1, .slice pa1 L2 pc1] 47 ∧ Blk W (C + 1) [.string s, .int .i64 n1, .int .i64 n2, .int .i64 n3, .int .i64 n4, .int .i64 n5, .slice ra2 L1 rc2, .slice pa2 L2 pc2] 47 ∧ Keeps (fun _ => False) w W) := by
    rw [hWd, hC]
    refine ⟨(Blk.new w _ _).alloc _, ?_, ((Keeps.refl _ w).alloc _).alloc _⟩
    have := Blk.new (w.alloc (.cells #[.string s, .int .i64 n1, .int .i64 n2, .int .i64 n3, .int .i64 n4, .int .i64 n5, .slice ra1 L1 rc1, .slice pa1 L2 pc1] 47)) #[.string s, .int .i64 n1, .int .i64 n2, .int .i64 n3, .int .i64 n4, .int .i64 n5, .slice ra2 L1 rc2, .slice pa2 L2 pc2] 47
    simpa using this
  have HK0 : Hid (Keeps (fun _ => False) W W) := Keeps.refl _ W
  go_enter Tryz.func24, Tryz.ntmps24
  go_wp2
  rw [← hWd, ← hC]
  clear hWd hC
  go_loopw [71] (fun i wr => ∃ j : Nat, j ≤ L1 ∧ i = .int .i64 j ∧ Keeps (fun _ => False) W wr) (fun i _ => L1 - (intOf i).toNat)
  case atStart => exact ⟨0, by omega, rfl, HK0.out⟩
  case round =>
    obtain ⟨j, hj, rfl, hK⟩ := hrel
    have b1 := (HW.out.1.kept hK fun e => e).cell (i := 6) rfl
    have b2 := (HW.out.2.1.kept hK fun e => e).cell (i := 6) rfl
    by_cases hlt : j < L1
    · obtain ⟨y, hy⟩ : ∃ y, rs[j]? = some y := ⟨_, List.getElem?_eq_getElem (by have := HS.out; omega)⟩
      have hg1 := ((HS.out.1.kept HW.out.2.2 fun _ _ _ e => e).kept hK fun _ _ _ e => e).at hy
      have hg2 := ((HS.out.2.1.kept HW.out.2.2 fun _ _ _ e => e).kept hK fun _ _ _ e => e).at hy
      obtain ⟨g1, o1, ha1, hg1⟩ := hg1
      obtain ⟨g2, o2, ha2, hg2⟩ := hg2
      rw [ha1] at b1
      rw [ha2] at b2
      have y0 := hg1 0 _ rfl
      rw [Nat.add_zero] at y0
      have y1 := hg1 1 _ rfl
      have y2 := hg1 2 _ rfl
      have y3 := hg1 3 _ rfl
      have x0 := hg2 0 _ rfl
      rw [Nat.add_zero] at x0
      have x1 := hg2 1 _ rfl
      have x2 := hg2 2 _ rfl
      have x3 := hg2 3 _ rfl
      have HK : Hid (Keeps (fun _ => False) W wr) := hK
      clear hy hg1 hg2 hK ha1 ha2
      obtain ⟨p, u, s, t⟩ := y
      go_wp2
      go_quiet (fail)
      clear y0 x0 y1 x1 y2 x2 y3 x3 b1 b2
      go_wp2
      go_roundw
      case rel => exact ⟨j + 1, by omega, by go_num, HK.out.drewN _⟩
      case measure => simp [intOf]; omega
    · obtain rfl : j = L1 := by omega
      have HK1 : Hid (Keeps (fun _ => False) W wr) := hK
      have e1 := (HW.out.1.kept hK fun e => e).cell (i := 7) rfl
      clear hK b1 b2 HK0
      go_wp2
      have HK0 : Hid (Keeps (fun _ => False) W wr) := HK1.out
      clear HK1 e1
      go_loopw [89] (fun i wr => ∃ j : Nat, j ≤ L2 ∧ i = .int .i64 j ∧ Keeps (fun _ => False) W wr) (fun i _ => L2 - (intOf i).toNat)
      case atStart => exact ⟨0, by omega, rfl, HK0.out⟩
      case round =>
        obtain ⟨j, hj, rfl, hK⟩ := hrel
        have b1 := (HW.out.1.kept hK fun e => e).cell (i := 7) rfl
        have b2 := (HW.out.2.1.kept hK fun e => e).cell (i := 7) rfl
        by_cases hlt : j < L2
        · obtain ⟨y, hy⟩ : ∃ y, ps[j]? = some y := ⟨_, List.getElem?_eq_getElem (by have := HS.out; omega)⟩
          have hg1 := ((HS.out.2.2.1.kept HW.out.2.2 fun _ _ _ e => e).kept hK fun _ _ _ e => e).at hy
          have hg2 := ((HS.out.2.2.2.1.kept HW.out.2.2 fun _ _ _ e => e).kept hK fun _ _ _ e => e).at hy
          obtain ⟨g1, o1, ha1, hg1⟩ := hg1
          obtain ⟨g2, o2, ha2, hg2⟩ := hg2
          rw [ha1] at b1
          rw [ha2] at b2
          have y0 := hg1 0 _ rfl
          rw [Nat.add_zero] at y0
          have y1 := hg1 1 _ rfl
          have x0 := hg2 0 _ rfl
          rw [Nat.add_zero] at x0
          have x1 := hg2 1 _ rfl
          have HK : Hid (Keeps (fun _ => False) W wr) := hK
          clear hy hg1 hg2 hK ha1 ha2
          obtain ⟨p, s⟩ := y
          go_wp2
          go_quiet (fail)
          clear y0 x0 y1 x1 b1 b2
          go_wp2
          go_roundw
          case rel => exact ⟨j + 1, by omega, by go_num, HK.out.drewN _⟩
          case measure => simp [intOf]; omega
        · obtain rfl : j = L2 := by omega
          have HK1 : Hid (Keeps (fun _ => False) W wr) := hK
          clear hK b1 b2 HK0
          go_wp2
          go_ret
          exact ⟨rfl, HW.out.2.2.trans HK1.out fun _ _ e => e⟩

end Go.Proofs.YtjadpbkhfclldaaGreat
namespace Go.Proofs.YtjadpbkhfclldaaGreat
open Go.RowKit
set_option linter.unusedVariables false
set_option maxRecDepth 6000

structure Cfg.Ok (x : Cfg) (w : World) : Prop where
  cseg : SegA Core.vs 1 w x.ca x.cs
  clen : x.cs.length ≤ x.cc ∧ x.cc ≤ maxLen
  cok : ∀ c ∈ x.cs, c.Ok w
  pseg : SegA Par.vs 8 w x.pa x.ps
  plen : x.ps.length ≤ x.pc ∧ x.pc ≤ maxLen
  pok : ∀ c ∈ x.ps, c.Ok w
  hseg : SegA Chn.vs 3 w x.ha x.hs
  hlen : x.hs.length ≤ x.hc ∧ x.hc ≤ maxLen
theorem Core.In.ok {x : Core} {w : World} {N : Nat} (h : x.In w N) : x.Ok w := ⟨h.seg, h.len, h.fine⟩
theorem Par.In.ok {x : Par} {w : World} {N : Nat} (h : x.In w N) : x.Ok w := ⟨h.rseg, h.rlen, h.rfine, h.pseg, h.plen, h.pfine, h.ns, h.name⟩
theorem Cfg.In.ok {x : Cfg} {w : World} {N : Nat} (h : x.In w N) : x.Ok w := ⟨h.cseg, h.clen, fun c hc => (h.cin c hc).ok, h.pseg, h.plen, fun c hc => (h.pin c hc).ok, h.hseg, h.hlen⟩
theorem Core.Ok.grown {x : Core} {w w' : World} (h : x.Ok w) (hK : Keeps (fun _ => False) w w') : x.Ok w' := ⟨h.seg.kept hK fun _ _ _ e => e, h.len, h.fine⟩
theorem Par.Ok.grown {x : Par} {w w' : World} (h : x.Ok w) (hK : Keeps (fun _ => False) w w') : x.Ok w' := ⟨h.rseg.kept hK fun _ _ _ e => e, h.rlen, h.rfine, h.pseg.kept hK fun _ _ _ e => e, h.plen, h.pfine, h.ns, h.name⟩
theorem Cfg.Ok.grown {x : Cfg} {w w' : World} (h : x.Ok w) (hK : Keeps (fun _ => False) w w') : x.Ok w' :=
  ⟨h.cseg.kept hK fun _ _ _ e => e, h.clen, fun c hc => (h.cok c hc).grown hK, h.pseg.kept hK fun _ _ _ e => e, h.plen, fun c hc => (h.pok c hc).grown hK, h.hseg.kept hK fun _ _ _ e => e, h.hlen⟩
theorem map_at {α β : Type} (f : α → β) {xs ys : List α} (h : xs.map f = ys.map f) {j : Nat} {x : α} (hx : xs[j]? = some x) : ∃ y, ys[j]? = some y ∧ f x = f y := by
  have h1 : (xs.map f)[j]? = some (f x) := by simp [hx]
  rw [h] at h1
  rw [List.getElem?_map] at h1
  cases hy : ys[j]? with
  | none => rw [hy] at h1; cases h1
  | some y => rw [hy] at h1; exact ⟨y, rfl, (Option.some.inj h1).symm⟩

theorem coreSame (x y : Core) (w : World) (h : x.ws = y.ws) (h1 : x.Ok w) (h2 : y.Ok w) : Calls Tryz.prog 48 #[x.v, y.v] w fun e w' => e = .returned (.bool true) ∧ Keeps (fun _ => False) w w' := by
  obtain ⟨a, c, ws⟩ := x
  obtain ⟨a', c', ws'⟩ := y
  simp only at h
  subst h
  exact sameWindows_eq a a' c c' ws w h1.seg h2.seg h1.len h2.len

set_option maxHeartbeats 4000000 in
theorem same_eq (x y : Cfg) (w : World) (hp : x.pure = y.pure) (h1 : x.Ok w) (h2 : y.Ok w) :
    Calls Tryz.prog 22 #[x.v, y.v] w fun e w' => e = .returned (.bool true) ∧ Keeps (fun _ => False) w w' := by
  obtain ⟨n1, n2, n3, n4, ca1, cc1, cs, pa1, pc1, ps, ha1, kc1, hs⟩ := x
  obtain ⟨n1', n2', n3', n4', ca2, cc2, cs', pa2, pc2, ps', ha2, kc2, hs'⟩ := y
  simp only [Cfg.pure, PCfg.mk.injEq] at hp
  obtain ⟨rfl, rfl, rfl, rfl, hcs, hps, rfl⟩ := hp
  obtain ⟨L1, hL1⟩ : ∃ L, cs.length = L := ⟨_, rfl⟩
  obtain ⟨L2, hL2⟩ : ∃ L, ps.length = L := ⟨_, rfl⟩
  obtain ⟨L3, hL3⟩ : ∃ L, hs.length = L := ⟨_, rfl⟩
  have hL1' : cs'.length = L1 := by have := congrArg List.length hcs; simp only [List.length_map] at this; omega
  have hL2' : ps'.length = L2 := by have := congrArg List.length hps; simp only [List.length_map] at this; omega
  have HS : Hid (cs.length = L1 ∧ ps.length = L2 ∧ hs.length = L3 ∧ cs'.length = L1 ∧ ps'.length = L2) := ⟨hL1, hL2, hL3, hL1', hL2'⟩
  have HM4 : Hid (cs.map Core.ws = cs'.map Core.ws) := hcs
  have HM5 : Hid (ps.map Par.pure = ps'.map Par.pure) := hps
  have hc1 := h1.clen
  have hc2 := h2.clen
  have hp1 := h1.plen
  have hp2 := h2.plen
  have hh1 := h1.hlen
  have hh2 := h2.hlen
  simp only [hL1, hL2, hL3, hL1', hL2'] at hc1 hc2 hp1 hp2 hh1 hh2
  simp only [Cfg.v, hL1, hL2, hL3, hL1', hL2']
  have d1 : (L1 : Int) ≤ cc1 := by omega
  have d2 : (L1 : Int) ≤ cc2 := by omega
  have d3 : (L2 : Int) ≤ pc1 := by omega
  have d4 : (L2 : Int) ≤ pc2 := by omega
  have d5 : (L3 : Int) ≤ kc1 := by omega
  have d6 : (L3 : Int) ≤ kc2 := by omega
  have d7 : (cc1 : Int) ≤ 9223372036854775807 := by unfold maxLen at hc1; omega
  have d8 : (pc1 : Int) ≤ 9223372036854775807 := by unfold maxLen at hp1; omega
  have d9 : (kc1 : Int) ≤ 9223372036854775807 := by unfold maxLen at hh1; omega
  obtain ⟨C, hC⟩ : ∃ C, C = w.heap.size := ⟨_, rfl⟩
  obtain ⟨W, hWd⟩ : ∃ W, W = (w.alloc (.cells #[.int .i64 n1, .int .i64 n2, .int .i64 n3, .int .i64 n4, .slice ca1 L1 cc1, .slice pa1 L2 pc1, .slice ha1 L3 kc1] 26)).alloc (.cells #[.int .i64 n1, .int .i64 n2, .int .i64 n3, .int .i64 n4, .slice ca2 L1 cc2, .slice pa2 L2 pc2, .slice ha2 L3 kc2] 26) := ⟨_, rfl⟩
  have HW : Hid (Blk W C [.int .i64 n1, .int .i64 n2, .int .i64 n3, .int .i64 n4, .slice ca1 L1 cc1, .slice pa1 L2 pc1, .slice ha1 L3 kc1] 26 ∧ Blk W (C + 1) [.int .i64 n1, .int .i64 n2, .int .i64 n3, .int .i64 n4, .slice ca2 L1 cc2, .slice pa2 L2 pc2, .slice ha2 L3 kc2] 26 ∧ Keeps (fun _ => False) w W) := by
    rw [hWd, hC]
    refine ⟨(Blk.new w _ _).alloc _, ?_, ((Keeps.refl _ w).alloc _).alloc _⟩
    have := Blk.new (w.alloc (.cells #[.int .i64 n1, .int .i64 n2, .int .i64 n3, .int .i64 n4, .slice ca1 L1 cc1, .slice pa1 L2 pc1, .slice ha1 L3 kc1] 26)) #[.int .i64 n1, .int .i64 n2, .int .i64 n3, .int .i64 n4, .slice ca2 L1 cc2, .slice pa2 L2 pc2, .slice ha2 L3 kc2] 26
    simpa using this
  have HO : Hid (Cfg.Ok ⟨n1, n2, n3, n4, ca1, cc1, cs, pa1, pc1, ps, ha1, kc1, hs⟩ W ∧ Cfg.Ok ⟨n1, n2, n3, n4, ca2, cc2, cs', pa2, pc2, ps', ha2, kc2, hs⟩ W) := ⟨h1.grown HW.out.2.2, h2.grown HW.out.2.2⟩
  have HK0 : Hid (Keeps (fun _ => False) W W) := Keeps.refl _ W
  clear h1 h2 hL1 hL2 hL3 hL1' hL2' hcs hps hc1 hc2 hp1 hp2 hh1 hh2
  go_enter Tryz.func22, Tryz.ntmps22
  go_wp2
  rw [← hWd, ← hC]
  clear hWd hC
  go_loopw [62] (fun i wr => ∃ j : Nat, j ≤ L1 ∧ i = .int .i64 j ∧ Keeps (fun _ => False) W wr) (fun i _ => L1 - (intOf i).toNat)
  case atStart => exact ⟨0, by omega, rfl, HK0.out⟩
  case round =>
    obtain ⟨j, hj, rfl, hK⟩ := hrel
    by_cases hlt : j < L1
    · obtain ⟨y1, hy1⟩ : ∃ y, cs[j]? = some y := ⟨_, List.getElem?_eq_getElem (by have := HS.out; omega)⟩
      obtain ⟨y2, hy2, hyy⟩ := map_at Core.ws HM4.out hy1
      have hq1 := HO.out.1.cseg.at hy1
      have hq2 := HO.out.2.cseg.at hy2
      obtain ⟨g1, o1, ha1, hg1⟩ := hq1
      obtain ⟨g2, o2, ha2, hg2⟩ := hq2
      simp only at ha1 ha2
      subst ha1
      subst ha2
      have HSS : Hid (∀ w', Keeps (fun _ => False) W w' → (fun w' => w'.cell? ⟨C, 4, none⟩ = some (.slice (some ⟨g1, o1, none⟩) L1 cc1) ∧ w'.cell? ⟨C + 1, 4, none⟩ = some (.slice (some ⟨g2, o2, none⟩) L1 cc2) ∧ w'.cell? ⟨g1, o1 + j, none⟩ = some (.slice y1.a y1.ws.length y1.c) ∧ w'.cell? ⟨g2, o2 + j, none⟩ = some (.slice y2.a y2.ws.length y2.c)) w') := by
        intro w' hK'
        have e1 := (HO.out.1.cseg.kept hK' fun _ _ _ e => e).at hy1
        have e2 := (HO.out.2.cseg.kept hK' fun _ _ _ e => e).at hy2
        obtain ⟨_, _, ea1, e1⟩ := e1
        obtain ⟨_, _, ea2, e2⟩ := e2
        cases ea1
        cases ea2
        exact ⟨(HW.out.1.kept hK' fun e => e).cell (i := 4) rfl, (HW.out.2.1.kept hK' fun e => e).cell (i := 4) rfl, by have := e1 0 _ rfl; rw [Nat.mul_one] at this; exact this, by have := e2 0 _ rfl; rw [Nat.mul_one] at this; exact this⟩
      have HCC : Hid (∀ w', Keeps (fun _ => False) W w' → Calls Tryz.prog 48 #[y1.v, y2.v] w' fun e w'' => e = .returned (.bool true) ∧ Keeps (fun _ => False) w' w'') := fun w' hK' => coreSame y1 y2 w' hyy ((HO.out.1.cok y1 (List.mem_of_getElem? hy1)).grown hK') ((HO.out.2.cok y2 (List.mem_of_getElem? hy2)).grown hK')
      have HK : Hid (Keeps (fun _ => False) W wr) := hK
      clear hy1 hy2 hyy hg1 hg2 hK
      have hS0 := HSS.out wr.drew HK.out.drew
      go_wp2
      go_region_held2 (fun w' => w'.cell? ⟨C, 4, none⟩ = some (.slice (some ⟨g1, o1, none⟩) L1 cc1) ∧ w'.cell? ⟨C + 1, 4, none⟩ = some (.slice (some ⟨g2, o2, none⟩) L1 cc2) ∧ w'.cell? ⟨g1, o1 + j, none⟩ = some (.slice y1.a y1.ws.length y1.c) ∧ w'.cell? ⟨g2, o2 + j, none⟩ = some (.slice y2.a y2.ws.length y2.c)) (first | exact hS0 | exact hS)
        (first | (go_at_call 48; refine (HCC.out _ HK.out.drew).mono ?_; rintro e w3 ⟨rfl, hK3⟩; have hS := HSS.out w3 (HK.out.drew.trans hK3 fun _ _ e => e)))
      have HK3 : Hid (Keeps (fun _ => False) W w3) := HK.out.drew.trans hK3 fun _ _ e => e
      clear hS0 hS hK3 HSS HCC HK
      go_wp2
      go_roundw
      case rel => exact ⟨j + 1, by omega, by go_num, HK3.out⟩
      case measure => simp [intOf]; omega
    · obtain rfl : j = L1 := by omega
      have HK1 : Hid (Keeps (fun _ => False) W wr) := hK
      have e1 := (HW.out.1.kept hK fun e => e).cell (i := 5) rfl
      clear hK HK0
      go_wp2
      have HK0 : Hid (Keeps (fun _ => False) W wr) := HK1.out
      clear HK1 e1
      go_loopw [81] (fun i wr => ∃ j : Nat, j ≤ L2 ∧ i = .int .i64 j ∧ Keeps (fun _ => False) W wr) (fun i _ => L2 - (intOf i).toNat)
      case atStart => exact ⟨0, by omega, rfl, HK0.out⟩
      case round =>
        obtain ⟨j, hj, rfl, hK⟩ := hrel
        by_cases hlt : j < L2
        · obtain ⟨y1, hy1⟩ : ∃ y, ps[j]? = some y := ⟨_, List.getElem?_eq_getElem (by have := HS.out; omega)⟩
          obtain ⟨y2, hy2, hyy⟩ := map_at Par.pure HM5.out hy1
          have hq1 := HO.out.1.pseg.at hy1
          have hq2 := HO.out.2.pseg.at hy2
          obtain ⟨g1, o1, ha1, hg1⟩ := hq1
          obtain ⟨g2, o2, ha2, hg2⟩ := hq2
          simp only at ha1 ha2
          subst ha1
          subst ha2
          have HSS : Hid (∀ w', Keeps (fun _ => False) W w' → (fun w' => w'.cell? ⟨C, 5, none⟩ = some (.slice (some ⟨g1, o1, none⟩) L2 pc1) ∧ w'.cell? ⟨C + 1, 5, none⟩ = some (.slice (some ⟨g2, o2, none⟩) L2 pc2) ∧ w'.cell? ⟨g1, o1 + j * 8, none⟩ = some (.string y1.name) ∧ w'.cell? ⟨g1, o1 + j * 8 + 1, none⟩ = some (.int .i64 y1.entry) ∧ w'.cell? ⟨g1, o1 + j * 8 + 2, none⟩ = some (.int .i64 y1.action) ∧ w'.cell? ⟨g1, o1 + j * 8 + 3, none⟩ = some (.int .i64 y1.restarts) ∧ w'.cell? ⟨g1, o1 + j * 8 + 4, none⟩ = some (.int .i64 y1.inputs) ∧ w'.cell? ⟨g1, o1 + j * 8 + 5, none⟩ = some (.int .i64 y1.outputs) ∧ w'.cell? ⟨g1, o1 + j * 8 + 6, none⟩ = some (.slice y1.ra y1.rs.length y1.rc) ∧ w'.cell? ⟨g1, o1 + j * 8 + 7, none⟩ = some (.slice y1.pa y1.ps.length y1.pc) ∧ w'.cell? ⟨g2, o2 + j * 8, none⟩ = some (.string y2.name) ∧ w'.cell? ⟨g2, o2 + j * 8 + 1, none⟩ = some (.int .i64 y2.entry) ∧ w'.cell? ⟨g2, o2 + j * 8 + 2, none⟩ = some (.int .i64 y2.action) ∧ w'.cell? ⟨g2, o2 + j * 8 + 3, none⟩ = some (.int .i64 y2.restarts) ∧ w'.cell? ⟨g2, o2 + j * 8 + 4, none⟩ = some (.int .i64 y2.inputs) ∧ w'.cell? ⟨g2, o2 + j * 8 + 5, none⟩ = some (.int .i64 y2.outputs) ∧ w'.cell? ⟨g2, o2 + j * 8 + 6, none⟩ = some (.slice y2.ra y2.rs.length y2.rc) ∧ w'.cell? ⟨g2, o2 + j * 8 + 7, none⟩ = some (.slice y2.pa y2.ps.length y2.pc)) w') := by
            intro w' hK'
            have e1 := (HO.out.1.pseg.kept hK' fun _ _ _ e => e).at hy1
            have e2 := (HO.out.2.pseg.kept hK' fun _ _ _ e => e).at hy2
            obtain ⟨_, _, ea1, e1⟩ := e1
            obtain ⟨_, _, ea2, e2⟩ := e2
            cases ea1
            cases ea2
            exact ⟨(HW.out.1.kept hK' fun e => e).cell (i := 5) rfl, (HW.out.2.1.kept hK' fun e => e).cell (i := 5) rfl, e1 0 _ rfl, e1 1 _ rfl, e1 2 _ rfl, e1 3 _ rfl, e1 4 _ rfl, e1 5 _ rfl, e1 6 _ rfl, e1 7 _ rfl, e2 0 _ rfl, e2 1 _ rfl, e2 2 _ rfl, e2 3 _ rfl, e2 4 _ rfl, e2 5 _ rfl, e2 6 _ rfl, e2 7 _ rfl⟩
          have HCC : Hid (∀ w', Keeps (fun _ => False) W w' → Calls Tryz.prog 24 #[y1.v, y2.v] w' fun e w'' => e = .returned (.bool true) ∧ Keeps (fun _ => False) w' w'') := fun w' hK' => samePartition_eq y1 y2 w' hyy ((HO.out.1.pok y1 (List.mem_of_getElem? hy1)).grown hK') ((HO.out.2.pok y2 (List.mem_of_getElem? hy2)).grown hK')
          have HK : Hid (Keeps (fun _ => False) W wr) := hK
          clear hy1 hy2 hyy hg1 hg2 hK
          have hS0 := HSS.out wr.drew HK.out.drew
          go_wp2
          go_region_held2 (fun w' => w'.cell? ⟨C, 5, none⟩ = some (.slice (some ⟨g1, o1, none⟩) L2 pc1) ∧ w'.cell? ⟨C + 1, 5, none⟩ = some (.slice (some ⟨g2, o2, none⟩) L2 pc2) ∧ w'.cell? ⟨g1, o1 + j * 8, none⟩ = some (.string y1.name) ∧ w'.cell? ⟨g1, o1 + j * 8 + 1, none⟩ = some (.int .i64 y1.entry) ∧ w'.cell? ⟨g1, o1 + j * 8 + 2, none⟩ = some (.int .i64 y1.action) ∧ w'.cell? ⟨g1, o1 + j * 8 + 3, none⟩ = some (.int .i64 y1.restarts) ∧ w'.cell? ⟨g1, o1 + j * 8 + 4, none⟩ = some (.int .i64 y1.inputs) ∧ w'.cell? ⟨g1, o1 + j * 8 + 5, none⟩ = some (.int .i64 y1.outputs) ∧ w'.cell? ⟨g1, o1 + j * 8 + 6, none⟩ = some (.slice y1.ra y1.rs.length y1.rc) ∧ w'.cell? ⟨g1, o1 + j * 8 + 7, none⟩ = some (.slice y1.pa y1.ps.length y1.pc) ∧ w'.cell? ⟨g2, o2 + j * 8, none⟩ = some (.string y2.name) ∧ w'.cell? ⟨g2, o2 + j * 8 + 1, none⟩ = some (.int .i64 y2.entry) ∧ w'.cell? ⟨g2, o2 + j * 8 + 2, none⟩ = some (.int .i64 y2.action) ∧ w'.cell? ⟨g2, o2 + j * 8 + 3, none⟩ = some (.int .i64 y2.restarts) ∧ w'.cell? ⟨g2, o2 + j * 8 + 4, none⟩ = some (.int .i64 y2.inputs) ∧ w'.cell? ⟨g2, o2 + j * 8 + 5, none⟩ = some (.int .i64 y2.outputs) ∧ w'.cell? ⟨g2, o2 + j * 8 + 6, none⟩ = some (.slice y2.ra y2.rs.length y2.rc) ∧ w'.cell? ⟨g2, o2 + j * 8 + 7, none⟩ = some (.slice y2.pa y2.ps.length y2.pc)) (first | exact hS0 | exact hS)
            (first | (go_at_call 24; refine (HCC.out _ HK.out.drew).mono ?_; rintro e w3 ⟨rfl, hK3⟩; have hS := HSS.out w3 (HK.out.drew.trans hK3 fun _ _ e => e)))
          have HK3 : Hid (Keeps (fun _ => False) W w3) := HK.out.drew.trans hK3 fun _ _ e => e
          clear hS0 hS hK3 HSS HCC HK
          go_wp2
          go_roundw
          case rel => exact ⟨j + 1, by omega, by go_num, HK3.out⟩
          case measure => simp [intOf]; omega
        · obtain rfl : j = L2 := by omega
          have HK1 : Hid (Keeps (fun _ => False) W wr) := hK
          have e1 := (HW.out.1.kept hK fun e => e).cell (i := 6) rfl
          clear hK HK0
          go_wp2
          have HK0 : Hid (Keeps (fun _ => False) W wr) := HK1.out
          clear HK1 e1
          go_loopw [100] (fun i wr => ∃ j : Nat, j ≤ L3 ∧ i = .int .i64 j ∧ Keeps (fun _ => False) W wr) (fun i _ => L3 - (intOf i).toNat)
          case atStart => exact ⟨0, by omega, rfl, HK0.out⟩
          case round =>
            obtain ⟨j, hj, rfl, hK⟩ := hrel
            have b1 := (HW.out.1.kept hK fun e => e).cell (i := 6) rfl
            have b2 := (HW.out.2.1.kept hK fun e => e).cell (i := 6) rfl
            by_cases hlt : j < L3
            · obtain ⟨y, hy⟩ : ∃ y, hs[j]? = some y := ⟨_, List.getElem?_eq_getElem (by have := HS.out; omega)⟩
              have hg1 := (HO.out.1.hseg.kept hK fun _ _ _ e => e).at hy
              have hg2 := (HO.out.2.hseg.kept hK fun _ _ _ e => e).at hy
              obtain ⟨g1, o1, ha1, hg1⟩ := hg1
              obtain ⟨g2, o2, ha2, hg2⟩ := hg2
              simp only at ha1 ha2
              rw [ha1] at b1
              rw [ha2] at b2
              have y0 := hg1 0 _ rfl
              rw [Nat.add_zero] at y0
              have y1 := hg1 1 _ rfl
              have y2 := hg1 2 _ rfl
              have x0 := hg2 0 _ rfl
              rw [Nat.add_zero] at x0
              have x1 := hg2 1 _ rfl
              have x2 := hg2 2 _ rfl
              have HK : Hid (Keeps (fun _ => False) W wr) := hK
              clear hy hg1 hg2 hK ha1 ha2
              obtain ⟨p, u, s⟩ := y
              go_wp2
              go_quiet (fail)
              clear y0 y1 y2 x0 x1 x2 b1 b2
              go_wp2
              go_roundw
              case rel => exact ⟨j + 1, by omega, by go_num, HK.out.drewN _⟩
              case measure => simp [intOf]; omega
            · obtain rfl : j = L3 := by omega
              have HK1 : Hid (Keeps (fun _ => False) W wr) := hK
              clear hK b1 b2 HK0
              go_wp2
              go_ret
              exact ⟨rfl, HW.out.2.2.trans HK1.out fun _ _ e => e⟩

end Go.Proofs.YtjadpbkhfclldaaGreat
