import Derived.Test.YtjadpbkhfclldaaGreatMb
namespace Go.Proofs.YtjadpbkhfclldaaGreat
open Go.RowKit
set_option linter.unusedVariables false
set_option linter.unusedSimpArgs false
set_option maxRecDepth 6000

theorem Hid.mkm {p : Prop} (h : p) : Hid p := h
theorem sk_parts {x y : Cfg} (h : y.sk = x.sk) : y.ns = x.ns ∧ y.ca = x.ca ∧ y.cc = x.cc ∧ y.cs.map Core.sk = x.cs.map Core.sk ∧ y.pa = x.pa ∧ y.pc = x.pc ∧ y.ps.map Par.sk = x.ps.map Par.sk ∧ y.ha = x.ha ∧ y.hc = x.hc ∧ y.hs.length = x.hs.length := by
  simp only [Cfg.sk, Prod.mk.injEq] at h
  exact h
theorem sk_len {x y : Cfg} (h : y.sk = x.sk) : y.cs.length = x.cs.length ∧ y.ps.length = x.ps.length ∧ y.hs.length = x.hs.length := by
  obtain ⟨_, _, _, h1, _, _, h2, _, _, h3⟩ := sk_parts h
  exact ⟨by simpa using congrArg List.length h1, by simpa using congrArg List.length h2, h3⟩
theorem lall_core {a : Option Addr} {l l' : List Core} (h : l.map Core.sk = l'.map Core.sk) {k : Nat} (hk : Lall eCoreR a l k) : Lall eCoreR a l' k := by
  rcases hk with hk | ⟨X, hX, hk⟩
  · exact .inl hk
  · obtain ⟨j, hj⟩ := List.getElem?_of_mem hX
    obtain ⟨Y, hY, e⟩ := map_at Core.sk h hj
    refine .inr ⟨Y, List.mem_of_getElem? hY, ?_⟩
    simp only [Core.sk, Prod.mk.injEq] at e
    show k ∈ bk Y.a
    first | (rw [← e.1]; exact hk) | (rw [e.1]; exact hk)
theorem lall_par {a : Option Addr} {l l' : List Par} (h : l.map Par.sk = l'.map Par.sk) {k : Nat} (hk : Lall eParR a l k) : Lall eParR a l' k := by
  rcases hk with hk | ⟨X, hX, hk⟩
  · exact .inl hk
  · obtain ⟨j, hj⟩ := List.getElem?_of_mem hX
    obtain ⟨Y, hY, e⟩ := map_at Par.sk h hj
    refine .inr ⟨Y, List.mem_of_getElem? hY, ?_⟩
    simp only [Par.sk, Prod.mk.injEq] at e
    obtain ⟨_, _, e1, _, _, e2, _⟩ := e
    show k ∈ bk Y.ra ++ bk Y.pa
    first | (rw [← e1, ← e2]; exact hk) | (rw [e1, e2]; exact hk)
theorem sk_B {x y : Cfg} (h : y.sk = x.sk) {k : Nat} (hk : y.B k) : x.B k := by
  obtain ⟨_, e1, _, h1, e2, _, h2, e3, _, _⟩ := sk_parts h
  rcases hk with hk | hk | hk | ⟨_, _, hk⟩
  · rw [e1] at hk; exact .inl (lall_core h1 hk)
  · rw [e2] at hk; exact .inr (.inl (lall_par h2 hk))
  · rw [e3] at hk; exact .inr (.inr (.inl hk))
  · cases hk
theorem sk_vs {x y : Cfg} (h : y.sk = x.sk) : y.vs = x.vs := by
  obtain ⟨h0, e1, e2, h1, e3, e4, h2, e5, e6, h3⟩ := sk_parts h
  obtain ⟨l1, l2, l3⟩ := sk_len h
  simp only [Cfg.ns, List.cons.injEq, and_true] at h0
  obtain ⟨a, b, c, d⟩ := h0
  simp only [Cfg.vs, a, b, c, d, e1, e2, e3, e4, e5, e6, l1, l2, l3]

/-- While a configuration's lists are marked. -/
structure MS (x : Cfg) (w : World) (lo C : Nat) (y : Cfg) (wr : World) : Prop where
  l : y.LstsR wr lo
  sk : y.sk = x.sk
  box : Blk wr C x.vs 26
  kp : Keeps x.B w wr
  c : ¬ x.B C
theorem MS.cells {x : Cfg} {w : World} {lo C : Nat} {y : Cfg} {wr : World} (h : MS x w lo C y wr) :
    wr.cell? ⟨C, 4, none⟩ = some (.slice x.ca x.cs.length x.cc) ∧ wr.cell? ⟨C, 5, none⟩ = some (.slice x.pa x.ps.length x.pc) ∧ wr.cell? ⟨C, 6, none⟩ = some (.slice x.ha x.hs.length x.hc) := ⟨h.box.cell rfl, h.box.cell rfl, h.box.cell rfl⟩
theorem MS.core {x : Cfg} {w : World} {lo C : Nat} {y : Cfg} {wr : World} (h : MS x w lo C y wr) {j : Nat} {X : Core} (hX : x.cs[j]? = some X) :
    ∃ g o Y, x.ca = some ⟨g, o, none⟩ ∧ wr.cell? ⟨g, o + j, none⟩ = some (.slice X.a X.ws.length X.c) ∧ y.cs[j]? = some Y ∧ Y.a = X.a ∧ Y.ws.length = X.ws.length ∧ X.ws.length ≤ X.c ∧ X.c ≤ maxLen := by
  obtain ⟨_, e1, _, h1, _⟩ := sk_parts h.sk
  obtain ⟨Y, hY, e⟩ := map_at Core.sk h1.symm hX
  simp only [Core.sk, Prod.mk.injEq] at e
  obtain ⟨a1, a2, a3⟩ := e
  rcases h.l.cs.seg with h0 | ⟨g, o, hg, hc⟩
  · rw [h0] at hY; simp at hY
  · have := hc j Y hY 0 (.slice Y.a Y.ws.length Y.c) rfl
    have hl := (h.l.cs.ok Y (List.mem_of_getElem? hY)).ok.len
    refine ⟨g, o, Y, by rw [← e1]; exact hg, ?_, hY, ?_, ?_, ?_⟩
    · have e2 : o + j * eCoreR.k + 0 = o + j := by show o + j * 1 + 0 = _; omega
      rw [e2] at this
      rw [this]; first | rw [a1, a2, a3] | rw [← a1, ← a2, ← a3]
    · first | exact a1 | exact a1.symm
    · first | exact a3 | exact a3.symm
    · omega
theorem MS.par {x : Cfg} {w : World} {lo C : Nat} {y : Cfg} {wr : World} (h : MS x w lo C y wr) {j : Nat} {X : Par} (hX : x.ps[j]? = some X) :
    ∃ g o Y, x.pa = some ⟨g, o, none⟩ ∧ (∀ i v, X.vs[i]? = some v → wr.cell? ⟨g, o + j * 8 + i, none⟩ = some v) ∧ y.ps[j]? = some Y ∧ Y.ra = X.ra ∧ Y.pa = X.pa ∧ Y.rs.length = X.rs.length ∧ Y.ps.length = X.ps.length ∧ (X.rs.length ≤ X.rc ∧ X.rc ≤ maxLen) ∧ X.ps.length ≤ X.pc ∧ X.pc ≤ maxLen := by
  obtain ⟨_, _, _, _, e1, _, h1, _⟩ := sk_parts h.sk
  obtain ⟨Y, hY, e⟩ := map_at Par.sk h1.symm hX
  simp only [Par.sk, Prod.mk.injEq, Par.ns, List.cons.injEq, and_true] at e
  obtain ⟨a1, ⟨b1, b2, b3, b4, b5⟩, a3, a4, a5, a6, a7, a8⟩ := e
  rcases h.l.ps.seg with h0 | ⟨g, o, hg, hc⟩
  · rw [h0] at hY; simp at hY
  · have hl := (h.l.ps.ok Y (List.mem_of_getElem? hY)).ok
    have hl1 := hl.rlen
    have hl2 := hl.plen
    have hvs : Y.vs = X.vs := by simp only [Par.vs, a1, b1, b2, b3, b4, b5, a3, a4, a5, a6, a7, a8]
    refine ⟨g, o, Y, by rw [← e1]; exact hg, fun i v hv => ?_, hY, ?_, ?_, ?_, ?_, ?_, ?_⟩
    · have := hc j Y hY i v (by show Y.vs[i]? = _; rw [hvs]; exact hv)
      exact this
    · first | exact a3 | exact a3.symm
    · first | exact a6 | exact a6.symm
    · first | exact a5 | exact a5.symm
    · first | exact a8 | exact a8.symm
    · omega
    · omega
theorem MS.next {x : Cfg} {w : World} {lo C : Nat} {y y1 : Cfg} {wr w1 : World} (h : MS x w lo C y wr) (h1 : y1.LstsR w1 lo) (h2 : y1.sk = y.sk) (h3 : Keeps y.B wr w1) : MS x w lo C y1 w1 :=
  ⟨h1, h2.trans h.sk, h.box.kept h3 fun hb => h.c (sk_B h.sk hb), h.kp.trans h3 fun k _ hb => sk_B h.sk hb, h.c⟩
theorem MS.alloc {x : Cfg} {w : World} {lo C : Nat} {y : Cfg} {wr : World} (h : MS x w lo C y wr) (o : Obj) : MS x w lo C y (wr.alloc o) := by
  have hk : Keeps (fun _ => False) wr (wr.alloc o) := (Keeps.refl _ wr).alloc o
  exact ⟨h.l.kept hk fun _ e => e.elim, h.sk, h.box.kept hk fun e => e, h.kp.trans hk fun _ _ e => e.elim, h.c⟩
end Go.Proofs.YtjadpbkhfclldaaGreat
namespace Go.Proofs.YtjadpbkhfclldaaGreat
open Go.RowKit
set_option linter.unusedVariables false
set_option linter.unusedSimpArgs false
set_option maxRecDepth 6000

theorem i64_wrap (z : Int) : I64 (IntKind.i64.wrap z) := by rw [IntKind.wrap_i64]; constructor <;> omega

set_option maxHeartbeats 16000000 in
/-- bulkheadref11.Marked. -/
theorem marked_any (x : Cfg) (w : World) (lo : Nat) (hL : x.LstsR w lo) :
    Calls Tryz.prog 10 #[x.v] w fun e w' => e = .returned (.tuple #[]) ∧ (∃ y : Cfg, y.LstsR w' lo ∧ y.sk = x.sk) ∧ Keeps x.B w w' := by
  obtain ⟨W, hW⟩ : ∃ W, W = x.laid w := ⟨_, rfl⟩
  obtain ⟨C, hC⟩ : ∃ C, C = w.heap.size := ⟨_, rfl⟩
  have HS : Hid (MS x w lo C x W ∧ (∀ k, x.B k → k < w.heap.size) ∧ w.heap.size ≤ W.heap.size) := by
    have hk : Keeps (fun _ => False) w W := by rw [hW]; exact (Keeps.refl _ w).alloc _
    refine ⟨⟨hL.kept hk fun _ e => e.elim, rfl, by rw [hW, hC]; exact Blk.new _ _ _, hk.mono fun _ _ e => e.elim, fun hb => by have := (hL.rangeB hb).2; omega⟩, fun k hb => (hL.rangeB hb).2, hk.size⟩
  clear hL
  unfold Cfg.laid at hW
  obtain ⟨NC, hNC⟩ : ∃ n, x.cs.length = n := ⟨_, rfl⟩
  obtain ⟨NP, hNP⟩ : ∃ n, x.ps.length = n := ⟨_, rfl⟩
  obtain ⟨NH, hNH⟩ : ∃ n, x.hs.length = n := ⟨_, rfl⟩
  have HN : Hid (x.cs.length = NC ∧ x.ps.length = NP ∧ x.hs.length = NH) := ⟨hNC, hNP, hNH⟩
  have HB : Hid ((NC : Int) ≤ x.cc ∧ (NP : Int) ≤ x.pc ∧ (NH : Int) ≤ x.hc ∧ (x.cc : Int) ≤ 9223372036854775807 ∧ (x.pc : Int) ≤ 9223372036854775807 ∧ (x.hc : Int) ≤ 9223372036854775807) := by
    have hcl := HS.out.1.l.cs.len
    have hpl := HS.out.1.l.ps.len
    have hhl := HS.out.1.l.hs.len
    unfold maxLen at hcl hpl hhl
    refine Hid.mkm ?_
    omega
  rw [hNC, hNP, hNH] at hW
  go_enter Tryz.func10, Tryz.ntmps10
  go_wp2_with fail
  rw [← hW, ← hC]
  clear hW hC hNC hNP hNH
  go_loopw [13, 2] (fun i n wr => ∃ (j : Nat) (z : Int) (y : Cfg), j ≤ NC ∧ i = .int .i64 j ∧ n = .int .i64 z ∧ MS x w lo C y wr ∧ w.heap.size ≤ wr.heap.size) (fun i _ _ => NC - (intOf i).toNat)
  case atStart => exact ⟨0, 1000, x, by omega, rfl, rfl, HS.out.1, HS.out.2.2⟩
  case round =>
    obtain ⟨j, z, y, hj, rfl, rfl, hM, hsz⟩ := hrel
    obtain ⟨q4, q5, q6⟩ := hM.cells
    rw [HN.out.1] at q4
    by_cases hlt : j < NC
    · obtain ⟨X, hX⟩ : ∃ X, x.cs[j]? = some X := ⟨_, List.getElem?_eq_getElem (by have := HN.out.1; omega)⟩
      obtain ⟨g, o, Y, hg, c0, hY, ea, el, hl1, hl2⟩ := hM.core hX
      rw [hg] at q4
      obtain ⟨wl, hwl⟩ : ∃ n, X.ws.length = n := ⟨_, rfl⟩
      rw [hwl] at c0
      have hjl : (j : Int) < NC := by omega
      have hcc : (NC : Int) ≤ x.cc := HB.out.1
      have hwlb : (wl : Int) ≤ 9223372036854775807 := by unfold maxLen at hl2; omega
      have HJ : Hid (MS x w lo C y wr ∧ w.heap.size ≤ wr.heap.size ∧ j < NC ∧ x.cs[j]? = some X ∧ X.ws.length = wl ∧ x.ca = some ⟨g, o, none⟩ ∧ (wl : Int) ≤ X.c) := ⟨hM, hsz, hlt, hX, hwl, hg, by omega⟩
      clear hM hsz hlt hX hg hY ea el hl1 hl2 hwl hj
      go_wp2
      clear q4 q5 q6 c0
      go_loopw [22, 2] (fun i n wr => ∃ (k : Nat) (z : Int) (y : Cfg), k ≤ wl ∧ i = .int .i64 k ∧ n = .int .i64 z ∧ MS x w lo C y wr ∧ w.heap.size ≤ wr.heap.size) (fun i _ _ => wl - (intOf i).toNat)
      case atStart => exact ⟨0, z, y, by omega, rfl, rfl, HJ.out.1, HJ.out.2.1⟩
      case round =>
        obtain ⟨k, z2, y2, hk, rfl, rfl, hM, hsz⟩ := hrel
        by_cases hlt : k < wl
        · obtain ⟨q4, q5, q6⟩ := hM.cells
          rw [HN.out.1, HJ.out.2.2.2.2.2.1] at q4
          obtain ⟨g', o', Y, hg, c0, hY, ea, el, hl1, hl2⟩ := hM.core HJ.out.2.2.2.1
          rw [HJ.out.2.2.2.2.2.1] at hg
          cases hg
          rw [HJ.out.2.2.2.2.1] at c0
          obtain ⟨Z, hZ⟩ : ∃ Z, IntKind.i64.wrap (z2 + 1) = Z := ⟨_, rfl⟩
          have hZ6 : I64 Z := by rw [← hZ]; exact i64_wrap _
          obtain ⟨gg, e1, _, ⟨v0, y0⟩, ⟨v1, y1⟩, ⟨v2, y2'⟩, f0, f1, f2, hput⟩ := hM.l.win hY (k := k) (by rw [el, HJ.out.2.2.2.2.1]; exact hlt) ⟨Z, Z, Z⟩ ⟨hZ6, hZ6, hZ6⟩
          rw [ea] at e1
          rw [e1] at c0
          obtain ⟨W1, hW1⟩ : ∃ W1, W1 = ((wr.setCell ⟨gg, k * 3, none⟩ (.int .i64 Z)).setCell ⟨gg, k * 3 + 1, none⟩ (.int .i64 Z)).setCell ⟨gg, k * 3 + 2, none⟩ (.int .i64 Z) := ⟨_, rfl⟩
          have HE : Hid (∃ y3 : Cfg, MS x w lo C y3 W1 ∧ w.heap.size ≤ W1.heap.size) := by
            obtain ⟨y3, h1, h2, h3⟩ := hput W1 hW1
            exact ⟨y3, hM.next h1 h2 h3, Nat.le_trans hsz h3.size⟩
          have hkl : (k : Int) < wl := by omega
          have hjl : (j : Int) < NC := by have := HJ.out.2.2.1; omega
          have hcc : (NC : Int) ≤ x.cc := HB.out.1
          have hxc : (wl : Int) ≤ X.c := HJ.out.2.2.2.2.2.2
          clear hM hsz hY ea el hl1 hl2 hput e1 hZ6 hk
          go_wp2
          rw [← hW1]
          go_roundw
          case rel =>
            obtain ⟨y3, h1, h2⟩ := HE.out
            exact ⟨k + 1, Z, y3, hlt, by go_num, rfl, h1, h2⟩
          case measure => simp [intOf]; omega
        · obtain rfl : k = wl := by omega
          have HE : Hid (MS x w lo C y2 wr ∧ w.heap.size ≤ wr.heap.size) := ⟨hM, hsz⟩
          have hjl : (j : Int) < NC := by have := HJ.out.2.2.1; omega
          have hnb : (NC : Int) ≤ 9223372036854775807 := by have := HB.out; omega
          clear hM hsz
          go_wp2
          go_roundw
          case rel => exact ⟨j + 1, z2, y2, HJ.out.2.2.1, by go_num, rfl, HE.out⟩
          case measure => have := HJ.out.2.2.1; simp [intOf]; omega
    · obtain rfl : j = NC := by omega
      have HJ : Hid (MS x w lo C y wr ∧ w.heap.size ≤ wr.heap.size) := ⟨hM, hsz⟩
      rw [HN.out.2.1] at q5
      clear hM hsz hj hlt
      go_wp2
      clear q4 q5 q6
      go_loopw [43, 2] (fun i n wr => ∃ (j : Nat) (z : Int) (y : Cfg), j ≤ NP ∧ i = .int .i64 j ∧ n = .int .i64 z ∧ MS x w lo C y wr ∧ w.heap.size ≤ wr.heap.size) (fun i _ _ => NP - (intOf i).toNat)
      case atStart => exact ⟨0, z, y, by omega, rfl, rfl, HJ.out.1, HJ.out.2⟩
      case round =>
        clear HJ
        obtain ⟨j2, z2, y2, hj2, rfl, rfl, hM, hsz⟩ := hrel
        obtain ⟨q4, q5, q6⟩ := hM.cells
        rw [HN.out.2.1] at q5
        by_cases hlt : j2 < NP
        · obtain ⟨X, hX⟩ : ∃ X, x.ps[j2]? = some X := ⟨_, List.getElem?_eq_getElem (by have := HN.out.2.1; omega)⟩
          obtain ⟨g, o, Y, hg, hc, hY, ea, ea2, el, el2, hl1, hl2⟩ := hM.par hX
          rw [hg] at q5
          have p0 := hc 0 _ rfl
          rw [Nat.add_zero] at p0
          have p1 := hc 1 _ rfl
          have p2 := hc 2 _ rfl
          have p3 := hc 3 _ rfl
          have p4 := hc 4 _ rfl
          have p5 := hc 5 _ rfl
          have p6 := hc 6 _ rfl
          have p7 := hc 7 _ rfl
          obtain ⟨rl, hrl⟩ : ∃ n, X.rs.length = n := ⟨_, rfl⟩
          obtain ⟨pl, hpl⟩ : ∃ n, X.ps.length = n := ⟨_, rfl⟩
          rw [hrl] at p6
          rw [hpl] at p7
          obtain ⟨xv, hxv⟩ : ∃ xv : List Value, xv = [.string X.name, .int .i64 X.entry, .int .i64 X.action, .int .i64 X.restarts, .int .i64 X.inputs, .int .i64 X.outputs, .slice X.ra rl X.rc, .slice X.pa pl X.pc] := ⟨_, rfl⟩
          obtain ⟨W1, hW1⟩ : ∃ W1, W1 = wr.alloc (.cells #[.string X.name, .int .i64 X.entry, .int .i64 X.action, .int .i64 X.restarts, .int .i64 X.inputs, .int .i64 X.outputs, .slice X.ra rl X.rc, .slice X.pa pl X.pc] 47) := ⟨_, rfl⟩
          obtain ⟨E, hE⟩ : ∃ E, E = wr.heap.size := ⟨_, rfl⟩
          have hB1 : Blk W1 E xv 47 := by rw [hW1, hE, hxv]; exact Blk.new _ _ _
          have HV : Hid (xv = [.string X.name, .int .i64 X.entry, .int .i64 X.action, .int .i64 X.restarts, .int .i64 X.inputs, .int .i64 X.outputs, .slice X.ra rl X.rc, .slice X.pa pl X.pc]) := hxv
          have d6 : W1.cell? ⟨E, 6, none⟩ = some (.slice X.ra rl X.rc) := by rw [hxv] at hB1; exact hB1.cell rfl
          have hjl : (j2 : Int) < NP := by omega
          have hcc : (NP : Int) ≤ x.pc := HB.out.2.1
          have HJ : Hid (MS x w lo C y2 W1 ∧ w.heap.size ≤ W1.heap.size ∧ j2 < NP ∧ x.ps[j2]? = some X ∧ X.rs.length = rl ∧ X.ps.length = pl ∧ Blk W1 E xv 47 ∧ (∀ k, x.B k → k ≠ E) ∧ (rl : Int) ≤ X.rc ∧ (pl : Int) ≤ X.pc ∧ (X.rc : Int) ≤ 9223372036854775807 ∧ (X.pc : Int) ≤ 9223372036854775807) := by
            refine ⟨by rw [hW1]; exact hM.alloc _, by rw [hW1]; simp; omega, hlt, hX, hrl, hpl, hB1, fun k hk => ?_, by omega, by omega, by unfold maxLen at hl1; omega, by unfold maxLen at hl2; omega⟩
            have := HS.out.2.1 k hk
            omega
          clear hM hsz hlt hX hg hY ea ea2 el el2 hl1 hl2 hrl hpl hj2 hc hxv hB1
          go_upto_region 16 with fail
          rw [← hW1, ← hE]
          clear hW1 hE p0 p1 p2 p3 p4 p5 p6 p7 q4 q5 q6
          go_wp2
          clear d6
          go_loopw [54, 2] (fun i n wr => ∃ (k : Nat) (z : Int) (y : Cfg), k ≤ rl ∧ i = .int .i64 k ∧ n = .int .i64 z ∧ MS x w lo C y wr ∧ w.heap.size ≤ wr.heap.size ∧ Blk wr E xv 47) (fun i _ _ => rl - (intOf i).toNat)
          case atStart => exact ⟨0, z2, y2, by omega, rfl, rfl, HJ.out.1, HJ.out.2.1, HJ.out.2.2.2.2.2.2.1⟩
          case round =>
            obtain ⟨k, z3, y3, hk, rfl, rfl, hM, hsz, hB⟩ := hrel
            by_cases hlt : k < rl
            · have d6 : wr.cell? ⟨E, 6, none⟩ = some (.slice X.ra rl X.rc) := by rw [HV.out] at hB; exact hB.cell rfl
              obtain ⟨g', o', Y, hg, hc, hY, ea, ea2, el, el2, hl1, hl2⟩ := hM.par HJ.out.2.2.2.1
              obtain ⟨Z, hZ⟩ : ∃ Z, IntKind.i64.wrap (z3 + 1) = Z := ⟨_, rfl⟩
              have hZ6 : I64 Z := by rw [← hZ]; exact i64_wrap _
              obtain ⟨gg, e1, hbg, ⟨v0, y0⟩, ⟨v1, y1⟩, ⟨v2, y2'⟩, ⟨v3, y3'⟩, f0, f1, f2, f3, hput⟩ := hM.l.rgn hY (k := k) (by rw [el, HJ.out.2.2.2.2.1]; exact hlt) ⟨Z, Z, Z, Z⟩ ⟨hZ6, hZ6, hZ6, hZ6⟩
              rw [ea] at e1
              rw [e1] at d6
              obtain ⟨W2, hW2⟩ : ∃ W2, W2 = (((wr.setCell ⟨gg, k * 4, none⟩ (.int .i64 Z)).setCell ⟨gg, k * 4 + 1, none⟩ (.int .i64 Z)).setCell ⟨gg, k * 4 + 2, none⟩ (.int .i64 Z)).setCell ⟨gg, k * 4 + 3, none⟩ (.int .i64 Z) := ⟨_, rfl⟩
              have HE : Hid (∃ y3 : Cfg, MS x w lo C y3 W2 ∧ w.heap.size ≤ W2.heap.size ∧ Blk W2 E xv 47) := by
                obtain ⟨y4, h1, h2, h3⟩ := hput W2 hW2
                exact ⟨y4, hM.next h1 h2 h3, Nat.le_trans hsz h3.size, hB.kept h3 fun hb => HJ.out.2.2.2.2.2.2.2.1 E (sk_B hM.sk hb) rfl⟩
              have hkl : (k : Int) < rl := by omega
              have hxc : (rl : Int) ≤ X.rc := HJ.out.2.2.2.2.2.2.2.2.1
              have hxb : (X.rc : Int) ≤ 9223372036854775807 := HJ.out.2.2.2.2.2.2.2.2.2.2.1
              clear hM hsz hY ea el hl1 hl2 hput e1 hZ6 hk hB hg hc ea2 el2 hbg
              go_wp2
              rw [← hW2]
              go_roundw
              case rel =>
                obtain ⟨y4, h1, h2, h3⟩ := HE.out
                exact ⟨k + 1, Z, y4, hlt, by go_num, rfl, h1, h2, h3⟩
              case measure => simp [intOf]; omega
            · obtain rfl : k = rl := by omega
              have HE : Hid (MS x w lo C y3 wr ∧ w.heap.size ≤ wr.heap.size ∧ Blk wr E xv 47) := ⟨hM, hsz, hB⟩
              have d7 : wr.cell? ⟨E, 7, none⟩ = some (.slice X.pa pl X.pc) := by rw [HV.out] at hB; exact hB.cell rfl
              clear hM hsz hB hk hlt
              go_wp2
              clear d7
              go_loopw [72, 2] (fun i n wr => ∃ (k : Nat) (z : Int) (y : Cfg), k ≤ pl ∧ i = .int .i64 k ∧ n = .int .i64 z ∧ MS x w lo C y wr ∧ w.heap.size ≤ wr.heap.size ∧ Blk wr E xv 47) (fun i _ _ => pl - (intOf i).toNat)
              case atStart => exact ⟨0, z3, y3, by omega, rfl, rfl, HE.out⟩
              case round =>
                clear HE
                obtain ⟨q, z4, y4, hk, rfl, rfl, hM, hsz, hB⟩ := hrel
                by_cases hlt : q < pl
                · have d7 : wr.cell? ⟨E, 7, none⟩ = some (.slice X.pa pl X.pc) := by rw [HV.out] at hB; exact hB.cell rfl
                  obtain ⟨g', o', Y, hg, hc, hY, ea, ea2, el, el2, hl1, hl2⟩ := hM.par HJ.out.2.2.2.1
                  obtain ⟨Z, hZ⟩ : ∃ Z, IntKind.i64.wrap (z4 + 1) = Z := ⟨_, rfl⟩
                  have hZ6 : I64 Z := by rw [← hZ]; exact i64_wrap _
                  obtain ⟨gg, e1, hbg, ⟨v0, y0⟩, ⟨v1, y1⟩, f0, f1, hput⟩ := hM.l.prt hY (k := q) (by rw [el2, HJ.out.2.2.2.2.2.1]; exact hlt) ⟨Z, Z.tmod 2 == 0⟩ hZ6
                  rw [ea2] at e1
                  rw [e1] at d7
                  obtain ⟨W2, hW2⟩ : ∃ W2, W2 = (wr.setCell ⟨gg, q * 2, none⟩ (.int .i64 Z)).setCell ⟨gg, q * 2 + 1, none⟩ (.bool (Z.tmod 2 == 0)) := ⟨_, rfl⟩
                  have HE : Hid (∃ y3 : Cfg, MS x w lo C y3 W2 ∧ w.heap.size ≤ W2.heap.size ∧ Blk W2 E xv 47) := by
                    obtain ⟨y5, h1, h2, h3⟩ := hput W2 hW2
                    exact ⟨y5, hM.next h1 h2 h3, Nat.le_trans hsz h3.size, hB.kept h3 fun hb => HJ.out.2.2.2.2.2.2.2.1 E (sk_B hM.sk hb) rfl⟩
                  have hkl : (q : Int) < pl := by omega
                  have hxc : (pl : Int) ≤ X.pc := HJ.out.2.2.2.2.2.2.2.2.2.1
                  have hxb : (X.pc : Int) ≤ 9223372036854775807 := HJ.out.2.2.2.2.2.2.2.2.2.2.2
                  clear hM hsz hY ea el hl1 hl2 hput e1 hZ6 hk hB hg hc ea2 el2 hbg
                  go_wp2
                  rw [← hW2]
                  go_roundw
                  case rel =>
                    obtain ⟨y5, h1, h2, h3⟩ := HE.out
                    exact ⟨q + 1, Z, y5, hlt, by go_num, rfl, h1, h2, h3⟩
                  case measure => simp [intOf]; omega
                · obtain rfl : q = pl := by omega
                  have HE : Hid (MS x w lo C y4 wr ∧ w.heap.size ≤ wr.heap.size) := ⟨hM, hsz⟩
                  have hjl : (j2 : Int) < NP := by have := HJ.out.2.2.1; omega
                  have hnb : (NP : Int) ≤ 9223372036854775807 := by have := HB.out; omega
                  clear hM hsz hB hk hlt
                  go_wp2
                  go_roundw
                  case rel => exact ⟨j2 + 1, z4, y4, HJ.out.2.2.1, by go_num, rfl, HE.out⟩
                  case measure => have := HJ.out.2.2.1; simp [intOf]; omega
        · obtain rfl : j2 = NP := by omega
          have HJ : Hid (MS x w lo C y2 wr ∧ w.heap.size ≤ wr.heap.size) := ⟨hM, hsz⟩
          rw [HN.out.2.2] at q6
          clear hM hsz hj2 hlt
          go_wp2
          clear q4 q5 q6
          go_loopw [91, 2] (fun i n wr => ∃ (k : Nat) (z : Int) (y : Cfg), k ≤ NH ∧ i = .int .i64 k ∧ n = .int .i64 z ∧ MS x w lo C y wr ∧ w.heap.size ≤ wr.heap.size) (fun i _ _ => NH - (intOf i).toNat)
          case atStart => exact ⟨0, z2, y2, by omega, rfl, rfl, HJ.out.1, HJ.out.2⟩
          case round =>
            clear HJ
            obtain ⟨q, z4, y4, hk, rfl, rfl, hM, hsz⟩ := hrel
            by_cases hlt : q < NH
            · obtain ⟨q4, q5, q6⟩ := hM.cells
              rw [HN.out.2.2] at q6
              obtain ⟨Z, hZ⟩ : ∃ Z, IntKind.i64.wrap (z4 + 1) = Z := ⟨_, rfl⟩
              have hZ6 : I64 Z := by rw [← hZ]; exact i64_wrap _
              obtain ⟨gg, e1, hbg, ⟨v0, y0⟩, ⟨v1, y1⟩, ⟨v2, y2'⟩, f0, f1, f2, hput⟩ := hM.l.chn (k := q) (by rw [(sk_len hM.sk).2.2, HN.out.2.2]; exact hlt) ⟨Z, Z, Z⟩ ⟨hZ6, hZ6, hZ6⟩
              rw [(sk_parts hM.sk).2.2.2.2.2.2.2.1] at e1
              rw [e1] at q6
              obtain ⟨W2, hW2⟩ : ∃ W2, W2 = ((wr.setCell ⟨gg, q * 3, none⟩ (.int .i64 Z)).setCell ⟨gg, q * 3 + 1, none⟩ (.int .i64 Z)).setCell ⟨gg, q * 3 + 2, none⟩ (.int .i64 Z) := ⟨_, rfl⟩
              have HE : Hid (∃ y3 : Cfg, MS x w lo C y3 W2 ∧ w.heap.size ≤ W2.heap.size) := by
                obtain ⟨y5, h1, h2, h3⟩ := hput W2 hW2
                exact ⟨y5, hM.next h1 h2 h3, Nat.le_trans hsz h3.size⟩
              have hkl : (q : Int) < NH := by omega
              have hxc : (NH : Int) ≤ x.hc := HB.out.2.2.1
              have hxb : (x.hc : Int) ≤ 9223372036854775807 := by have := HB.out; omega
              clear hM hsz hput e1 hZ6 hk hbg
              go_wp2
              rw [← hW2]
              go_roundw
              case rel =>
                obtain ⟨y5, h1, h2⟩ := HE.out
                exact ⟨q + 1, Z, y5, hlt, by go_num, rfl, h1, h2⟩
              case measure => simp [intOf]; omega
            · obtain rfl : q = NH := by omega
              have HE : Hid ((∃ y : Cfg, y.LstsR wr lo ∧ y.sk = x.sk) ∧ Keeps x.B w wr) := ⟨⟨y4, hM.l, hM.sk⟩, hM.kp⟩
              clear hM hsz hk hlt
              go_wp2
              go_end0
              exact ⟨rfl, HE.out⟩
end Go.Proofs.YtjadpbkhfclldaaGreat
