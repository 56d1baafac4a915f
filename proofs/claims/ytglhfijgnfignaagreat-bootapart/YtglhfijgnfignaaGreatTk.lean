import Derived.Test.YtglhfijgnfignaaGreatTi
import Derived.Test.YtglhfijgnfignaaGreatTd
import Derived.Defers
namespace Go.Proofs.YtglhfijgnfignaaGreat
open Go.RowKit Go.Shelf
open Mq
set_option linter.unusedVariables false
set_option maxRecDepth 6000
set_option linter.unusedSimpArgs false
structure Prg where
 a : Option Addr
 c : Nat
 ws : List UInt32
abbrev Prg.vs (p : Prg) : List Value := [.slice p.a p.ws.length p.c]
structure Prg.Ok (w : World) (N : Nat) (p : Prg) : Prop where
 seg : SegW w p.a p.ws
 len : p.ws.length ≤ p.c ∧ p.c ≤ maxLen
 lo : ∀ y, p.a = some y → y.block < N
structure PrgIn (w : World) (N : Nat) (pa : Option Addr) (pc : Nat) (ps : List Prg) : Prop where
 seg : SegA Prg.vs 1 w pa ps
 lo : ps ≠ [] → ∀ y, pa = some y → y.block < N
 len : ps.length ≤ pc ∧ pc ≤ maxLen
 each : ∀ p ∈ ps, p.Ok w N
theorem PrgIn.kept {w w' : World} {N : Nat} {pa : Option Addr} {pc : Nat} {ps : List Prg} (h : PrgIn w N pa pc ps) (k : Keeps (fun _ => False) w w') : PrgIn w' N pa pc ps :=
 ⟨h.seg.kept k fun _ _ _ h => h, h.lo, h.len, fun p hp => ⟨(h.each p hp).seg.kept k fun _ _ h => h, (h.each p hp).len, (h.each p hp).lo⟩⟩
def bootL (x : Cfg) (n : Nat) (ps : List (List UInt32)) : Nat → List UInt32
 | 0 => baseL x n x.ps.length
 | j + 1 => match x.ps[j]?, ps[j]? with | some P, some p => ownL P.rs p (bootL x n ps j) | _, _ => bootL x n ps j
def AllLie (x : Cfg) (ps : List (List UInt32)) (j : Nat) : Prop := ∀ (i : Nat) (P : Par) (p : List UInt32), i < j → x.ps[i]? = some P → ps[i]? = some p → LiesP P.rs p
theorem bootL_succ {x : Cfg} {n : Nat} {ps : List (List UInt32)} {j : Nat} {P : Par} {p : List UInt32} (hP : x.ps[j]? = some P) (hp : ps[j]? = some p) : bootL x n ps (j + 1) = ownL P.rs p (bootL x n ps j) := by
 show (match x.ps[j]?, ps[j]? with | some P, some p => _ | _, _ => _) = _
 rw [hP, hp]
theorem AllLie.next {x : Cfg} {ps : List (List UInt32)} {j : Nat} {P : Par} {p : List UInt32} (h : AllLie x ps j) (hP : x.ps[j]? = some P) (hp : ps[j]? = some p) (hl : LiesP P.rs p) : AllLie x ps (j + 1) := by
 intro i Q q hi hQ hq
 by_cases e : i = j
 ·
  subst e
  rw [hP] at hQ
  rw [hp] at hq
  obtain rfl := Option.some.inj hQ
  obtain rfl := Option.some.inj hq
  exact hl
 ·
  exact h i Q q (by omega) hQ hq
def BootP (x : Cfg) (ps : List (List UInt32)) (w : World) (e : Ending) (w' : World) : Prop :=
 Keeps (fun _ => False) w w' ∧ ((∃ z t : Int, (z = 240 ∨ z = 241) ∧ e = .returned (.tuple #[.pointer none, .int .i64 z, .int .i64 t])) ∨
  (Gd x ∧ (ps.length ≤ x.ps.length ∧ AllLie x ps ps.length) ∧ ∃ b g, e = .returned (.tuple #[.pointer (some ⟨b, 0, none⟩), .int .i64 0, .int .i64 (-1)]) ∧ (w.heap.size ≤ b ∧ w.heap.size ≤ g) ∧ Mn w' b g x.frames.toNat (bootL x x.frames.toNat ps ps.length)))
theorem go_nil (A B : Nat) (z : Int) (u : FrameMode) (w : World) (v : Value) (hz : ¬ z = 0) (hA : w.cell? ⟨A, 0, none⟩ = some (.int .i64 z)) (hB : w.cell? ⟨B, 0, none⟩ = some v) (hf : w.frozen? ⟨B, 0, none⟩ = false) :
  CallsD Tryz.prog 18 #[.pointer (some ⟨A, 0, none⟩), .pointer (some ⟨B, 0, none⟩)] u w fun e u' w' => u' = u ∧ (∃ v, e = .returned v) ∧ w' = w.setCell ⟨B, 0, none⟩ (.pointer none) := by
 go_enter_d Tryz.func18, Tryz.ntmps18
 go_wp2
 go_end0
 exact ⟨⟨_, rfl⟩, rfl⟩
theorem go_be (A B : Nat) (u : FrameMode) (w : World) (hA : w.cell? ⟨A, 0, none⟩ = some (.int .i64 0)) :
  CallsD Tryz.prog 18 #[.pointer (some ⟨A, 0, none⟩), .pointer (some ⟨B, 0, none⟩)] u w fun e u' w' => u' = u ∧ (∃ v, e = .returned v) ∧ w' = w := by
 go_enter_d Tryz.func18, Tryz.ntmps18
 go_wp2
 go_end0
 exact ⟨⟨_, rfl⟩, rfl⟩
theorem boot_door (R : Ending → World → Prop) (tmps : Array Value) (A B : Nat) (W : World) (z t : Int) (p : Option Addr) (h4 : tmps.getD 4 undef = .pointer (some ⟨B, 0, none⟩)) (h5 : tmps.getD 5 undef = .pointer (some ⟨A, 0, none⟩)) (h6 : tmps.getD 6 undef = .int .i64 t)
  (hA : Blk W A [.int .i64 z] 29) (hB : Blk W B [.pointer p] 28) (hAB : A ≠ B) (hz : z ≠ 0 → R (.returned (.tuple #[.pointer none, .int .i64 z, .int .i64 t])) (W.setCell ⟨B, 0, none⟩ (.pointer none))) (h0 : z = 0 → R (.returned (.tuple #[.pointer p, .int .i64 0, .int .i64 t])) W) :
  bodyPostD Tryz.prog Tryz.f5 R Exit.ret { tmps := tmps, defers := [{ target := .fn (.func 18) #[.pointer (some ⟨A, 0, none⟩), .pointer (some ⟨B, 0, none⟩)], args := #[] }] } W := by
 have h4' : tmps[4]?.getD undef = .pointer (some ⟨B, 0, none⟩) := by simpa using h4
 have h5' : tmps[5]?.getD undef = .pointer (some ⟨A, 0, none⟩) := by simpa using h5
 have h6' : tmps[6]?.getD undef = .int .i64 t := by simpa using h6
 have cA := hA.cell (i := 0) rfl
 have cB := hB.cell (i := 0) rfl
 have fB := hB.frozen 0
 refine leaves_cons (f := 18) (args := #[.pointer (some ⟨A, 0, none⟩), .pointer (some ⟨B, 0, none⟩)]) (by simp) (by simp [go_sem]) ?_
 by_cases e : z = 0
 ·
  subst e
  refine (go_be A B .returning W cA).mono ?_
  rintro e u' w'' ⟨rfl, ⟨v, rfl⟩, rfl⟩
  refine ⟨.tuple #[.pointer p, .int .i64 0, .int .i64 t], ?_, h0 rfl⟩
  simp [results, Tryz.results5, go_sem, cA, cB, h4', h5', h6']
 ·
  refine (go_nil A B z .returning W _ e cA cB fB).mono ?_
  rintro e' u' w'' ⟨rfl, ⟨v, rfl⟩, rfl⟩
  have cB' := (hB.setCell 0 (.pointer none)).cell (i := 0) (v := .pointer none) rfl
  have cA' := (hA.setCell_ne (a := ⟨B, 0, none⟩) hAB (.pointer none)).cell (i := 0) rfl
  refine ⟨.tuple #[.pointer none, .int .i64 z, .int .i64 t], ?_, hz e⟩
  simp [results, Tryz.results5, go_sem, cA', cB', h4', h5', h6']
attribute [local go_sem] Oper.semAt_some
theorem wp_quiet {P : Program} {c : Code} {K : Act → World → Prop} {Q : Exit → Act → World → Prop} {a : Act} {w : World} (h : Code.wp P c (Exit.then K (fun _ _ _ => False)) a w) : Code.wp P c (Exit.then K Q) a w :=
 Code.wp_mono (fun e a w h => by cases e <;> first | exact h | exact h.elim) h
structure Res (w : World) (C : Nat) (p : Option Addr) (z : Int) (W : World) : Prop where
 b4 : Blk W (C + 1) [.pointer p] 28
 b5 : Blk W (C + 1 + 1) [.int .i64 z] 29
 k : Keeps (fun k => k = C + 1 ∨ k = C + 1 + 1) w W
theorem Res.set {w W : World} {C : Nat} {p : Option Addr} {z : Int} (h : Res w C p z W) (p' : Option Addr) (z' : Int) : Res w C p' z' ((W.setCell ⟨C + 1, 0, none⟩ (.pointer p')).setCell ⟨C + 1 + 1, 0, none⟩ (.int .i64 z')) :=
 ⟨(h.b4.setCell 0 (.pointer p')).setCell_ne (a := ⟨C + 1 + 1, 0, none⟩) (by simp) _, (h.b5.setCell_ne (a := ⟨C + 1, 0, none⟩) (by simp) _).setCell 0 (.int .i64 z'), (h.k.setCell ⟨C + 1, 0, none⟩ (.pointer p') fun _ => .inl rfl).setCell ⟨C + 1 + 1, 0, none⟩ (.int .i64 z') fun _ => .inr rfl⟩
set_option maxHeartbeats 4000000 in
theorem boot_any (x : Cfg) (pa : Option Addr) (pc : Nat) (ps : List Prg) (w : World) (N : Nat) (hi : x.In w N) (hN : N ≤ w.heap.size) (hp : PrgIn w N pa pc ps) :
  Calls Tryz.prog 5 #[x.v, .slice pa ps.length pc] w (BootP x (ps.map Prg.ws) w) := by
 have hmf : ∀ (fn : Fn) (first cap : Array Value) (w : World), (Instr.makeFunc fn first cap).run Tryz.prog w = .ok (.func fn first cap) w := fun _ _ _ _ => rfl
 obtain ⟨W, hW⟩ : ∃ W, W = ((x.laid w).alloc (.cells #[.pointer none] 28)).alloc (.cells #[.int .i64 0] 29) := ⟨_, rfl⟩
 obtain ⟨C, hC⟩ : ∃ C, C = w.heap.size := ⟨_, rfl⟩
 have hO : One w x C N W := by rw [hW, hC]; exact ((One.mk' hi hN).kept ((Keeps.refl _ _).alloc _)).kept ((Keeps.refl _ _).alloc _)
 have hb4 : Blk W (C + 1) [.pointer none] 28 := by
  have := Blk.new (x.laid w) #[.pointer none] 28
  rw [World.size_alloc, ← hC] at this
  rw [hW]; exact this.alloc _
 have hb5 : Blk W (C + 1 + 1) [.int .i64 0] 29 := by
  have := Blk.new ((x.laid w).alloc (.cells #[.pointer none] 28)) #[.int .i64 0] 29
  rw [World.size_alloc, World.size_alloc, ← hC] at this
  rw [hW]; exact this
 have HO : Hid (One w x C N W ∧ Blk W (C + 1) [.pointer none] 28 ∧ Blk W (C + 1 + 1) [.int .i64 0] 29 ∧ C = w.heap.size) := ⟨hO, hb4, hb5, hC⟩
 have HP : Hid (PrgIn w N pa pc ps) := hp
 have HC : Hid (Calls Tryz.prog 19 #[x.v] W (WoP x W)) := wo_any x W N hO.cin hO.nn
 obtain ⟨q0, q1, q2, q3, q4, q5, q6⟩ := hO.cells
 obtain ⟨L, hL⟩ : ∃ L, L = ps.length := ⟨_, rfl⟩
 have HL : Hid (L = ps.length) := hL
 have hlp := hp.len
 have hLc : (L : Int) ≤ pc := by omega
 have hpc : (pc : Int) ≤ 9223372036854775807 := by unfold maxLen at hlp; omega
 rw [← hL]
 unfold Cfg.laid at hW
 clear hi hN hp hO hb4 hb5 hL hlp
 go_enter_defers Tryz.func5, Tryz.ntmps5
 go_upto_region 2 with fail
 rw [← hW, ← hC]
 clear hW hC
 go_wp2_with fail
 refine HC.out.mono ?_
 rintro e w1 ⟨hK1, ⟨hng, z, hz, rfl⟩ | ⟨hg, b, g, rfl, hbg, hMn⟩⟩
 ·
  have hB4 := HO.out.2.1.kept hK1 fun h => h
  have hB5 := HO.out.2.2.1.kept hK1 fun h => h
  have c4 := hB4.cell (i := 0) rfl
  have f4 := hB4.frozen 0
  have c5 := hB5.cell (i := 0) rfl
  have f5 := hB5.frozen 0
  have HR : Hid (Keeps (fun _ => False) W w1 ∧ Res w1 C none 0 w1) := ⟨hK1, hB4, hB5, Keeps.refl _ _⟩
  clear hK1 hB4 hB5 HC hng
  go_wp2
  have hr := (HR.out.2.set none z).set none 240
  refine boot_door _ _ (C + 1 + 1) (C + 1) _ 240 (-1) none rfl rfl rfl hr.b5 hr.b4 (by omega) (fun _ => ?_) (fun e => absurd e (by decide))
  refine ⟨?_, .inl ⟨240, -1, .inl rfl, rfl⟩⟩
  have hc := HO.out.2.2.2
  have k1 : Keeps (fun _ => False) w _ := (HO.out.1.keeps.trans HR.out.1 fun _ _ h => h).trans hr.k fun k hk e => by omega
  exact k1.setCell _ _ fun e => by simp only at e; omega
 ·
  have hB4 := HO.out.2.1.kept hK1 fun h => h
  have hB5 := HO.out.2.2.1.kept hK1 fun h => h
  have hO1 := HO.out.1.kept hK1
  have hWs : C + 1 + 1 < W.heap.size := HO.out.2.2.1.lt
  obtain ⟨n, hn⟩ : ∃ n : Nat, n = x.frames.toNat := ⟨_, rfl⟩
  rw [← hn] at hMn
  obtain ⟨W2, hW2⟩ : ∃ W2, W2 = (w1.setCell ⟨C + 1, 0, none⟩ (.pointer (some ⟨b, 0, none⟩))).setCell ⟨C + 1 + 1, 0, none⟩ (.int .i64 0) := ⟨_, rfl⟩
  have hR0 : Res w1 C none 0 w1 := ⟨hB4, hB5, Keeps.refl _ _⟩
  have hR2 : Res w1 C (some ⟨b, 0, none⟩) 0 W2 := by rw [hW2]; exact hR0.set (some ⟨b, 0, none⟩) 0
  have c4 := hB4.cell (i := 0) rfl
  have f4 := hB4.frozen 0
  have c5 := hB5.cell (i := 0) rfl
  have f5 := hB5.frozen 0
  have H2 : Hid (One w x C N W2 ∧ Res W2 C (some ⟨b, 0, none⟩) 0 W2 ∧ Mn W2 b g n (baseL x n x.ps.length) ∧ Gd x ∧ n = x.frames.toNat ∧ (w.heap.size ≤ b ∧ w.heap.size ≤ g) ∧ (C + 1 + 1 < b ∧ C + 1 + 1 < g) ∧ C = w.heap.size ∧ N ≤ w.heap.size) := by
   have hc := HO.out.2.2.2
   refine ⟨hO1.kept' hR2.k (by omega) (fun k e => ?_) (fun k e => by omega), ⟨hR2.b4, hR2.b5, Keeps.refl _ _⟩, hMn.kept hR2.k (by omega) (by omega), hg, hn, ⟨by omega, by omega⟩, ⟨by omega, by omega⟩, hc, hO1.n⟩
   have := hO1.n
   omega
  clear hK1 hB4 hB5 HC hMn hg hbg hO1 hR0 hR2 hWs hn q0 q1 q2 q3 q4 q5 q6
  go_upto_region 3 with fail
  rw [← hW2]
  clear hW2 c4 f4 c5 f5
  have c4 := H2.out.2.1.b4.cell (i := 0) rfl
  have f4 := H2.out.2.1.b4.frozen 0
  have c5 := H2.out.2.1.b5.cell (i := 0) rfl
  have f5 := H2.out.2.1.b5.frozen 0
  obtain ⟨q0, q1, q2, q3, q4, q5, q6⟩ := H2.out.1.cells
  obtain ⟨M, hM⟩ : ∃ M, M = x.ps.length := ⟨_, rfl⟩
  have HM : Hid (M = x.ps.length) := hM
  rw [← hM] at q5
  clear hM q0 q1 q2 q3 q4 q6
  by_cases hlm : M < L
  ·
   have hlm' : (M : Int) < L := by omega
   go_upto_region 6 with fail
   refine wp_quiet ?_
   refine wp_region_held_drew (S := fun w' => w'.cell? ⟨C + 1, 0, none⟩ = some (.pointer (some ⟨b, 0, none⟩)) ∧ w'.cell? ⟨C, 5, none⟩ = some (.slice x.pa M x.pc)) Tryz.mixh ⟨c4, q5⟩ (fun hHeld => ?_)
   simp only [t1, t2, List.length_nil, Nat.reduceAdd, t4, Array.replicate_zero, t6, List.nil_append, t8]
   refine hk 0 (.pointer (some ⟨b, 0, none⟩)) hHeld ?_
   refine hk 1 (.pointer (some ⟨C, 5, none⟩)) hHeld ?_
   refine hk 2 (.slice x.pa M x.pc) hHeld ?_
   refine hk 3 (.int .i64 M) hHeld ?_
   simp only [Act.put, s1, s2, s3]
   refine rd 4 fun Kq hK => ?_
   go_simp
   have hx1 : (W2.drew.setCell ⟨C + 1, 0, none⟩ (.pointer (some ⟨b, 0, none⟩))).cell? ⟨C + 1, 0, none⟩ = some (.pointer (some ⟨b, 0, none⟩)) := ((H2.out.2.1.b4.drew).setCell 0 (.pointer (some ⟨b, 0, none⟩))).cell (i := 0) rfl
   have hx2 : (W2.drew.setCell ⟨C + 1, 0, none⟩ (.pointer (some ⟨b, 0, none⟩))).cell? ⟨C, 5, none⟩ = some (.slice x.pa M x.pc) := by
    have hk := (Keeps.refl (· = C + 1) W2).drew.setCell ⟨C + 1, 0, none⟩ (.pointer (some ⟨b, 0, none⟩)) fun _ => rfl
    exact Mq.cell_kept q5 hk (Nat.ne_of_lt (Nat.lt_succ_self C))
   refine hK _ _ ⟨hx1, hx2⟩ (fun hHeld => ?_)
   simp only [Act.put, s1, s2, s3]
   refine rd 5 fun Kq hK => ?_
   have hx3 : (W2.drew.setCell ⟨C + 1, 0, none⟩ (.pointer (some ⟨b, 0, none⟩))).cell? ⟨C + 1 + 1, 0, none⟩ = some (.int .i64 0) := ((H2.out.2.1.b5.drew).setCell_ne (a := ⟨C + 1, 0, none⟩) (by simp) (.pointer (some ⟨b, 0, none⟩))).cell (i := 0) rfl
   go_simp
   have hr := (H2.out.2.1.set (some ⟨b, 0, none⟩) 241)
   have hx4 := hr.b4.drew.cell (i := 0) rfl
   have hx5 : ((W2.setCell ⟨C + 1, 0, none⟩ (.pointer (some ⟨b, 0, none⟩))).setCell ⟨C + 1 + 1, 0, none⟩ (.int .i64 241)).drew.cell? ⟨C, 5, none⟩ = some (.slice x.pa M x.pc) := Mq.cell_kept q5 hr.k.drew (by simp; omega)
   refine hK _ _ ⟨hx4, hx5⟩ (fun hHeld => ?_)
   simp only [Act.put, s1, s2, s3]
   refine hk 6 (.int .i64 M) hHeld ?_
   simp only [Act.put, s1, s2, s3]
   refine wpAnyH_done (by kernel_rfl) ?_ _
   have HR : Hid (Res W2 C (some ⟨b, 0, none⟩) 241 ((W2.setCell ⟨C + 1, 0, none⟩ (.pointer (some ⟨b, 0, none⟩))).setCell ⟨C + 1 + 1, 0, none⟩ (.int .i64 241))) := hr
   clear hHeld hx1 hx2 hx3 hx4 hx5 hr c4 f4 c5 f5 q5
   go_wp2
   refine boot_door _ _ (C + 1 + 1) (C + 1) _ 241 M (some ⟨b, 0, none⟩) rfl rfl rfl HR.out.b5.drew HR.out.b4.drew (by omega) (fun _ => ?_) (fun e => absurd e (by decide))
   refine ⟨?_, .inl ⟨241, M, .inr rfl, rfl⟩⟩
   have hc := H2.out.2.2.2.2.2.2.2.1
   have k1 : Keeps (fun _ => False) w _ := H2.out.1.keeps.trans HR.out.k.drew fun k hk e => by omega
   exact k1.setCell _ _ fun e => by simp only at e; omega
  ·
   have hlm' : ¬ (M : Int) < L := by omega
   have hLM : L ≤ x.ps.length := by have := HM.out; omega
   clear c4 f4 c5 f5 q5 hlm
   have c4 := H2.out.2.1.b4.cell (i := 0) rfl
   have c5 := H2.out.2.1.b5.cell (i := 0) rfl
   have q5 := H2.out.1.cells.2.2.2.2.2.1
   rw [← HM.out] at q5
   go_wp2
   clear c4 c5 q5
   go_loopw [31] (fun i wr => ∃ j : Nat, j ≤ L ∧ i = .int .i64 j ∧ One w x C N wr ∧ Res wr C (some ⟨b, 0, none⟩) 0 wr ∧ Mn wr b g n (bootL x n (ps.map Prg.ws) j) ∧ AllLie x (ps.map Prg.ws) j) (fun i _ => L - (intOf i).toNat)
   case atStart => exact ⟨0, by omega, rfl, H2.out.1, H2.out.2.1, H2.out.2.2.1, fun i P p hi => by omega⟩
   case round =>
    obtain ⟨j, hj, rfl, hO, hRs, hMn, hAl⟩ := hrel
    by_cases hlt : j < L
    ·
     obtain ⟨P, hP⟩ : ∃ P, x.ps[j]? = some P := ⟨_, List.getElem?_eq_getElem (by omega)⟩
     obtain ⟨p, hp⟩ : ∃ p, ps[j]? = some p := ⟨_, List.getElem?_eq_getElem (by have := HL.out; omega)⟩
     have hpw : (ps.map Prg.ws)[j]? = some p.ws := by rw [List.getElem?_map, hp]; rfl
     have h2 := H2.out
     have hPr := HP.out.kept hO.keeps
     obtain ⟨gq, oq, hpa, hqc⟩ := hPr.seg.at hp
     have p0 := hqc 0 (.slice p.a p.ws.length p.c) rfl
     rw [Nat.mul_one, Nat.add_zero] at p0
     have hpk := hPr.each p (List.mem_of_getElem? hp)
     obtain ⟨gp, op, hxa, hpc⟩ := hO.cin.pseg.at hP
     have p6 := hpc 6 (.slice P.ra P.rs.length P.rc) rfl
     obtain ⟨q0, q1, q2, q3, q4, q5, q6⟩ := hO.cells
     rw [hxa, ← HM.out] at q5
     have hpl := hO.cin.plen
     have hpl1 : (M : Int) ≤ x.pc := by have := HM.out; omega
     have hpl2 : (x.pc : Int) ≤ 9223372036854775807 := by unfold maxLen at hpl; omega
     have hjL : (j : Int) < L := by omega
     have hjM : (j : Int) < M := by have := HM.out; omega
     have hgp := h2.2.2.2.1.gp j P hP
     have hpin := hO.cin.pin P (List.mem_of_getElem? hP)
     have hrn : P.rs ≠ [] := fun e => by have := hgp.rlen.1; rw [e] at this; simp at this
     have hnf : (n : Int) = x.frames := by have := h2.2.2.2.1.frames; have := h2.2.2.2.2.1; omega
     have HCA : Hid (∀ w', Keeps (fun _ => False) wr w' → Calls Tryz.prog 20 #[.pointer (some ⟨b, 0, none⟩), .slice P.ra P.rs.length P.rc, .slice p.a p.ws.length p.c] w' (OwnP b g n (bootL x n (ps.map Prg.ws) j) P.rs p.ws w')) := fun w' k =>
      own_any b g n _ P.ra P.rs P.rc p.a p.ws p.c w' (hMn.grown k) ⟨hpin.rlen, hpk.len, hgp.ok h2.2.2.2.1, fun r hr => by have := hgp.fr h2.2.2.2.1 r hr; omega, hgp.fu, hgp.pu⟩ (segR_of (hpin.keeps hO.nn k).rseg) (hpk.seg.kept k fun _ _ h => h)
       (fun y hy e => by have := hpin.rlo hrn y hy; omega) (fun y hy e => by have := hpk.lo y hy; omega)
     have c4 := hRs.b4.cell (i := 0) rfl
     have HR : Hid (One w x C N wr ∧ Res wr C (some ⟨b, 0, none⟩) 0 wr ∧ Mn wr b g n (bootL x n (ps.map Prg.ws) j) ∧ AllLie x (ps.map Prg.ws) j ∧ x.ps[j]? = some P ∧ (ps.map Prg.ws)[j]? = some p.ws) := ⟨hO, hRs, hMn, hAl, hP, hpw⟩
     obtain ⟨pn, hpn⟩ : ∃ pn, pn = p.ws.length := ⟨_, rfl⟩
     obtain ⟨nr, hnr⟩ : ∃ nr, nr = P.rs.length := ⟨_, rfl⟩
     rw [← hpn] at p0 HCA
     rw [← hnr] at p6 HCA
     subst hpa
     clear hxa hO hRs hMn hAl hP hp hpw h2 hPr hqc hpk hpc q0 q1 q2 q3 q4 q6 hpl hgp hpin hrn hnf hpn hnr hj hlt
     go_upto_region 10 with fail
     refine region_tailH 8 (by kernel_rfl) ?_
     simp only [List.take_succ_cons, List.take_zero, List.drop_succ_cons, List.drop_zero]
     repeat still_step
     refine wpStill_nil ?_
     go_wp2_with fail
     refine (HCA.out _ ((Keeps.refl _ wr).drewN 1)).mono ?_
     rintro e w7 (⟨hli, rfl, hm7, hk7⟩ | ⟨hli, rfl, hk7⟩)
     ·
      have hk7' : Keeps (· = g) wr w7 := ((Keeps.refl _ wr).drewN 1).trans hk7 fun _ _ h => h
      have H7 : Hid (One w x C N w7 ∧ Res w7 C (some ⟨b, 0, none⟩) 0 w7 ∧ Mn w7 b g n (bootL x n (ps.map Prg.ws) (j + 1)) ∧ AllLie x (ps.map Prg.ws) (j + 1)) := by
       have h2 := H2.out
       obtain ⟨r1, r2, r3, r4, r5, r6⟩ := HR.out
       refine ⟨r1.kept' hk7' (by omega) (fun k e => by omega) (fun k e => by omega), ⟨r2.b4.kept hk7' (by omega), r2.b5.kept hk7' (by omega), Keeps.refl _ _⟩, ?_, r4.next r5 r6 hli⟩
       rw [bootL_succ r5 r6]; exact hm7
      clear hm7 hk7 hk7' hli HCA c4 q5 p6 p0
      go_wp2
      go_roundw
      case rel => exact ⟨j + 1, by omega, by go_num, H7.out⟩
      case measure => simp [intOf]; omega
     ·
      have hk7' : Keeps (fun _ => False) wr w7 := ((Keeps.refl _ wr).drewN 1).trans hk7 fun _ _ h => h
      have hR7 : Res w7 C (some ⟨b, 0, none⟩) 0 w7 := ⟨HR.out.2.1.b4.kept hk7' (fun h => h), HR.out.2.1.b5.kept hk7' (fun h => h), Keeps.refl _ _⟩
      have HR7 : Hid (Res w7 C (some ⟨b, 0, none⟩) 0 w7 ∧ Keeps (fun _ => False) wr w7) := ⟨hR7, hk7'⟩
      have c4 := hR7.b4.cell (i := 0) rfl
      have f4 := hR7.b4.frozen 0
      have c5 := hR7.b5.cell (i := 0) rfl
      have f5 := hR7.b5.frozen 0
      clear hk7 hk7' hli HCA q5 p6 p0 hR7
      go_wp2
      have hr := HR7.out.1.set (some ⟨b, 0, none⟩) 241
      refine boot_door _ _ (C + 1 + 1) (C + 1) _ 241 j (some ⟨b, 0, none⟩) rfl rfl rfl hr.b5 hr.b4 (by omega) (fun _ => ?_) (fun e => absurd e (by decide))
      refine ⟨?_, .inl ⟨241, j, .inr rfl, rfl⟩⟩
      have hc := H2.out.2.2.2.2.2.2.2.1
      have k1 : Keeps (fun _ => False) w _ := (HR.out.1.keeps.trans HR7.out.2 fun _ _ h => h).trans hr.k fun k hk e => by omega
      exact k1.setCell _ _ fun e => by simp only at e; omega
    ·
     obtain rfl : j = L := by omega
     have HR : Hid (One w x C N wr ∧ Res wr C (some ⟨b, 0, none⟩) 0 wr ∧ Mn wr b g n (bootL x n (ps.map Prg.ws) j) ∧ AllLie x (ps.map Prg.ws) j) := ⟨hO, hRs, hMn, hAl⟩
     have c4 := hRs.b4.cell (i := 0) rfl
     have f4 := hRs.b4.frozen 0
     have c5 := hRs.b5.cell (i := 0) rfl
     have f5 := hRs.b5.frozen 0
     clear hO hRs hMn hAl hlt hj
     go_wp2
     have hr := HR.out.2.1.set (some ⟨b, 0, none⟩) 0
     refine boot_door _ _ (C + 1 + 1) (C + 1) _ 0 (-1) (some ⟨b, 0, none⟩) rfl rfl rfl hr.b5 hr.b4 (by omega) (fun e => absurd rfl e) (fun _ => ?_)
     have h2 := H2.out
     have hn := h2.2.2.2.2.1
     have hps : (ps.map Prg.ws).length = j := by rw [List.length_map, HL.out]
     refine ⟨HR.out.1.keeps.trans hr.k fun k hk e => by omega, .inr ⟨h2.2.2.2.1, ⟨by rw [hps]; exact hLM, by rw [hps]; exact HR.out.2.2.2⟩, b, g, rfl, h2.2.2.2.2.2.1, ?_⟩⟩
     rw [hps, ← hn]
     exact HR.out.2.2.1.kept hr.k (by omega) (by omega)
end Go.Proofs.YtglhfijgnfignaaGreat
