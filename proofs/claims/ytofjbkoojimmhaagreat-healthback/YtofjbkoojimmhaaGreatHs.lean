import Derived.Test.YtofjbkoojimmhaaGreatHq
import Derived.Test.YtofjbkoojimmhaaGreatYl
import Derived.Test.YtofjbkoojimmhaaGreatHn
namespace Go.Proofs.YtofjbkoojimmhaaGreat
open Go.RowKit Go.Shelf
set_option linter.unusedVariables false
set_option maxRecDepth 6000
set_option linter.unusedSimpArgs false
def RNewP (x : Cfg) (w : World) (e : Ending) (w' : World) : Prop :=
 Keeps (fun _ => False) w w' ∧ ((¬ Gd x ∧ e = .returned (.tuple #[.pointer none, .int .i64 232])) ∨ (Gd x ∧ ∃ d, e = .returned (.tuple #[.pointer (some ⟨d, 0, none⟩), .int .i64 0])))
set_option maxHeartbeats 4000000 in
theorem rnew_of (hof : ∀ (x : Cfg) (w : World) (N : Nat), x.In w N → N ≤ w.heap.size → Calls Tryz.prog 13 #[x.v] w (OfP x w)) (x : Cfg) (w : World) (N : Nat) (hi : x.In w N) (hN : N ≤ w.heap.size) :
  Calls Tryz.prog 16 #[x.v] w (RNewP x w) := by
 obtain ⟨W, hW⟩ : ∃ W, W = x.laid w := ⟨_, rfl⟩
 obtain ⟨C, hC⟩ : ∃ C, C = w.heap.size := ⟨_, rfl⟩
 have hO : One w x C N W := by rw [hW, hC]; exact One.mk' hi hN
 have HO : Hid (One w x C N W) := hO
 have HC : Hid (Calls Tryz.prog 36 #[x.v] W (FlP (chk x) W)) := dcheck_of hof x W N hO.cin hO.nn
 have HOF : Hid (∀ (x : Cfg) (w : World) (N : Nat), x.In w N → N ≤ w.heap.size → Calls Tryz.prog 13 #[x.v] w (OfP x w)) := hof
 obtain ⟨q0, q1, q2, q3, q4, q5, q6⟩ := HO.out.cells
 unfold Cfg.laid at hW
 clear hi hN hO hof
 go_enter Tryz.func16, Tryz.ntmps16
 go_upto_region 1 with fail
 rw [← hW, ← hC]
 clear hW hC
 go_wp2_with fail
 refine HC.out.mono ?_
 rintro e w1 ⟨rfl, hK1⟩
 obtain ⟨W1, hW1⟩ : ∃ W1, W1 = w1.alloc (.cells #[.int .i64 (chk x).a, .int .i64 (chk x).b] 114) := ⟨_, rfl⟩
 have hK2 : Keeps (fun _ => False) W W1 := by rw [hW1]; exact hK1.alloc _
 have HO1 : Hid (One w x C N W1) := HO.out.kept hK2
 clear hK1 hK2 HC q0 q1 q2 q3 q4 q5 q6
 go_upto_region 2 with fail
 rw [← hW1]
 clear hW1
 by_cases hn : (chk x).n = 0
 case neg =>
  have HN : Hid (¬ Gd x) := fun g => hn (chk_n.2 g)
  go_wp2_with fail
  go_ret2
  exact ⟨HO1.out.keeps, .inl ⟨HN.out, rfl⟩⟩
 have HG : Hid (Gd x) := chk_n.1 hn
 have HC : Hid (Calls Tryz.prog 13 #[x.v] W1 (OfP x W1)) := HOF.out x W1 N HO1.out.cin HO1.out.nn
 obtain ⟨q0, q1, q2, q3, q4, q5, q6⟩ := HO1.out.cells
 go_wp2_with fail
 refine HC.out.mono ?_
 rintro e w2 ⟨hK2, ⟨hm, _⟩ | ⟨hm, b1, b2, F, G, T, D, rfl, hLD, hF, hG⟩⟩
 ·
  exact absurd hm (by rw [HG.out.fit.1]; decide)
 obtain ⟨Z, hZ⟩ : ∃ Z, Z = rtAt x (rtB x (16 * x.kernel)) x.ps.length / 16 := ⟨_, rfl⟩
 rw [← hZ]
 clear hZ hG hm
 obtain ⟨A, hA⟩ : ∃ A, A = w2.heap.size := ⟨_, rfl⟩
 obtain ⟨W2, hW2⟩ : ∃ W2, W2 = w2.alloc (.cells #[.int .i64 (16 * x.kernel), .slice (some ⟨b1, 0, none⟩) x.ps.length x.ps.length, .slice (some ⟨b2, 0, none⟩) x.hs.length x.hs.length, .int .i64 Z] 58) := ⟨_, rfl⟩
 have hK3 : Keeps (fun _ => False) W1 W2 := by rw [hW2]; exact hK2.alloc _
 have HO2 : Hid (One w x C N W2 ∧ Blk W2 A [.int .i64 (16 * x.kernel), .slice (some ⟨b1, 0, none⟩) x.ps.length x.ps.length, .slice (some ⟨b2, 0, none⟩) x.hs.length x.hs.length, .int .i64 Z] 58 ∧ Blk W2 b1 (row5 (fun i => (F i).vs) x.ps.length) 65 ∧ ∀ i, i < x.ps.length → (F i).save = svA x i ∧ (F i).state = stA x i) := by
  refine ⟨HO1.out.kept hK3, ?_, ?_, fun i hi => ⟨(hF i hi).2.1, (hF i hi).2.2.1⟩⟩
  ·
   rw [hW2, hA]; exact Blk.new _ _ _
  ·
   rw [hW2]; exact hLD.p.alloc _
 clear hK2 hK3 HC q0 q1 q2 q3 q4 q5 q6 hLD hF hn
 go_upto_region 7 with fail
 rw [← hW2, ← hA]
 clear hW2 hA
 obtain ⟨q0, q1, q2, q3, q4, q5, q6⟩ := HO2.out.1.cells
 have a0 := HO2.out.2.1.cell (i := 0) rfl
 have a1 := HO2.out.2.1.cell (i := 1) rfl
 have a2 := HO2.out.2.1.cell (i := 2) rfl
 have a3 := HO2.out.2.1.cell (i := 3) rfl
 go_wp2
 go_ret2
 exact ⟨HO2.out.1.keeps.alloc _, .inr ⟨HG.out, _, rfl⟩⟩
end Go.Proofs.YtofjbkoojimmhaaGreat
namespace Go.Proofs.YtofjbkoojimmhaaGreat
open Go.RowKit Go.Shelf
open Mq
set_option linter.unusedVariables false
set_option maxRecDepth 6000
set_option linter.unusedSimpArgs false
structure Abt (x : Cfg) (B : Nat) (c : Cns) (L : Nat) (P : Par) : Prop where
 par : x.ps[c.p]? = some P
 act : c.act = P.action
 rs : c.d.rs = P.restarts
 en : (c.d.en.toNat : Int) = P.entry
 sv : (c.d.sv : Int) = svA x c.p
 st : (c.d.st : Int) = stA x c.p
 len : (L : Int) = 16 * x.frames
 gd : Gd x
 lo : B ≤ c.g
def BegP (x : Cfg) (p : Int) (w : World) (e : Ending) (w' : World) : Prop :=
 (e = .returned (.tuple #[.pointer none, .pointer none, .bool false, .bool true]) ∧ Keeps (fun _ => False) w w') ∨
 (∃ c P xs, e = .returned (.tuple #[.pointer (some ⟨c.W, 0, none⟩), .pointer (some ⟨c.b, 0, none⟩), .bool true, .bool true]) ∧ Keeps (fun _ => False) w w' ∧ p = (c.p : Int) ∧ Hw w' c xs Sta0 (ent c.d.en) ∧ Abt x w.heap.size c xs.length P)
theorem zero_win (n a k : Nat) (h : a + k ≤ n) : ((List.replicate n (0 : UInt32)).drop a).take k = List.replicate k 0 := by
 rw [List.drop_replicate, List.take_replicate]
 congr 1
 omega
theorem mkHw {x : Cfg} {w' : World} {B W E b g n k : Nat} {l : List Value} {P : Par} (hg : Gd x) (hW : Blk w' W [.int .i64 x.frames, .slice (some ⟨E, 0, none⟩) x.ps.length x.ps.length] 120) (hE : Blk w' E l 82) (hr : WRw w' B E x (svA x) (stA x) x.ps.length l) (hP : x.ps[k]? = some P) (hm : Mm w' b g (List.replicate (n * 16) 0)) (hn : (n : Int) = x.frames) (hlo : B ≤ g) (h1 : W < g) (h2 : E < g) :
  ∃ c, c.W = W ∧ c.b = b ∧ c.g = g ∧ c.p = k ∧ Hw w' c (List.replicate (n * 16) 0) Sta0 (List.replicate 17 0) ∧ Abt x B c (n * 16) P := by
 have hk := (List.getElem?_eq_some_iff.1 hP).1
 obtain ⟨d, a, hd, hi⟩ := hr.each k P hk hP
 have hnum := (hg.gp k P hP).num
 have hat := hg.at hk
 have hss := svA_st x k
 have e1 := hi.sv
 have e2 := hi.st
 refine ⟨⟨x.frames, x.ps.length, k, W, E, b, g, a, P.action, d⟩, rfl, rfl, rfl, rfl, ?_, ⟨hP, rfl, hi.rs, hi.en, e1, e2, by omega, hg, hlo⟩⟩
 refine ⟨⟨hW, ⟨l, hE, hr.len, hd⟩, hk⟩, hm, ?_, ?_, ?_, ?_, ?_, ?_, ?_, Nat.ne_of_lt h1, Nat.ne_of_lt h2, ?_⟩
 ·
  show (((List.replicate (n * 16) (0 : UInt32)).length / 16 : Nat) : Int) = x.frames
  rw [List.length_replicate]; omega
 ·
  show d.sv + 17 ≤ d.st; omega
 ·
  show d.st + 5 ≤ _
  rw [List.length_replicate]; omega
 ·
  exact zero_win _ _ 5 (by show d.st + 5 ≤ _; omega)
 ·
  exact zero_win _ _ 17 (by show d.sv + 17 ≤ _; omega)
 ·
  refine ⟨by decide, ?_, by decide, fun _ => rfl, ?_, fun e => absurd e (by decide)⟩
  ·
   show (0 : Int) ≤ d.rs; rw [hi.rs]; omega
  ·
   show (0 : Int) ≤ d.ou; rw [hi.ou]; omega
 ·
  rcases hi.care with ⟨a1, a2, a3⟩ | ⟨a1, a2, a3, a4, a5, a6⟩
  ·
   exact .inl ⟨a1, a2, a3⟩
  ·
   refine .inr ⟨a1, a2, a3, a4, fun e => ?_⟩
   have e' : a = g := e
   have q := hm.row
   rw [e'] at a4
   unfold Blk at a4 q
   rw [a4] at q
   simp at q
 ·
  show d.rs ≤ 4294967295; rw [hi.rs]; omega
set_option maxHeartbeats 1000000 in
theorem begun_of (hof : ∀ (x : Cfg) (w : World) (N : Nat), x.In w N → N ≤ w.heap.size → Calls Tryz.prog 13 #[x.v] w (OfP x w)) (x : Cfg) (p : Int) (w : World) (N : Nat) (hi : x.In w N) (hN : N ≤ w.heap.size) :
  Calls Tryz.prog 7 #[x.v, .int .i64 p] w (BegP x p w) := by
 obtain ⟨W, hW⟩ : ∃ W, W = x.laid w := ⟨_, rfl⟩
 obtain ⟨C, hC⟩ : ∃ C, C = w.heap.size := ⟨_, rfl⟩
 have hO : One w x C N W := by rw [hW, hC]; exact One.mk' hi hN
 have HO : Hid (One w x C N W) := hO
 have HC : Hid (Calls Tryz.prog 15 #[x.v] W (NewP x W)) := new_any x W N hO.cin hO.nn
 have HOF : Hid (∀ (x : Cfg) (w : World) (N : Nat), x.In w N → N ≤ w.heap.size → Calls Tryz.prog 13 #[x.v] w (OfP x w)) := hof
 obtain ⟨q0, q1, q2, q3, q4, q5, q6⟩ := HO.out.cells
 unfold Cfg.laid at hW
 clear hi hN hO hof
 go_enter Tryz.func7, Tryz.ntmps7
 go_upto_region 1 with fail
 rw [← hW, ← hC]
 clear hW hC
 go_wp2_with fail
 refine HC.out.mono ?_
 rintro e w1 ⟨hK1, hA⟩
 clear q0 q1 q2 q3 q4 q5 q6 HC
 have HO1 : Hid (One w x C N w1) := HO.out.kept hK1
 have HC2 : Hid (Calls Tryz.prog 16 #[x.v] w1 (RNewP x w1)) := rnew_of HOF.out x w1 N HO1.out.cin HO1.out.nn
 obtain ⟨q0, q1, q2, q3, q4, q5, q6⟩ := HO1.out.cells
 rcases hA with ⟨hg, rfl⟩ | ⟨hg, d, E, l, rfl, hlo, hB1, hB2, hB3⟩
 ·
  have HG : Hid (¬ Gd x) := hg
  clear hg hK1
  go_wp2_with fail
  refine HC2.out.mono ?_
  rintro e w2 ⟨hK2, ⟨_, rfl⟩ | ⟨hg, _⟩⟩
  ·
   have HK : Hid (Keeps (fun _ => False) w w2) := HO1.out.keeps.trans hK2 fun _ _ h => h
   clear hK2 q0 q1 q2 q3 q4 q5 q6 HC2
   go_wp2
   go_returns
   exact .inl ⟨rfl, HK.out⟩
  ·
   exact absurd hg HG.out
 have HG : Hid (Gd x ∧ (W.heap.size ≤ d ∧ W.heap.size ≤ E) ∧ Blk w1 d [.int .i64 x.frames, .slice (some ⟨E, 0, none⟩) x.ps.length x.ps.length] 120 ∧ Blk w1 E l 82 ∧ WRw w1 W.heap.size E x (svA x) (stA x) x.ps.length l) := ⟨hg, hlo, hB1, hB2, hB3⟩
 clear hg hlo hB1 hB2 hB3 hK1
 go_wp2_with fail
 refine HC2.out.mono ?_
 rintro e w2 ⟨hK2, ⟨hg, _⟩ | ⟨_, dd, rfl⟩⟩
 ·
  exact absurd HG.out.1 hg
 have HO2 : Hid (One w x C N w2) := HO1.out.kept hK2
 have HK2 : Hid (Keeps (fun _ => False) w1 w2) := hK2
 clear hK2 HC2 q0 q1 q2 q3 q4 q5 q6
 obtain ⟨q0, q1, q2, q3, q4, q5, q6⟩ := HO2.out.cells
 obtain ⟨n, hn⟩ : ∃ n : Nat, (n : Int) = x.frames := ⟨x.frames.toNat, by have := HG.out.1.frames; omega⟩
 have HF : Hid ((n : Int) = x.frames ∧ 1 ≤ n ∧ n ≤ 1024) := by have := HG.out.1.frames; exact ⟨hn, by omega, by omega⟩
 have HC3 : Hid (Calls Tryz.prog 17 #[.int .i64 n] w2 _) := new_in n w2 HF.out.2.1 HF.out.2.2
 rw [← hn] at q0
 clear hn
 go_upto_region 5 with fail
 go_wp2_with fail
 refine HC3.out.mono ?_
 rintro e w3 ⟨rfl, hM, hK3⟩
 have HO3 : Hid (One w x C N w3) := HO2.out.kept hK3
 obtain ⟨g, hg⟩ : ∃ g, g = w2.heap.size := ⟨_, rfl⟩
 rw [← hg] at hM ⊢
 have hK13 := HK2.out.trans hK3 fun _ _ h => h
 have HM : Hid (Mm w3 (g + 1) g (List.replicate (n * 16) 0) ∧ Blk w3 d [.int .i64 x.frames, .slice (some ⟨E, 0, none⟩) x.ps.length x.ps.length] 120 ∧ Blk w3 E l 82 ∧ WRw w3 W.heap.size E x (svA x) (stA x) x.ps.length l ∧ W.heap.size ≤ g ∧ d < g ∧ E < g ∧ w.heap.size ≤ W.heap.size) :=
  ⟨hM, HG.out.2.2.1.kept hK13 fun h => h, HG.out.2.2.2.1.kept hK13 fun h => h, HG.out.2.2.2.2.kept hK13 fun _ h => h.elim, by
   have := Nat.lt_of_lt_of_le HG.out.2.2.1.lt HK2.out.size; have := HG.out.2.1.1; omega, by rw [hg]; exact Nat.lt_of_lt_of_le HG.out.2.2.1.lt HK2.out.size, by rw [hg]; exact Nat.lt_of_lt_of_le HG.out.2.2.2.1.lt HK2.out.size, HO.out.keeps.size⟩
 clear hM hK3 hK13 hg HC3 q0 q1 q2 q3 q4 q5 q6
 obtain ⟨q0, q1, q2, q3, q4, q5, q6⟩ := HO3.out.cells
 clear q0 q1 q2 q3 q4 q6
 by_cases hp : p < 0 ∨ (x.ps.length : Int) ≤ p
 ·
  have HC4 : Hid (Calls Tryz.prog 18 #[.pointer (some ⟨d, 0, none⟩), .pointer (some ⟨g + 1, 0, none⟩), .int .i64 p] w3 _) := bgn_no x.frames E x.ps.length d (g + 1) g p _ w3 HM.out.2.1 HM.out.1 (by rw [List.length_replicate]; have := HF.out.1; omega) hp
  go_upto_region 8 with fail
  go_wp2_with fail
  refine HC4.out.mono ?_
  rintro e w4 ⟨rfl, hK4⟩
  have HO4 : Hid (One w x C N w4) := HO3.out.kept hK4
  clear hK4 HC4 q5
  obtain ⟨_, _, _, _, _, q5, _⟩ := HO4.out.cells
  by_cases h0 : p < 0
  ·
   clear hp
   go_wp2
   go_returns
   exact .inl ⟨rfl, HO4.out.keeps⟩
  ·
   have h1 : (x.ps.length : Int) ≤ p := by omega
   clear hp
   go_wp2
   go_returns
   exact .inl ⟨rfl, HO4.out.keeps⟩
 ·
  obtain ⟨k, hk⟩ : ∃ k : Nat, (k : Int) = p := ⟨p.toNat, by omega⟩
  subst hk
  have hkl : k < x.ps.length := by omega
  obtain ⟨P, hP⟩ : ∃ P, x.ps[k]? = some P := ⟨_, List.getElem?_eq_getElem hkl⟩
  obtain ⟨c, e1, e2, e3, e4, hh, ha⟩ := mkHw HG.out.1 HM.out.2.1 HM.out.2.2.1 HM.out.2.2.2.1 hP HM.out.1 HF.out.1 HM.out.2.2.2.2.1 HM.out.2.2.2.2.2.1 HM.out.2.2.2.2.2.2.1
  have HC4 : Hid (Calls Tryz.prog 18 #[.pointer (some ⟨d, 0, none⟩), .pointer (some ⟨g + 1, 0, none⟩), .int .i64 k] w3 fun e w' => Left c w3 e (.int .i64 0) (lay (lay (List.replicate (n * 16) 0) (c.d.st + 0) zw5) c.d.sv (ent c.d.en)) Sta0 (ent c.d.en) w') := by
   have := bgn_any c _ Sta0 _ w3 hh
   rw [e1, e2, e4] at this
   exact this
  have HA : Hid (Abt x W.heap.size c (n * 16) P ∧ c.W = d ∧ c.b = g + 1 ∧ c.g = g ∧ c.p = k ∧ Hw w3 c (List.replicate (n * 16) 0) Sta0 (List.replicate 17 0)) := ⟨ha, e1, e2, e3, e4, hh⟩
  have k0 : ¬ (k : Int) < 0 := by omega
  have k1 : (k : Int) < x.ps.length := by omega
  clear hp hkl hP e1 e2 e3 e4 hh ha
  go_upto_region 8 with fail
  go_wp2_with fail
  refine HC4.out.mono ?_
  rintro e w4 ⟨rfl, hh, hK4⟩
  have hKw : Keeps (fun _ => False) w w4 := HO3.out.keeps.trans hK4 fun i hi e => by
   have h1 := HA.out.2.2.2.1
   have h2 := HM.out.2.2.2.2.1
   have h3 := HM.out.2.2.2.2.2.2.2
   omega
  have q5' : w4.cell? ⟨C, 5, none⟩ = some (.slice x.pa x.ps.length x.pc) := (HO3.out.cfg.kept hK4 (fun e => by
   have h1 := HA.out.2.2.2.1
   have h2 := HM.out.2.2.2.2.1
   have h3 := HO.out.cfg.lt
   omega)).cell rfl
  have H4 : Hid (Hw w4 c (lay (lay (List.replicate (n * 16) 0) (c.d.st + 0) zw5) c.d.sv (ent c.d.en)) Sta0 (ent c.d.en) ∧ Keeps (fun _ => False) w w4) := ⟨hh, hKw⟩
  clear hh hK4 hKw HC4 q5
  go_wp2
  go_returns
  refine .inr ⟨c, P, _, ?_, H4.out.2, by rw [HA.out.2.2.2.2.1], H4.out.1, ?_⟩
  ·
   rw [HA.out.2.1, HA.out.2.2.1]
  ·
   have a := HA.out.1
   refine ⟨a.par, a.act, a.rs, a.en, a.sv, a.st, ?_, a.gd, Nat.le_trans HM.out.2.2.2.2.2.2.2 a.lo⟩
   rw [lay_length, lay_length, List.length_replicate]
   ·
    exact a.len
   ·
    have := HA.out.2.2.2.2.2.hi; simp [zw5]; simp at this; omega
   ·
    rw [lay_length]
    ·
     have := HA.out.2.2.2.2.2.hi; have := HA.out.2.2.2.2.2.lo; simp [ent]; simp at *; omega
    ·
     have := HA.out.2.2.2.2.2.hi; simp [zw5]; simp at this; omega
end Go.Proofs.YtofjbkoojimmhaaGreat
