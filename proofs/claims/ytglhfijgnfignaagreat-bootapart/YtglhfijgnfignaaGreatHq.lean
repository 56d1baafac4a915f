import Derived.Test.YtglhfijgnfignaaGreatHp
import Derived.Test.YtglhfijgnfignaaGreatGd
namespace Go.Proofs.YtglhfijgnfignaaGreat
open Go.RowKit Go.Shelf
set_option linter.unusedVariables false
set_option maxRecDepth 6000
set_option linter.unusedSimpArgs false
def stA (x : Cfg) (i : Nat) : Int := 16 * x.kernel + 2 + 24 * i + 2 + 17
theorem Gd.fit {x : Cfg} (g : Gd x) : x.mayB = true ∧ 0 ≤ x.kernel ∧ x.kernel + x.room ≤ x.frames ∧ 1 ≤ x.room ∧ x.endW ≤ x.kernel + x.room := by
 have h := g.ker
 unfold Cfg.kerB Cfg.fitB at h
 simp only [Bool.and_eq_true, inR_iff, decide_eq_true_eq] at h
 obtain ⟨⟨h1, h2⟩, ⟨h3, h4⟩, h5, h6, h7⟩ := h
 exact ⟨h6, h1, by omega, h3, by omega⟩
theorem Gd.at {x : Cfg} (g : Gd x) {i : Nat} (hi : i < x.ps.length) : 0 ≤ stA x i ∧ stA x i + 5 ≤ 16 * x.frames := by
 obtain ⟨hm, h0, h1, h2, h3⟩ := g.fit
 have h4 := chAt_bd hm (chB x (16 * x.kernel)) x.hs.length
 have h5 : 0 ≤ fillN (chE x (16 * x.kernel)) ∧ (chE x (16 * x.kernel) + fillN (chE x (16 * x.kernel))) % 16 = 0 := by unfold fillN; split <;> omega
 have h6 : rtB x (16 * x.kernel) = chE x (16 * x.kernel) + fillN (chE x (16 * x.kernel)) := rfl
 have h7 : chE x (16 * x.kernel) = chAt x (chB x (16 * x.kernel)) x.hs.length := rfl
 have h8 : chB x (16 * x.kernel) = 16 * x.kernel + 2 + 24 * (x.ps.length : Int) := rfl
 have h9 := rtAt_bd x (rtB x (16 * x.kernel)) x.ps.length
 have h10 := h9.2.2 (by rw [h6]; exact h5.2)
 unfold Cfg.endW at h3
 unfold stA
 omega
def svA (x : Cfg) (i : Nat) : Int := 16 * x.kernel + 2 + 24 * i + 2
theorem svA_st (x : Cfg) (i : Nat) : svA x i + 17 = stA x i := rfl
theorem Gd.sv {x : Cfg} (g : Gd x) {i : Nat} : 0 ≤ svA x i := by have := g.fit.2.1; unfold svA; omega
theorem IsW.low {w : World} {lo lo' E : Nat} {sv st : Int} {P : Par} {d : Wrd} {a : Nat} (h : IsW w lo E sv st P d a) (hl : lo' ≤ lo) : IsW w lo' E sv st P d a :=
 ⟨h.sv, h.st, h.en, h.rs, h.ou, h.care.imp id fun ⟨a, b, c, d, e, f⟩ => ⟨a, b, c, d, Nat.le_trans hl e, f⟩⟩
theorem WRw.low {w : World} {lo lo' E : Nat} {x : Cfg} {F G : Nat → Int} {n : Nat} {l : List Value} (h : WRw w lo E x F G n l) (hl : lo' ≤ lo) : WRw w lo' E x F G n l :=
 ⟨h.len, fun i P hi hP => (h.each i P hi hP).elim fun d ⟨a, h1, h2⟩ => ⟨d, a, h1, h2.low hl⟩⟩
def NewP (x : Cfg) (w : World) (e : Ending) (w' : World) : Prop :=
 Keeps (fun _ => False) w w' ∧ ((¬ Gd x ∧ e = .returned (.tuple #[.pointer none, .int .i64 232])) ∨
  (Gd x ∧ ∃ d E l, e = .returned (.tuple #[.pointer (some ⟨d, 0, none⟩), .int .i64 0]) ∧ (w.heap.size ≤ d ∧ w.heap.size ≤ E) ∧ Blk w' d [.int .i64 x.frames, .slice (some ⟨E, 0, none⟩) x.ps.length x.ps.length] 136 ∧ Blk w' E l 149 ∧ WRw w' w.heap.size E x (svA x) (stA x) x.ps.length l))
theorem GP.num {x : Cfg} {p : Nat} {P : Par} (g : GP x p P) : (0 ≤ P.outputs ∧ P.outputs ≤ 1000000) ∧ (0 ≤ P.restarts ∧ P.restarts ≤ 1000000) ∧ 0 ≤ P.entry ∧ P.entry ≤ 1000000 := by
 have h1 := g.dev.2
 have h2 := g.act.2
 have h3 := g.beg
 rw [inR_iff] at h1 h2
 unfold Par.begB at h3
 simp only [Bool.and_eq_true, inR_iff] at h3
 omega
set_option maxHeartbeats 4000000 in
theorem new_any (x : Cfg) (w : World) (N : Nat) (hi : x.In w N) (hN : N ≤ w.heap.size) :
  Calls Tryz.prog 37 #[x.v] w (NewP x w) := by
 obtain ⟨W, hW⟩ : ∃ W, W = x.laid w := ⟨_, rfl⟩
 obtain ⟨C, hC⟩ : ∃ C, C = w.heap.size := ⟨_, rfl⟩
 have hO : One w x C N W := by rw [hW, hC]; exact One.mk' hi hN
 have HO : Hid (One w x C N W) := hO
 have HC : Hid (Calls Tryz.prog 35 #[x.v] W (ChkP x W)) := Check_any x W N hO.cin hO.nn
 obtain ⟨q0, q1, q2, q3, q4, q5, q6⟩ := HO.out.cells
 unfold Cfg.laid at hW
 clear hi hN hO
 go_enter Tryz.func37, Tryz.ntmps37
 go_upto_region 1 with fail
 rw [← hW, ← hC]
 clear hW hC
 go_wp2_with fail
 refine HC.out.mono ?_
 rintro e w1 ⟨rfl, hK1⟩
 obtain ⟨W1, hW1⟩ : ∃ W1, W1 = w1.alloc (.cells #[.int .i64 (chk x).a, .int .i64 (chk x).b] 92) := ⟨_, rfl⟩
 have hK2 : Keeps (fun _ => False) W W1 := by rw [hW1]; exact hK1.alloc _
 have HO1 : Hid (One w x C N W1) := HO.out.kept hK2
 clear hK1 hK2 HC q0 q1 q2 q3 q4 q5 q6
 go_upto_region 2 with fail
 rw [← hW1]
 clear hW1
 by_cases hn : (chk x).n = 0
 case neg =>
  have HN : Hid (¬ Gd x) := fun g => hn (chk_n.2 g)
  go_wp2_with fail
  go_ret2
  exact ⟨HO1.out.keeps, .inl ⟨HN.out, rfl⟩⟩
 have HG : Hid (Gd x) := chk_n.1 hn
 have HC : Hid (Calls Tryz.prog 8 #[x.v] W1 (OfP x W1)) := Of_any x W1 N HO1.out.cin HO1.out.nn
 obtain ⟨q0, q1, q2, q3, q4, q5, q6⟩ := HO1.out.cells
 go_wp2_with fail
 refine HC.out.mono ?_
 rintro e w2 ⟨hK2, ⟨hm, _⟩ | ⟨hm, b1, b2, F, G, T, D, rfl, hLD, hF, hG⟩⟩
 ·
  exact absurd hm (by rw [HG.out.fit.1]; decide)
 obtain ⟨Z, hZ⟩ : ∃ Z, Z = rtAt x (rtB x (16 * x.kernel)) x.ps.length / 16 := ⟨_, rfl⟩
 rw [← hZ]
 clear hZ hG hm
 obtain ⟨A, hA⟩ : ∃ A, A = w2.heap.size := ⟨_, rfl⟩
 obtain ⟨W2, hW2⟩ : ∃ W2, W2 = w2.alloc (.cells #[.int .i64 (16 * x.kernel), .slice (some ⟨b1, 0, none⟩) x.ps.length x.ps.length, .slice (some ⟨b2, 0, none⟩) x.hs.length x.hs.length, .int .i64 Z] 37) := ⟨_, rfl⟩
 have hK3 : Keeps (fun _ => False) W1 W2 := by rw [hW2]; exact hK2.alloc _
 have HO2 : Hid (One w x C N W2 ∧ Blk W2 A [.int .i64 (16 * x.kernel), .slice (some ⟨b1, 0, none⟩) x.ps.length x.ps.length, .slice (some ⟨b2, 0, none⟩) x.hs.length x.hs.length, .int .i64 Z] 37 ∧ Blk W2 b1 (row5 (fun i => (F i).vs) x.ps.length) 42 ∧ ∀ i, i < x.ps.length → (F i).save = svA x i ∧ (F i).state = stA x i) := by
  refine ⟨HO1.out.kept hK3, ?_, ?_, fun i hi => ⟨(hF i hi).2.1, (hF i hi).2.2.1⟩⟩
  ·
   rw [hW2, hA]; exact Blk.new _ _ _
  ·
   rw [hW2]; exact hLD.p.alloc _
 clear hK2 hK3 HC q0 q1 q2 q3 q4 q5 q6 hLD hF hn
 go_upto_region 7 with fail
 rw [← hW2, ← hA]
 clear hW2 hA
 have HS4 : Hid (∀ w', Keeps (fun _ => False) W2 w' → w'.cell? ⟨C, 0, none⟩ = some (.int .i64 x.frames) ∧ w'.cell? ⟨C, 1, none⟩ = some (.int .i64 x.major) ∧ w'.cell? ⟨C, 2, none⟩ = some (.int .i64 x.kernel) ∧ w'.cell? ⟨C, 3, none⟩ = some (.int .i64 x.room) ∧ w'.cell? ⟨C, 4, none⟩ = some (.slice x.ca x.cs.length x.cc) ∧ w'.cell? ⟨C, 5, none⟩ = some (.slice x.pa x.ps.length x.pc) ∧ w'.cell? ⟨C, 6, none⟩ = some (.slice x.ha x.hs.length x.hc) ∧ w'.cell? ⟨A, 0, none⟩ = some (.int .i64 (16 * x.kernel)) ∧ w'.cell? ⟨A, 1, none⟩ = some (.slice (some ⟨b1, 0, none⟩) x.ps.length x.ps.length) ∧ w'.cell? ⟨A, 2, none⟩ = some (.slice (some ⟨b2, 0, none⟩) x.hs.length x.hs.length) ∧ w'.cell? ⟨A, 3, none⟩ = some (.int .i64 Z)) := fun w' hK => by
  have h1 := (HO2.out.1.kept hK).cells
  have h2 := HO2.out.2.1.kept hK fun h => h
  exact ⟨h1.1, h1.2.1, h1.2.2.1, h1.2.2.2.1, h1.2.2.2.2.1, h1.2.2.2.2.2.1, h1.2.2.2.2.2.2, h2.cell rfl, h2.cell rfl, h2.cell rfl, h2.cell rfl⟩
 have HCE : Hid (∀ w', Keeps (fun _ => False) W2 w' → Calls Tryz.prog 61 #[x.v, .agg #[.int .i64 (16 * x.kernel), .slice (some ⟨b1, 0, none⟩) x.ps.length x.ps.length, .slice (some ⟨b2, 0, none⟩) x.hs.length x.hs.length, .int .i64 Z]] w' fun e w'' =>
   Keeps (fun _ => False) W2 w'' ∧ ∃ E l, e = .returned (.slice (some ⟨E, 0, none⟩) x.ps.length x.ps.length) ∧ W2.heap.size ≤ E ∧ Blk w'' E l 149 ∧ WRw w'' W2.heap.size E x (svA x) (stA x) x.ps.length l) := fun w' hK => by
  have hg := HG.out
  refine (wards_any x b1 (16 * x.kernel) 0 Z (some ⟨b2, 0, none⟩) x.hs.length x.hs.length (svA x) (stA x) w' N (HO2.out.1.kept hK).cin (HO2.out.1.kept hK).nn hg.ps.2 hg.ps.1 (fun i hi => ⟨⟨?_, ?_⟩, hg.sv, (hg.at hi).1⟩) (fun P hP => ?_)).mono ?_
  ·
   have h3 := HO2.out.2.2.1.kept hK fun h => h
   refine h3.cell ?_
   rw [row5_get (fun _ => rfl) hi (by decide), ← (HO2.out.2.2.2 i hi).1]
   rfl
  ·
   have h3 := HO2.out.2.2.1.kept hK fun h => h
   refine h3.cell ?_
   rw [row5_get (fun _ => rfl) hi (by decide), ← (HO2.out.2.2.2 i hi).2]
   rfl
  ·
   obtain ⟨p, hp⟩ := List.getElem?_of_mem hP
   exact (hg.gp p P hp).num
  ·
   rintro e w'' ⟨h1, E, l, h2, h3, h4, h5⟩
   exact ⟨hK.trans h1 fun _ _ h => h, E, l, h2, Nat.le_trans hK.size h3, h4, h5.low hK.size⟩
 refine wp_region_held_drew (S := (fun w' => w'.cell? ⟨C, 0, none⟩ = some (.int .i64 x.frames) ∧ w'.cell? ⟨C, 1, none⟩ = some (.int .i64 x.major) ∧ w'.cell? ⟨C, 2, none⟩ = some (.int .i64 x.kernel) ∧ w'.cell? ⟨C, 3, none⟩ = some (.int .i64 x.room) ∧ w'.cell? ⟨C, 4, none⟩ = some (.slice x.ca x.cs.length x.cc) ∧ w'.cell? ⟨C, 5, none⟩ = some (.slice x.pa x.ps.length x.pc) ∧ w'.cell? ⟨C, 6, none⟩ = some (.slice x.ha x.hs.length x.hc) ∧ w'.cell? ⟨A, 0, none⟩ = some (.int .i64 (16 * x.kernel)) ∧ w'.cell? ⟨A, 1, none⟩ = some (.slice (some ⟨b1, 0, none⟩) x.ps.length x.ps.length) ∧ w'.cell? ⟨A, 2, none⟩ = some (.slice (some ⟨b2, 0, none⟩) x.hs.length x.hs.length) ∧ w'.cell? ⟨A, 3, none⟩ = some (.int .i64 Z))) Tryz.mixh (HS4.out _ (Keeps.refl _ W2).drew) (fun hHeld => ?_)
 simp only [t1, t2, List.length_nil, Nat.reduceAdd, t4, Array.replicate_zero, t6, List.nil_append, t8]
 refine hk 0 (.pointer (some ⟨C, 0, none⟩)) hHeld ?_
 refine hk 1 (.int .i64 x.frames) hHeld ?_
 refine hk 2 (.agg #[.int .i64 x.frames, .int .i64 x.major, .int .i64 x.kernel, .int .i64 x.room, .slice x.ca x.cs.length x.cc, .slice x.pa x.ps.length x.pc, .slice x.ha x.hs.length x.hc]) hHeld ?_
 refine hk 3 (.agg #[.int .i64 (16 * x.kernel), .slice (some ⟨b1, 0, none⟩) x.ps.length x.ps.length, .slice (some ⟨b2, 0, none⟩) x.hs.length x.hs.length, .int .i64 Z]) hHeld ?_
 simp only [Act.put, s1, s2, s3]
 refine rd 4 fun Kq hK => ?_
 go_simp
 refine (HCE.out _ (Keeps.refl _ W2).drew).mono ?_
 rintro e w5 ⟨hK5, E, l, rfl, hE1, hE2, hE3⟩
 refine hK _ _ (HS4.out w5 hK5) (fun hHeld => ?_)
 simp only [Act.put, s1, s2, s3]
 refine hk 5 (.agg #[.int .i64 x.frames, .slice (some ⟨E, 0, none⟩) x.ps.length x.ps.length]) hHeld ?_
 simp only [Act.put, s1, s2, s3]
 refine rd 6 fun Kq hK => ?_
 go_simp
 refine hK _ _ (HS4.out _ (hK5.alloc _)) (fun hHeld => ?_)
 simp only [Act.put, s1, s2, s3]
 refine hk 7 (.pointer (some ⟨w5.heap.size, 0, none⟩)) hHeld ?_
 refine hk 8 (.int .i64 0) hHeld ?_
 simp only [Act.put, s1, s2, s3]
 refine wpAnyH_done (by kernel_rfl) ?_ _
 clear hHeld
 go_wp2
 go_ret2
 have hz2 : w.heap.size ≤ W2.heap.size := HO2.out.1.keeps.size
 refine ⟨(HO2.out.1.keeps.trans hK5 fun _ _ h => h).alloc _, .inr ⟨HG.out, w5.heap.size, E, l, rfl, ⟨Nat.le_trans hz2 hK5.size, Nat.le_trans hz2 hE1⟩, Blk.new _ _ _, hE2.alloc _, (hE3.low hz2).kept ((Keeps.refl (fun _ => False) _).alloc _) fun _ h => h.elim⟩⟩
end Go.Proofs.YtglhfijgnfignaaGreat
