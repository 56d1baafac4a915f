import Derived.Test.YtfbapgcopidbpaaGreatVe
namespace Go.Proofs.YtfbapgcopidbpaaGreat
open Go.RowKit Go.Shelf
open Mq (SegW wvs wvs_length wvs_get run_make_words run_copy_wb segW_of_blk)
set_option linter.unusedVariables false
set_option maxRecDepth 6000
set_option linter.unusedSimpArgs false
def stA (x : Cfg) (i : Nat) : Int := 16 * x.kernel + 2 + 24 * i + 2 + 17
theorem Gd.fit {x : Cfg} (g : Gd x) : x.mayB = true ∧ 0 ≤ x.kernel ∧ x.kernel + x.room ≤ x.frames ∧ 1 ≤ x.room ∧ x.endW ≤ x.kernel + x.room := by
 have h := g.ker
 unfold Cfg.kerB Cfg.fitB at h
 simp only [Bool.and_eq_true, inR_iff, decide_eq_true_eq] at h
 obtain ⟨⟨h1, h2⟩, ⟨h3, h4⟩, h5, h6, h7⟩ := h
 exact ⟨h6, h1, by omega, h3, by omega⟩
theorem Gd.at {x : Cfg} (g : Gd x) {i : Nat} (hi : i < x.ps.length) : 0 ≤ stA x i ∧ stA x i + 5 ≤ 16 * x.frames := by
 obtain ⟨hm, h0, h1, h2, h3⟩ := g.fit
 have h4 := chAt_bd hm (chB x (16 * x.kernel)) x.hs.length
 have h5 : 0 ≤ fillN (chE x (16 * x.kernel)) ∧ (chE x (16 * x.kernel) + fillN (chE x (16 * x.kernel))) % 16 = 0 := by unfold fillN; split <;> omega
 have h6 : rtB x (16 * x.kernel) = chE x (16 * x.kernel) + fillN (chE x (16 * x.kernel)) := rfl
 have h7 : chE x (16 * x.kernel) = chAt x (chB x (16 * x.kernel)) x.hs.length := rfl
 have h8 : chB x (16 * x.kernel) = 16 * x.kernel + 2 + 24 * (x.ps.length : Int) := rfl
 have h9 := rtAt_bd x (rtB x (16 * x.kernel)) x.ps.length
 have h10 := h9.2.2 (by rw [h6]; exact h5.2)
 unfold Cfg.endW at h3
 unfold stA
 omega
theorem Td.low {w : World} {m lo lo' : Nat} {R : List Tr} (h : Td w m lo R) (hl : lo' ≤ lo) : Td w m lo' R := ⟨h.map, fun r hr => ⟨(h.blk r hr).1, Nat.le_trans hl (h.blk r hr).2⟩, Nat.le_trans hl h.lom⟩
structure Dv (w : World) (d lo : Nat) (x : Cfg) (fs : List Fd) (E m : Nat) (l : List Value) (R : List Tr) : Prop where
 dev : Blk w d [.int .i64 x.frames, .slice (some ⟨E, 0, none⟩) x.ps.length x.ps.length, .map (some m)] 71
 eb : Blk w E l 76
 ears : Ears x (stA x) x.ps.length l
 td : Td w m lo R
 told : R.map Tr.k3 = (fs.filter fun f => !f.ws.isEmpty).map Fd.k3
 lo : lo ≤ d ∧ lo ≤ E
theorem Dv.kept {w w' : World} {d lo : Nat} {x : Cfg} {fs : List Fd} {E m : Nat} {l : List Value} {R : List Tr} (h : Dv w d lo x fs E m l R) (hK : Keeps (fun _ => False) w w') : Dv w' d lo x fs E m l R :=
 ⟨h.dev.kept hK fun h => h, h.eb.kept hK fun h => h, h.ears, h.td.kept hK, h.told, h.lo⟩
def NewP (x : Cfg) (fs : List Fd) (w : World) (e : Ending) (w' : World) : Prop :=
 Keeps (fun _ => False) w w' ∧ ((4096 < fs.length ∧ e = .returned (.tuple #[.pointer none, .int .i64 2])) ∨
  (fs.length ≤ 4096 ∧ ¬ Gd x ∧ e = .returned (.tuple #[.pointer none, .int .i64 221])) ∨
  (fs.length ≤ 4096 ∧ Gd x ∧ ¬ MayF x fs ∧ e = .returned (.tuple #[.pointer none, .int .i64 220])) ∨
  (fs.length ≤ 4096 ∧ Gd x ∧ MayF x fs ∧ ∃ d E m l R, e = .returned (.tuple #[.pointer (some ⟨d, 0, none⟩), .int .i64 0]) ∧ Dv w' d w.heap.size x fs E m l R))
theorem new_long (x : Cfg) (fs : List Fd) (a : Option Addr) (c : Nat) (w : World) (N : Nat) (hi : x.In w N) (hN : N ≤ w.heap.size) (hl : 4096 < fs.length) :
  Calls Tryz.prog 15 #[x.v, .slice a fs.length c] w (NewP x fs w) := by
 have HL : Hid (4096 < fs.length) := hl
 obtain ⟨L, hL⟩ : ∃ L, fs.length = L := ⟨_, rfl⟩
 rw [hL] at hl
 rw [hL]
 clear hL
 have h1 : (4096 : Int) < L := by omega
 go_enter Tryz.func15, Tryz.ntmps15
 go_wp2
 go_ret2
 exact ⟨(Keeps.refl _ _).alloc _, .inl ⟨HL.out, rfl⟩⟩
set_option maxHeartbeats 4000000 in
theorem new_any (x : Cfg) (fs : List Fd) (a : Option Addr) (c : Nat) (w : World) (N : Nat) (hi : x.In w N) (hN : N ≤ w.heap.size) (hf : FdsIn w N a c fs) :
  Calls Tryz.prog 15 #[x.v, .slice a fs.length c] w (NewP x fs w) := by
 by_cases hl : 4096 < fs.length
 ·
  exact new_long x fs a c w N hi hN hl
 obtain ⟨W, hW⟩ : ∃ W, W = x.laid w := ⟨_, rfl⟩
 obtain ⟨C, hC⟩ : ∃ C, C = w.heap.size := ⟨_, rfl⟩
 have hO : One w x C N W := by rw [hW, hC]; exact One.mk' hi hN
 have HO : Hid (One w x C N W ∧ FdsIn W N a c fs ∧ fs.length ≤ 4096) := ⟨hO, hf.kept hO.keeps fun _ h => h.elim, by omega⟩
 have HC : Hid (Calls Tryz.prog 24 #[x.v] W (ChkP x W)) := Check_any x W N hO.cin hO.nn
 obtain ⟨q0, q1, q2, q3, q4, q5, q6⟩ := HO.out.1.cells
 obtain ⟨L, hL⟩ : ∃ L, fs.length = L := ⟨_, rfl⟩
 have HL : Hid (fs.length = L) := hL
 rw [hL] at hl
 rw [hL]
 have h1 : (L : Int) ≤ 4096 := by omega
 unfold Cfg.laid at hW
 clear hL hi hN hf hO hl
 go_enter Tryz.func15, Tryz.ntmps15
 go_upto_region 1 with fail
 rw [← hW, ← hC]
 clear hW hC
 go_wp2_with fail
 refine HC.out.mono ?_
 rintro e w1 ⟨rfl, hK1⟩
 obtain ⟨W1, hW1⟩ : ∃ W1, W1 = w1.alloc (.cells #[.int .i64 (chk x).a, .int .i64 (chk x).b] 61) := ⟨_, rfl⟩
 have hK2 : Keeps (fun _ => False) W W1 := by rw [hW1]; exact hK1.alloc _
 have HO1 : Hid (One w x C N W1 ∧ FdsIn W1 N a c fs) := ⟨HO.out.1.kept hK2, HO.out.2.1.kept hK2 fun _ h => h.elim⟩
 clear hK1 hK2 HC q0 q1 q2 q3 q4 q5 q6
 go_upto_region 4 with fail
 rw [← hW1]
 clear hW1
 by_cases hn : (chk x).n = 0
 case neg =>
  have HN : Hid (¬ Gd x) := fun g => hn (chk_n.2 g)
  go_wp2_with fail
  go_ret2
  exact ⟨HO1.out.1.keeps, .inr (.inl ⟨by have := HL.out; omega, HN.out, rfl⟩)⟩
 have HG : Hid (Gd x) := chk_n.1 hn
 have HC : Hid (Calls Tryz.prog 25 #[x.v] W1 (OfP x W1)) := Of_any x W1 N HO1.out.1.cin HO1.out.1.nn
 obtain ⟨q0, q1, q2, q3, q4, q5, q6⟩ := HO1.out.1.cells
 go_wp2_with fail
 refine HC.out.mono ?_
 rintro e w2 ⟨hK2, ⟨hm, _⟩ | ⟨hm, b1, b2, F, G, T, D, rfl, hLD, hF, hG⟩⟩
 ·
  exact absurd hm (by rw [HG.out.fit.1]; decide)
 obtain ⟨Z, hZ⟩ : ∃ Z, Z = rtAt x (rtB x (16 * x.kernel)) x.ps.length / 16 := ⟨_, rfl⟩
 rw [← hZ]
 clear hZ hG hm
 obtain ⟨A, hA⟩ : ∃ A, A = w2.heap.size := ⟨_, rfl⟩
 obtain ⟨W2, hW2⟩ : ∃ W2, W2 = w2.alloc (.cells #[.int .i64 (16 * x.kernel), .slice (some ⟨b1, 0, none⟩) x.ps.length x.ps.length, .slice (some ⟨b2, 0, none⟩) x.hs.length x.hs.length, .int .i64 Z] 35) := ⟨_, rfl⟩
 have hK3 : Keeps (fun _ => False) W1 W2 := by rw [hW2]; exact hK2.alloc _
 have HO2 : Hid (One w x C N W2 ∧ FdsIn W2 N a c fs ∧ Blk W2 A [.int .i64 (16 * x.kernel), .slice (some ⟨b1, 0, none⟩) x.ps.length x.ps.length, .slice (some ⟨b2, 0, none⟩) x.hs.length x.hs.length, .int .i64 Z] 35 ∧ Blk W2 b1 (row5 (fun i => (F i).vs) x.ps.length) 90 ∧ ∀ i, i < x.ps.length → (F i).state = stA x i) := by
  refine ⟨HO1.out.1.kept hK3, HO1.out.2.kept hK3 fun _ h => h.elim, ?_, ?_, fun i hi => (hF i hi).2.2.1⟩
  ·
   rw [hW2, hA]; exact Blk.new _ _ _
  ·
   rw [hW2]; exact hLD.p.alloc _
 clear hK2 hK3 HC q0 q1 q2 q3 q4 q5 q6 hLD hF hn
 go_upto_region 7 with fail
 rw [← hW2, ← hA]
 clear hW2 hA
 obtain ⟨q0, q1, q2, q3, q4, q5, q6⟩ := HO2.out.1.cells
 have HC : Hid (Calls Tryz.prog 26 #[x.v, .slice a L c] W2 (TidP x fs W2)) := by
  have := tidings_any x fs a c W2 N HO2.out.1.cin HO2.out.1.nn HO2.out.2.1 HO.out.2.2 (fun P hP => by
   obtain ⟨p, hp⟩ := List.getElem?_of_mem hP
   have := (HG.out.gp p P hp).dev.1
   rw [inR_iff] at this
   omega)
  rw [HL.out] at this
  exact this
 go_wp2_with fail
 refine HC.out.mono ?_
 rintro e W4 ⟨hK4, ⟨hm, rfl⟩ | ⟨hm, m, R, rfl, hT, hR⟩⟩
 ·
  have HN : Hid (¬ MayF x fs ∧ Keeps (fun _ => False) W2 W4) := ⟨hm, hK4⟩
  clear HC q0 q1 q2 q3 q4 q5 q6 hm hK4
  go_wp2_with fail
  go_ret2
  exact ⟨HO2.out.1.keeps.trans HN.out.2 fun _ _ h => h, .inr (.inr (.inl ⟨by have := HL.out; omega, HG.out, HN.out.1, rfl⟩))⟩
 have HM : Hid (MayF x fs ∧ Td W4 m W2.heap.size R ∧ R.map Tr.k3 = (fs.filter fun f => !f.ws.isEmpty).map Fd.k3) := ⟨hm, hT, hR⟩
 have HO4 : Hid (One w x C N W4 ∧ Blk W4 A [.int .i64 (16 * x.kernel), .slice (some ⟨b1, 0, none⟩) x.ps.length x.ps.length, .slice (some ⟨b2, 0, none⟩) x.hs.length x.hs.length, .int .i64 Z] 35 ∧ Blk W4 b1 (row5 (fun i => (F i).vs) x.ps.length) 90 ∧ ∀ i, i < x.ps.length → (F i).state = stA x i) :=
  ⟨HO2.out.1.kept hK4, HO2.out.2.2.1.kept hK4 fun h => h, HO2.out.2.2.2.1.kept hK4 fun h => h, HO2.out.2.2.2.2⟩
 clear HC q0 q1 q2 q3 q4 q5 q6 hm hT hR hK4
 have HS4 : Hid (∀ w', Keeps (fun _ => False) W4 w' → w'.cell? ⟨C, 0, none⟩ = some (.int .i64 x.frames) ∧ w'.cell? ⟨C, 1, none⟩ = some (.int .i64 x.major) ∧ w'.cell? ⟨C, 2, none⟩ = some (.int .i64 x.kernel) ∧ w'.cell? ⟨C, 3, none⟩ = some (.int .i64 x.room) ∧ w'.cell? ⟨C, 4, none⟩ = some (.slice x.ca x.cs.length x.cc) ∧ w'.cell? ⟨C, 5, none⟩ = some (.slice x.pa x.ps.length x.pc) ∧ w'.cell? ⟨C, 6, none⟩ = some (.slice x.ha x.hs.length x.hc) ∧ w'.cell? ⟨A, 0, none⟩ = some (.int .i64 (16 * x.kernel)) ∧ w'.cell? ⟨A, 1, none⟩ = some (.slice (some ⟨b1, 0, none⟩) x.ps.length x.ps.length) ∧ w'.cell? ⟨A, 2, none⟩ = some (.slice (some ⟨b2, 0, none⟩) x.hs.length x.hs.length) ∧ w'.cell? ⟨A, 3, none⟩ = some (.int .i64 Z)) := fun w' hK => by
  have h1 := (HO4.out.1.kept hK).cells
  have h2 := HO4.out.2.1.kept hK fun h => h
  exact ⟨h1.1, h1.2.1, h1.2.2.1, h1.2.2.2.1, h1.2.2.2.2.1, h1.2.2.2.2.2.1, h1.2.2.2.2.2.2, h2.cell rfl, h2.cell rfl, h2.cell rfl, h2.cell rfl⟩
 have HCE : Hid (∀ w', Keeps (fun _ => False) W4 w' → Calls Tryz.prog 27 #[x.v, .agg #[.int .i64 (16 * x.kernel), .slice (some ⟨b1, 0, none⟩) x.ps.length x.ps.length, .slice (some ⟨b2, 0, none⟩) x.hs.length x.hs.length, .int .i64 Z]] w' fun e w'' =>
   Keeps (fun _ => False) W4 w'' ∧ ∃ E l, e = .returned (.slice (some ⟨E, 0, none⟩) x.ps.length x.ps.length) ∧ W4.heap.size ≤ E ∧ Blk w'' E l 76 ∧ Ears x (stA x) x.ps.length l) := fun w' hK => by
  have hg := HG.out
  have hfr := hg.frames
  refine (ears_any x b1 (16 * x.kernel) 0 Z (some ⟨b2, 0, none⟩) x.hs.length x.hs.length (stA x) w' N (HO4.out.1.kept hK).cin (HO4.out.1.kept hK).nn hg.ps.2 hg.ps.1 (fun i hi => ⟨?_, (hg.at hi).1, by have := hg.at hi; omega⟩) (fun P hP => ?_)).mono ?_
  ·
   have h3 := HO4.out.2.2.1.kept hK fun h => h
   refine h3.cell ?_
   rw [row5_get (fun _ => rfl) hi (by decide), ← HO4.out.2.2.2 i hi]
   rfl
  ·
   obtain ⟨p, hp⟩ := List.getElem?_of_mem hP
   have := (hg.gp p P hp).dev.2
   rw [inR_iff] at this
   omega
  ·
   rintro e w'' ⟨h1, E, l, h2, h3, h4, h5⟩
   exact ⟨hK.trans h1 fun _ _ h => h, E, l, h2, Nat.le_trans hK.size h3, h4, h5⟩
 go_upto_region 12 with fail
 refine wp_region_held_drew (S := (fun w' => w'.cell? ⟨C, 0, none⟩ = some (.int .i64 x.frames) ∧ w'.cell? ⟨C, 1, none⟩ = some (.int .i64 x.major) ∧ w'.cell? ⟨C, 2, none⟩ = some (.int .i64 x.kernel) ∧ w'.cell? ⟨C, 3, none⟩ = some (.int .i64 x.room) ∧ w'.cell? ⟨C, 4, none⟩ = some (.slice x.ca x.cs.length x.cc) ∧ w'.cell? ⟨C, 5, none⟩ = some (.slice x.pa x.ps.length x.pc) ∧ w'.cell? ⟨C, 6, none⟩ = some (.slice x.ha x.hs.length x.hc) ∧ w'.cell? ⟨A, 0, none⟩ = some (.int .i64 (16 * x.kernel)) ∧ w'.cell? ⟨A, 1, none⟩ = some (.slice (some ⟨b1, 0, none⟩) x.ps.length x.ps.length) ∧ w'.cell? ⟨A, 2, none⟩ = some (.slice (some ⟨b2, 0, none⟩) x.hs.length x.hs.length) ∧ w'.cell? ⟨A, 3, none⟩ = some (.int .i64 Z))) Tryz.mixd (HS4.out _ (Keeps.refl _ W4).drew) (fun hHeld => ?_)
 simp only [List.size_toArray, List.length_cons, List.length_nil, Nat.reduceAdd, Array.replicate_succ, Array.replicate_zero, List.push_toArray, List.nil_append, List.cons_append]
 refine tk 0 (.pointer (some ⟨C, 0, none⟩)) hHeld ?_
 simp only [Act.put, s1, s2, s3]
 refine tk 1 (.int .i64 x.frames) hHeld ?_
 simp only [Act.put, s1, s2, s3]
 refine tk 2 (.agg #[.int .i64 x.frames, .int .i64 x.major, .int .i64 x.kernel, .int .i64 x.room, .slice x.ca x.cs.length x.cc, .slice x.pa x.ps.length x.pc, .slice x.ha x.hs.length x.hc]) hHeld ?_
 simp only [Act.put, s1, s2, s3]
 refine tk 3 (.agg #[.int .i64 (16 * x.kernel), .slice (some ⟨b1, 0, none⟩) x.ps.length x.ps.length, .slice (some ⟨b2, 0, none⟩) x.hs.length x.hs.length, .int .i64 Z]) hHeld ?_
 simp only [Act.put, s1, s2, s3]
 refine tk 5 (.map (some m)) hHeld ?_
 simp only [Act.put, s1, s2, s3]
 refine wpAnyH_ready (rs := [4]) (by kernel_rfl) (by simp) ?_
 refine AllReadyH.cons (o := ⟨some 41, .call ⟨.value (.func 27), #[.tmp 39, .tmp 40], #[42, 35]⟩, 67, "device.go:34", #[⟨2, .data⟩, ⟨3, .data⟩], none⟩) rfl (fun Kq hK => ?_) AllReadyH.nil
 go_simp
 refine (HCE.out _ (Keeps.refl _ W4).drew).mono ?_
 rintro e w5 ⟨hK5, E, l, rfl, hE1, hE2, hE3⟩
 refine hK _ _ (HS4.out w5 hK5) (fun hHeld => ?_)
 simp only [Act.put, s1, s2, s3]
 refine tk 6 (.agg #[.int .i64 x.frames, .slice (some ⟨E, 0, none⟩) x.ps.length x.ps.length, .map (some m)]) hHeld ?_
 simp only [Act.put, s1, s2, s3]
 refine wpAnyH_ready (rs := [7]) (by kernel_rfl) (by simp) ?_
 refine AllReadyH.cons (o := ⟨some 44, .box 71 (.tmp 43), 22, "device.go:34", #[⟨6, .data⟩], none⟩) rfl (fun Kq hK => ?_) AllReadyH.nil
 go_simp
 refine hK _ _ (HS4.out _ (hK5.alloc _)) (fun hHeld => ?_)
 simp only [Act.put, s1, s2, s3]
 refine tk 8 (.pointer (some ⟨w5.heap.size, 0, none⟩)) hHeld ?_
 simp only [Act.put, s1, s2, s3]
 refine tk 9 (.int .i64 0) hHeld ?_
 simp only [Act.put, s1, s2, s3]
 refine wpAnyH_done (by kernel_rfl) ?_ _
 clear hHeld
 go_wp2
 go_ret2
 have hz4 : w.heap.size ≤ W4.heap.size := HO4.out.1.keeps.size
 have hz2 : w.heap.size ≤ W2.heap.size := HO2.out.1.keeps.size
 refine ⟨(HO4.out.1.keeps.trans hK5 fun _ _ h => h).alloc _, .inr (.inr (.inr ⟨by have := HL.out; omega, HG.out, HM.out.1, w5.heap.size, E, m, l, R, rfl, ?_⟩))⟩
 exact ⟨Blk.new _ _ _, hE2.alloc _, hE3, (HM.out.2.1.low hz2).kept (hK5.alloc _), HM.out.2.2, Nat.le_trans hz4 hK5.size, Nat.le_trans hz4 hE1⟩
end Go.Proofs.YtfbapgcopidbpaaGreat
namespace Go.Proofs.YtfbapgcopidbpaaGreat
open Go.RowKit Go.Shelf
open Mq (SegW wvs wvs_length wvs_get run_make_words run_copy_wb segW_of_blk Mm)
set_option linter.unusedVariables false
set_option maxRecDepth 6000
set_option linter.unusedSimpArgs false
theorem frames_any (b g : Nat) (xs : List UInt32) (w : World) (h : Mm w b g xs) :
  Calls Tryz.prog 35 #[.pointer (some ⟨b, 0, none⟩)] w fun e w' => e = .returned (.int .i64 ((xs.length / 16 : Nat) : Int)) ∧ w' = w := by
 have c0 := h.blk.cell (i := 0) rfl
 have hs := h.small
 obtain ⟨L, hL⟩ : ∃ L, xs.length = L := ⟨_, rfl⟩
 rw [hL] at c0 hs ⊢
 clear hL h
 have hq : IntKind.i64.wrap ((L : Int).tdiv 16) = ((L / 16 : Nat) : Int) := by rw [IntKind.wrap_i64, Int.tdiv_eq_ediv_of_nonneg (by omega)]; omega
 go_enter Tryz.func35, Tryz.ntmps35
 go_wp2
 go_ret
 exact ⟨rfl, rfl⟩
theorem fits_nild (mv sv : Value) (w : World) : Calls Tryz.prog 17 #[.pointer none, mv, sv] w fun e w' => e = .returned (.int .i64 3) ∧ w' = w := by
 go_enter Tryz.func17, Tryz.ntmps17
 go_wp2
 go_ret
 exact ⟨rfl, rfl⟩
def SegI (w : World) (a : Option Addr) (ps : List Int) : Prop := SegA (fun n : Int => [Value.int .i64 n]) 1 w a ps
def inP (x : Cfg) (p : Int) : Bool := decide (0 ≤ p) && decide (p < x.ps.length)
def FitP (x : Cfg) (ps : List Int) (w : World) (e : Ending) (w' : World) : Prop := e = .returned (.int .i64 (if ps.all (inP x) then 0 else 1)) ∧ Keeps (fun _ => False) w w'
set_option maxHeartbeats 1000000 in
theorem fits_same (x : Cfg) (d E : Nat) (mv : Value) (b g : Nat) (xs : List UInt32) (a : Option Addr) (c : Nat) (ps : List Int) (w : World) (hd : Blk w d [.int .i64 x.frames, .slice (some ⟨E, 0, none⟩) x.ps.length x.ps.length, mv] 71) (hm : Mm w b g xs) (hx : ((xs.length / 16 : Nat) : Int) = x.frames)
  (hs : SegI w a ps) (hc : ps.length ≤ c ∧ c ≤ maxLen) :
  Calls Tryz.prog 17 #[.pointer (some ⟨d, 0, none⟩), .pointer (some ⟨b, 0, none⟩), .slice a ps.length c] w (FitP x ps w) := by
 have d0 := hd.cell (i := 0) rfl
 have HC : Hid (Calls Tryz.prog 35 #[.pointer (some ⟨b, 0, none⟩)] w.drew fun e w' => e = .returned (.int .i64 x.frames) ∧ w' = w.drew) := by
  have := frames_any b g xs w.drew (hm.kept (Keeps.refl (fun _ => False) w).drew (fun h => h) fun h => h)
  rw [hx] at this
  exact this
 obtain ⟨FR, hFR⟩ : ∃ FR : Int, FR = x.frames := ⟨_, rfl⟩
 obtain ⟨P, hP⟩ : ∃ P, P = x.ps.length := ⟨_, rfl⟩
 obtain ⟨L, hL⟩ : ∃ L, ps.length = L := ⟨_, rfl⟩
 have HS : Hid (SegI w.drew a ps ∧ ps.length = L ∧ P = x.ps.length ∧ Blk w.drew d [.int .i64 x.frames, .slice (some ⟨E, 0, none⟩) P P, mv] 71) := ⟨hs, hL, hP, by rw [hP]; exact hd.drew⟩
 rw [← hFR] at HC d0
 rw [hL] at hc ⊢
 have hc1 : (L : Int) ≤ c := by omega
 have hc3 : (c : Int) ≤ 9223372036854775807 := by unfold maxLen at hc; omega
 clear hFR hm hd hx hs hP hL hc
 go_enter Tryz.func17, Tryz.ntmps17
 go_upto_region 3 with fail
 refine wp_region_held_drew (S := (fun w' => w'.cell? ⟨d, 0, none⟩ = some (.int .i64 FR))) Tryz.mixd d0 (fun hHeld => ?_)
 simp only [List.size_toArray, List.length_cons, List.length_nil, Nat.reduceAdd, Array.replicate_succ, Array.replicate_zero, List.push_toArray, List.nil_append, List.cons_append]
 refine tk 0 (.pointer (some ⟨b, 0, none⟩)) hHeld ?_
 simp only [Act.put, s1, s2, s3]
 refine tk 2 (.pointer (some ⟨d, 0, none⟩)) hHeld ?_
 simp only [Act.put, s1, s2, s3]
 refine tk 3 (.pointer (some ⟨d, 0, none⟩)) hHeld ?_
 simp only [Act.put, s1, s2, s3]
 refine tk 4 (.pointer (some ⟨d, 0, none⟩)) hHeld ?_
 simp only [Act.put, s1, s2, s3]
 refine tk 5 (.int .i64 FR) hHeld ?_
 simp only [Act.put, s1, s2, s3]
 refine wpAnyH_ready (rs := [1]) (by kernel_rfl) (by simp) ?_
 refine AllReadyH.cons (o := ⟨some 16, .call ⟨.value (.func 35), #[.tmp 15], #[23]⟩, 3, "device.go:84", #[⟨0, .data⟩], none⟩) rfl (fun Kq hK => ?_) AllReadyH.nil
 go_simp
 refine HC.out.mono ?_
 rintro e w1 ⟨rfl, rfl⟩
 refine hK _ _ d0 (fun hHeld => ?_)
 simp only [Act.put, s1, s2, s3]
 refine tk 6 (.bool false) hHeld ?_
 simp only [Act.put, s1, s2, s3]
 refine wpAnyH_done (by kernel_rfl) ?_ _
 clear hHeld
 obtain ⟨W, hW⟩ : ∃ W, W = w.drew := ⟨_, rfl⟩
 have HW : Hid (Keeps (fun _ => False) w W) := by rw [hW]; exact (Keeps.refl _ _).drew
 rw [← hW]
 rw [← hW] at HS
 clear hW d0 HC hK Kq
 have d1 := HS.out.2.2.2.cell (i := 1) rfl
 go_wp2
 go_loopw [24] (fun i wr => ∃ j : Nat, j ≤ L ∧ i = .int .i64 j ∧ W = wr ∧ (ps.take j).all (inP x) = true) (fun i _ => L - (intOf i).toNat)
 case atStart => exact ⟨0, by omega, rfl, rfl, rfl⟩
 case round =>
  obtain ⟨j, hj, rfl, rfl, hno⟩ := hrel
  by_cases hlt : j < L
  ·
   obtain ⟨p, hp⟩ : ∃ p, ps[j]? = some p := ⟨_, List.getElem?_eq_getElem (by have := HS.out.2.1; omega)⟩
   obtain ⟨g1, o1, rfl, hg1⟩ := SegA.at HS.out.1 hp
   have y0 := hg1 0 _ rfl
   rw [Nat.mul_one, Nat.add_zero] at y0
   have HK : Hid ((ps.take j).all (inP x) = true ∧ ps[j]? = some p) := ⟨hno, hp⟩
   clear hp hg1 hno
   by_cases h0 : 0 ≤ p
   ·
    have n0 : ¬ p < 0 := by omega
    by_cases h1 : p < P
    ·
     have n1 : ¬ (P : Int) ≤ p := by omega
     have HY : Hid (inP x p = true) := by
      have := HS.out.2.2.1
      show _ = _
      unfold inP
      rw [← this]
      simp [h0, h1]
     go_wp2
     go_roundw
     case rel => exact ⟨j + 1, by omega, by go_num, trivial, by rw [List.take_add_one, HK.out.2, List.all_append, HK.out.1]; simp [HY.out]⟩
     case measure => simp [intOf]; omega
    ·
     have n1 : (P : Int) ≤ p := by omega
     have HY : Hid (ps.all (inP x) = false) := by
      refine List.all_eq_false.2 ⟨p, List.mem_of_getElem? HK.out.2, ?_⟩
      have := HS.out.2.2.1
      unfold inP
      rw [← this]
      simp [h0]
      omega
     clear h0 h1
     go_wp2
     go_ret
     exact ⟨by rw [HY.out]; rfl, HW.out⟩
   ·
    have n0 : p < 0 := by omega
    have HY : Hid (ps.all (inP x) = false) := by
     refine List.all_eq_false.2 ⟨p, List.mem_of_getElem? HK.out.2, ?_⟩
     unfold inP
     simp [h0]
    go_wp2
    go_ret
    exact ⟨by rw [HY.out]; rfl, HW.out⟩
  ·
   obtain rfl : j = L := by omega
   rw [List.take_of_length_le (by have := HS.out.2.1; omega)] at hno
   have HY : Hid (ps.all (inP x) = true) := hno
   clear hno
   go_wp2
   go_ret
   exact ⟨by rw [HY.out]; rfl, HW.out⟩
end Go.Proofs.YtfbapgcopidbpaaGreat
