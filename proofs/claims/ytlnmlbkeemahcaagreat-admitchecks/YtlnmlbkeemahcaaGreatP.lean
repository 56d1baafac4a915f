import Derived.Test.YtlnmlbkeemahcaaGreatO
namespace Go.Proofs.YtlnmlbkeemahcaaGreat
open Go.RowKit
set_option linter.unusedVariables false
set_option linter.unusedSimpArgs false
set_option maxRecDepth 6000
def JC (B : Nat) : World → Int → List (Ow × Int) → Prop := fun w a _ => Blk w B [.int .i64 a] 3
theorem count_any (B : Nat) (o : Ow) (k a : Int) (w : World) (hB : Blk w B [.int .i64 a] 3) (h0 : 0 ≤ a) (h1 : a ≤ 1000000) (h2 : 0 ≤ k) (h3 : k ≤ 1000) :
  Calls Tryz.prog 136 #[o.v, .int .i64 k, .pointer (some ⟨B, 0, none⟩)] w fun e w' => e = .returned (.int .i64 a) ∧ Blk w' B [.int .i64 (a + k)] 3 ∧ Keeps (fun b => b = B) w w' := by
 obtain ⟨W, hW⟩ : ∃ W, W = w.alloc (.cells #[.int .i64 o.kind, .int .i64 o.idx, .int .i64 o.port] 111) := ⟨_, rfl⟩
 have HW : Hid (Blk W B [.int .i64 a] 3 ∧ KF w W) := by rw [hW]; exact ⟨hB.alloc _, (Keeps.refl _ _).alloc _⟩
 have q1 : IntKind.i64.wrap (a + k) = a + k := by rw [IntKind.wrap_i64]; omega
 clear hB
 go_enter Tryz.func136, Tryz.ntmps136
 go_upto_region 1 with fail
 rw [← hW]
 clear hW
 have c0 := HW.out.1.cell (i := 0) rfl
 have f0 := HW.out.1.frozen 0
 go_wp2
 go_ret
 refine ⟨rfl, HW.out.1.setCell 0 _, ?_⟩
 exact (HW.out.2.mono fun _ _ h => h.elim).setCell _ _ fun _ => rfl
theorem dl_count (B : Nat) : Dl 136 #[.pointer (some ⟨B, 0, none⟩)] (fun b => b = B) (JC B) where
 ent := call_enter Tryz.func136 (by kernel_rfl) (by kernel_rfl)
 call := fun w a hist o k hJ h0 h1 h2 h3 => count_any B o k a w hJ h0 h1 h2 h3
 kept := fun hJ hK hT => hJ.kept hK (hT _ rfl)
theorem countFrom_any (a : Int) (w : World) : Calls Tryz.prog 123 #[.int .i64 a] w fun e w' => e = .returned (.func (.func 136) #[] #[.pointer (some ⟨w.heap.size, 0, none⟩)]) ∧ Blk w' w.heap.size [.int .i64 a] 3 ∧ KF w w' := by
 go_enter Tryz.func123, Tryz.ntmps123
 go_wp2
 go_ret
 exact ⟨rfl, Blk.new w _ _, (Keeps.refl _ _).alloc _⟩
theorem begin_any (x : Cfg) (w : World) (hk : 0 ≤ x.kernel ∧ x.kernel < 1024) : Calls Tryz.prog 124 #[x.v] w fun e w' => e = .returned (.int .i64 (16 * x.kernel)) ∧ KF w w' := by
 have q1 : IntKind.i64.wrap (16 * x.kernel) = 16 * x.kernel := by rw [IntKind.wrap_i64]; omega
 go_enter Tryz.func124, Tryz.ntmps124
 go_wp2
 go_ret
 exact ⟨rfl, (Keeps.refl _ _).alloc _⟩
theorem results_cell_two {P : Program} {fn : Func} {p u : Tmp} {ty : TypeId} (h : fn.results = #[.cell p ty, .tmp u]) (tmps : Array Value) (w : World) (g : Nat) (t : TypeId) (cs : Array Value) (fr : Nat × Nat) (d : TypeDesc)
  (hp : tmps.getD p undef = .pointer (some ⟨g, 0, none⟩)) (hg : w.heap[g]? = some (.cells cs t fr))
  (hu : P.underlying ty = some d) (hd : (match d with | .struct _ | .array _ _ => true | _ => false) = true) (hi : (P.info? ty).map (·.size) = some cs.size) :
  (results fn tmps).run P w = .ok (.tuple #[.agg cs, tmps.getD u undef]) w := by
 have hp' : tmps[p]?.getD undef = .pointer (some ⟨g, 0, none⟩) := by simpa using hp
 simp [results, h, hp', asAddr, run_loadVar_row w g t ty cs fr d hg hu hd hi]
theorem LD.kept {x : Cfg} {lo lo' b1 b2 : Nat} {F : Nat → PP} {G : Nat → CP} {T : Nat → List Int} {D : Nat → List Dst} {w w' : World} {S : Nat → Prop} (h : LD x lo b1 b2 F G T D w) (hK : Keeps S w w') (hS : ∀ k, S k → k < lo) (hl : lo' ≤ lo) : LD x lo' b1 b2 F G T D w' := by
 have hw := h.lw
 exact ⟨h.p.kept hK fun e => by have := hS _ e; omega, h.c.kept hK fun e => by have := hS _ e; omega, ⟨by omega, by omega, hw.2.2⟩, fun i hi => ⟨((h.tr i hi).1.kept hK hS).lower' hl, (h.tr i hi).2⟩, fun i hi => ⟨((h.dr i hi).1.kept hK hS).lower' hl, (h.dr i hi).2⟩⟩
def OfP (x : Cfg) (w : World) (e : Ending) (w' : World) : Prop :=
 KF w w' ∧ ((x.mayB = false ∧ e = .returned (.tuple #[.agg #[.int .i64 0, .slice none 0 0, .slice none 0 0, .int .i64 0], .int .i64 150])) ∨
  (x.mayB = true ∧ ∃ b1 b2 F G T D, e = .returned (.tuple #[.agg #[.int .i64 (16 * x.kernel), .slice (some ⟨b1, 0, none⟩) x.ps.length x.ps.length, .slice (some ⟨b2, 0, none⟩) x.hs.length x.hs.length, .int .i64 (rtAt x (rtB x (16 * x.kernel)) x.ps.length / 16)], .int .i64 0]) ∧
   LD x w.heap.size b1 b2 F G T D w' ∧ FOK x (16 * x.kernel + 2) (rtB x (16 * x.kernel)) x.ps.length F T ∧ GOK x (chB x (16 * x.kernel)) x.hs.length G D))
set_option maxHeartbeats 4000000 in
theorem Of_any (x : Cfg) (w : World) (N : Nat) (hi : x.In w N) (hN : N ≤ w.heap.size) : Calls Tryz.prog 109 #[x.v] w (OfP x w) := by
 obtain ⟨W, hW⟩ : ∃ W, W = (x.laid w).alloc (.cells #[.int .i64 0, .slice none 0 0, .slice none 0 0, .int .i64 0] 92) := ⟨_, rfl⟩
 obtain ⟨C, hC⟩ : ∃ C, C = w.heap.size := ⟨_, rfl⟩
 have HO : Hid (One w x C N W ∧ Blk W (C + 1) [.int .i64 0, .slice none 0 0, .slice none 0 0, .int .i64 0] 92 ∧ C = w.heap.size) := by
  rw [hW, hC]
  refine ⟨(One.mk' hi hN).kept ((Keeps.refl _ _).alloc _), ?_, rfl⟩
  have := Blk.new (x.laid w) #[.int .i64 0, .slice none 0 0, .slice none 0 0, .int .i64 0] 92
  simpa [Cfg.laid] using this
 clear hi hN
 unfold Cfg.laid at hW
 go_enter Tryz.func109, Tryz.ntmps109
 go_upto_region 1 with fail
 rw [← hW, ← hC]
 clear hW hC
 obtain ⟨q0, q1, q2, q3, q4, q5, q6⟩ := HO.out.1.cells
 have HC : Hid (Calls Tryz.prog 121 #[x.v] W fun e w' => e = .returned (.bool x.mayB) ∧ KF W w') := canLie_any x W N HO.out.1.cin HO.out.1.nn
 go_wp2_with fail
 refine HC.out.mono ?_
 rintro e w1 ⟨rfl, hK⟩
 have HO1 : Hid (One w x C N w1 ∧ Blk w1 (C + 1) [.int .i64 0, .slice none 0 0, .slice none 0 0, .int .i64 0] 92) := ⟨HO.out.1.kept hK, HO.out.2.1.kept hK fun h => h⟩
 clear hK HC q0 q1 q2 q3 q4 q5 q6
 obtain ⟨b, hb⟩ : ∃ b, x.mayB = b := ⟨_, rfl⟩
 rw [hb]
 have HB : Hid (x.mayB = b) := hb
 clear hb
 cases b with
 | false =>
  have r0 := HO1.out.2.cell (i := 0) rfl
  have r1 := HO1.out.2.cell (i := 1) rfl
  have r2 := HO1.out.2.cell (i := 2) rfl
  have r3 := HO1.out.2.cell (i := 3) rfl
  have f0 := HO1.out.2.frozen 0
  have f1 := HO1.out.2.frozen 1
  have f2 := HO1.out.2.frozen 2
  have f3 := HO1.out.2.frozen 3
  go_wp2
  obtain ⟨hB, hK4⟩ := set4 HO1.out.2 (.int .i64 0) (.slice none 0 0) (.slice none 0 0) (.int .i64 0)
  obtain ⟨Wb, hWb⟩ : ∃ Wb, Wb = ((((w1.setCell ⟨C + 1, 0, none⟩ (.int .i64 0)).setCell ⟨C + 1, 1, none⟩ (.slice none 0 0)).setCell ⟨C + 1, 2, none⟩ (.slice none 0 0)).setCell ⟨C + 1, 3, none⟩ (.int .i64 0)) := ⟨_, rfl⟩
  rw [← hWb] at hB hK4 ⊢
  (try simp only [Exit.inBlock, Exit.then])
  refine bodyPost_ret (results_cell_two rfl _ _ (C + 1) 92 _ (0, 0) _ rfl hB Tryz.underlying92 rfl (by kernel_rfl)) rfl ?_
  have hcw := HO.out.2.2
  exact ⟨HO1.out.1.keeps.trans hK4 fun k hk e => by omega, .inl ⟨HB.out, rfl⟩⟩
 | true =>
  obtain ⟨q0, q1, q2, q3, q4, q5, q6⟩ := HO1.out.1.cells
  have hk := Cfg.mayB_iff.1 HB.out
  go_wp2
  refine wp_region_held_drew (S := (fun w' => w'.cell? ⟨C, 0, none⟩ = some (.int .i64 x.frames) ∧ w'.cell? ⟨C, 1, none⟩ = some (.int .i64 x.major) ∧ w'.cell? ⟨C, 2, none⟩ = some (.int .i64 x.kernel) ∧ w'.cell? ⟨C, 3, none⟩ = some (.int .i64 x.room) ∧ w'.cell? ⟨C, 4, none⟩ = some (.slice x.ca x.cs.length x.cc) ∧ w'.cell? ⟨C, 5, none⟩ = some (.slice x.pa x.ps.length x.pc) ∧ w'.cell? ⟨C, 6, none⟩ = some (.slice x.ha x.hs.length x.hc))) Tryz.mixed ⟨q0, q1, q2, q3, q4, q5, q6⟩ (fun hHeld => ?_)
  simp only [t1, t2, List.length_nil, Nat.reduceAdd, t4, Array.replicate_zero, t6, List.append_toArray, List.nil_append, t8]
  refine tk 0 (.agg #[.int .i64 x.frames, .int .i64 x.major, .int .i64 x.kernel, .int .i64 x.room, .slice x.ca x.cs.length x.cc, .slice x.pa x.ps.length x.pc, .slice x.ha x.hs.length x.hc]) hHeld ?_
  refine tk 1 (.agg #[.int .i64 x.frames, .int .i64 x.major, .int .i64 x.kernel, .int .i64 x.room, .slice x.ca x.cs.length x.cc, .slice x.pa x.ps.length x.pc, .slice x.ha x.hs.length x.hc]) hHeld ?_
  simp only [Act.put, s1, s2, s3]
  refine rd 2 fun K hK => ?_
  go_simp
  refine (begin_any x w1.drew ⟨hk.1, hk.2.1⟩).mono ?_
  rintro r w2 ⟨rfl, hK2⟩
  have k2 : KF w1 w2 := ((Keeps.refl _ _).drew).trans hK2 fun _ _ h => h
  have HO2 : Hid (One w x C N w2 ∧ Blk w2 (C + 1) [.int .i64 0, .slice none 0 0, .slice none 0 0, .int .i64 0] 92) := ⟨HO1.out.1.kept k2, HO1.out.2.kept k2 fun h => h⟩
  clear hK2 k2
  refine hK.out _ _ HO2.out.1.cells (fun hHeld => ?_)
  simp only [Act.put, s1, s2, s3]
  refine rd 3 fun K hK => ?_
  go_simp
  refine (countFrom_any (16 * x.kernel) w2).mono ?_
  rintro r w3 ⟨rfl, hB3, hK3⟩
  have hB3l := hB3.lt
  have hC2 : C + 1 < w2.heap.size := HO2.out.2.lt
  obtain ⟨B, hBe⟩ : ∃ B, w2.heap.size = B := ⟨_, rfl⟩
  rw [hBe] at hB3 hB3l hC2 ⊢
  have HO3 : Hid (One w x C N w3 ∧ Blk w3 (C + 1) [.int .i64 0, .slice none 0 0, .slice none 0 0, .int .i64 0] 92 ∧ Blk w3 B [.int .i64 (16 * x.kernel)] 3 ∧ B < w3.heap.size ∧ C + 1 < B) := ⟨HO2.out.1.kept hK3, HO2.out.2.kept hK3 fun h => h, hB3, hB3l, hC2⟩
  have HCL : Hid (Calls Tryz.prog 122 #[x.v, .func (.func 136) #[] #[.pointer (some ⟨B, 0, none⟩)]] w3 (LayP (JC B) (fun b => b = B) x w3 (16 * x.kernel) [])) := by
   have hcw := HO.out.2.2
   have hn := HO3.out.1.n
   have hl := HO3.out.2.2.2
   exact lay_any (dl_count B) x HB.out w3 N HO3.out.1.cin HO3.out.1.nn (16 * x.kernel) [] HO3.out.2.2.1 (fun k hk => by subst hk; exact ⟨by omega, hl.1⟩) (by omega) (by omega)
  clear hB3 hK3 hB3l hC2 hBe
  refine hK.out _ _ HO3.out.1.cells (fun hHeld => ?_)
  simp only [Act.put, s1, s2, s3]
  refine rd 4 fun K hK => ?_
  go_simp
  refine HCL.out.mono ?_
  rintro r w4 ⟨b1, b2, F, G, T, D, rfl, hLD, hF, hG, _, hK4⟩
  have hcw := HO.out.2.2
  have hn := HO3.out.1.n
  have hl := HO3.out.2.2.2
  have HO4 : Hid (One w x C N w4 ∧ Blk w4 (C + 1) [.int .i64 0, .slice none 0 0, .slice none 0 0, .int .i64 0] 92 ∧ LD x w3.heap.size b1 b2 F G T D w4 ∧ FOK x (16 * x.kernel + 2) (rtB x (16 * x.kernel)) x.ps.length F T ∧ GOK x (chB x (16 * x.kernel)) x.hs.length G D) :=
   ⟨HO3.out.1.kept' hK4 (by omega) (fun k hk => by omega) (fun k hk => by omega), HO3.out.2.1.kept hK4 (by omega), hLD, hF, hG⟩
  clear hLD hF hG hK4 hcw hn hl
  obtain ⟨EN, hEN⟩ : ∃ EN, rtAt x (rtB x (16 * x.kernel)) x.ps.length / 16 = EN := ⟨_, rfl⟩
  have HEN : Hid (rtAt x (rtB x (16 * x.kernel)) x.ps.length / 16 = EN) := hEN
  rw [hEN]
  clear hEN
  refine hK.out _ _ HO4.out.1.cells (fun hHeld => ?_)
  simp only [Act.put, s1, s2, s3]
  refine rd 5 fun K hK => ?_
  refine wp_store_row 92 _ _ rfl (C + 1) #[.int .i64 (16 * x.kernel), .slice (some ⟨b1, 0, none⟩) x.ps.length x.ps.length, .slice (some ⟨b2, 0, none⟩) x.hs.length x.hs.length, .int .i64 EN] (by rfl) (by rfl) 92 _ HO4.out.2.1 Tryz.size92 rfl (all30 ..) ?_
  obtain ⟨W5, hW5⟩ : ∃ W5, W5 = w4.setRow (C + 1) #[.int .i64 (16 * x.kernel), .slice (some ⟨b1, 0, none⟩) x.ps.length x.ps.length, .slice (some ⟨b2, 0, none⟩) x.hs.length x.hs.length, .int .i64 EN] := ⟨_, rfl⟩
  have hB5 : Blk W5 (C + 1) [.int .i64 (16 * x.kernel), .slice (some ⟨b1, 0, none⟩) x.ps.length x.ps.length, .slice (some ⟨b2, 0, none⟩) x.hs.length x.hs.length, .int .i64 EN] 92 := by rw [hW5]; exact HO4.out.2.1.setRow _
  have k5 : Keeps (fun k => k = C + 1) w4 W5 := by rw [hW5]; exact (Keeps.refl _ _).setRow _ _ fun _ => rfl
  have hcw := HO.out.2.2
  have hn := HO3.out.1.n
  have hl := HO3.out.2.2.2
  have HO5 : Hid (One w x C N W5 ∧ Blk W5 (C + 1) [.int .i64 (16 * x.kernel), .slice (some ⟨b1, 0, none⟩) x.ps.length x.ps.length, .slice (some ⟨b2, 0, none⟩) x.hs.length x.hs.length, .int .i64 EN] 92 ∧ LD x w.heap.size b1 b2 F G T D W5) :=
   ⟨HO4.out.1.kept' k5 (by omega) (fun k hk => by omega) (fun k hk => by omega), hB5, HO4.out.2.2.1.kept k5 (fun k hk => by omega) (by have := HO3.out.1.keeps.size; omega)⟩
  clear hB5 k5 hcw hn hl
  rw [← hW5]
  clear hW5
  refine hK.out _ _ HO5.out.1.cells (fun hHeld => ?_)
  simp only [Act.put, s1, s2, s3]
  refine tk 6 (.int .i64 0) hHeld ?_
  simp only [Act.put, s1, s2, s3]
  refine wpAnyH_done (by kernel_rfl) ?_ _
  clear q0 q1 q2 q3 q4 q5 q6 hHeld
  go_wp2
  (try simp only [Exit.inBlock, Exit.then])
  refine bodyPost_ret (results_cell_two rfl _ _ (C + 1) 92 _ (0, 0) _ rfl HO5.out.2.1 Tryz.underlying92 rfl (by kernel_rfl)) rfl ?_
  exact ⟨HO5.out.1.keeps, .inr ⟨HB.out, b1, b2, F, G, T, D, by rw [HEN.out]; rfl, HO5.out.2.2, HO4.out.2.2.2.1, HO4.out.2.2.2.2⟩⟩
end Go.Proofs.YtlnmlbkeemahcaaGreat
