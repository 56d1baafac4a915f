import Derived.Test.YtfbapgcopidbpaaGreatVe
namespace Go.Proofs.YtfbapgcopidbpaaGreat
open Go.RowKit Go.Shelf
open Mq (SegW wvs wvs_length wvs_get run_make_words run_copy_wb segW_of_blk)
set_option linter.unusedVariables false
set_option maxRecDepth 6000
set_option linter.unusedSimpArgs false

/-- Where a partition's state begins. -/
def stA (x : Cfg) (i : Nat) : Int := 16 * x.kernel + 2 + 24 * i + 2 + 17
theorem Gd.fit {x : Cfg} (g : Gd x) : x.mayB = true ∧ 0 ≤ x.kernel ∧ x.kernel + x.room ≤ x.frames ∧ 1 ≤ x.room ∧ x.endW ≤ x.kernel + x.room := by
  have h := g.ker
  unfold Cfg.kerB Cfg.fitB at h
  simp only [Bool.and_eq_true, inR_iff, decide_eq_true_eq] at h
  obtain ⟨⟨h1, h2⟩, ⟨h3, h4⟩, h5, h6, h7⟩ := h
  exact ⟨h6, h1, by omega, h3, by omega⟩
theorem Gd.at {x : Cfg} (g : Gd x) {i : Nat} (hi : i < x.ps.length) : 0 ≤ stA x i ∧ stA x i + 5 ≤ 16 * x.frames := by
  obtain ⟨hm, h0, h1, h2, h3⟩ := g.fit
  have h4 := chAt_bd hm (chB x (16 * x.kernel)) x.hs.length
  have h5 : 0 ≤ fillN (chE x (16 * x.kernel)) ∧ (chE x (16 * x.kernel) + fillN (chE x (16 * x.kernel))) % 16 = 0 := by unfold fillN; split <;> omega
  have h6 : rtB x (16 * x.kernel) = chE x (16 * x.kernel) + fillN (chE x (16 * x.kernel)) := rfl
  have h7 : chE x (16 * x.kernel) = chAt x (chB x (16 * x.kernel)) x.hs.length := rfl
  have h8 : chB x (16 * x.kernel) = 16 * x.kernel + 2 + 24 * (x.ps.length : Int) := rfl
  have h9 := rtAt_bd x (rtB x (16 * x.kernel)) x.ps.length
  have h10 := h9.2.2 (by rw [h6]; exact h5.2)
  unfold Cfg.endW at h3
  unfold stA
  omega
theorem Td.low {w : World} {m lo lo' : Nat} {R : List Tr} (h : Td w m lo R) (hl : lo' ≤ lo) : Td w m lo' R := ⟨h.map, fun r hr => ⟨(h.blk r hr).1, Nat.le_trans hl (h.blk r hr).2⟩, Nat.le_trans hl h.lom⟩
/-- Devices in the memory. -/
structure Dv (w : World) (d lo : Nat) (x : Cfg) (fs : List Fd) (E m : Nat) (l : List Value) (R : List Tr) : Prop where
  dev : Blk w d [.int .i64 x.frames, .slice (some ⟨E, 0, none⟩) x.ps.length x.ps.length, .map (some m)] 71
  eb : Blk w E l 76
  ears : Ears x (stA x) x.ps.length l
  td : Td w m lo R
  told : R.map Tr.k3 = (fs.filter fun f => !f.ws.isEmpty).map Fd.k3
  lo : lo ≤ d ∧ lo ≤ E
theorem Dv.kept {w w' : World} {d lo : Nat} {x : Cfg} {fs : List Fd} {E m : Nat} {l : List Value} {R : List Tr} (h : Dv w d lo x fs E m l R) (hK : Keeps (fun _ => False) w w') : Dv w' d lo x fs E m l R :=
  ⟨h.dev.kept hK fun h => h, h.eb.kept hK fun h => h, h.ears, h.td.kept hK, h.told, h.lo⟩
/-- What New answers. -/
def NewP (x : Cfg) (fs : List Fd) (w : World) (e : Ending) (w' : World) : Prop :=
  Keeps (fun _ => False) w w' ∧ ((4096 < fs.length ∧ e = .returned (.tuple #[.pointer none, .int .i64 2])) ∨
    (fs.length ≤ 4096 ∧ ¬ Gd x ∧ e = .returned (.tuple #[.pointer none, .int .i64 221])) ∨
    (fs.length ≤ 4096 ∧ Gd x ∧ ¬ MayF x fs ∧ e = .returned (.tuple #[.pointer none, .int .i64 220])) ∨
    (fs.length ≤ 4096 ∧ Gd x ∧ MayF x fs ∧ ∃ d E m l R, e = .returned (.tuple #[.pointer (some ⟨d, 0, none⟩), .int .i64 0]) ∧ Dv w' d w.heap.size x fs E m l R))

theorem new_long (x : Cfg) (fs : List Fd) (a : Option Addr) (c : Nat) (w : World) (N : Nat) (hi : x.In w N) (hN : N ≤ w.heap.size) (hl : 4096 < fs.length) :
    Calls Tryz.prog 15 #[x.v, .slice a fs.length c] w (NewP x fs w) := by
  have HL : Hid (4096 < fs.length) := hl
  obtain ⟨L, hL⟩ : ∃ L, fs.length = L := ⟨_, rfl⟩
  rw [hL] at hl
  rw [hL]
  clear hL
  have h1 : (4096 : Int) < L := by omega
  go_enter Tryz.func15, Tryz.ntmps15
  go_wp2
  go_ret2
  exact ⟨(Keeps.refl _ _).alloc _, .inl ⟨HL.out, rfl⟩⟩
set_option maxHeartbeats 4000000 in
theorem new_any (x : Cfg) (fs : List Fd) (a : Option Addr) (c : Nat) (w : World) (N : Nat) (hi : x.In w N) (hN : N ≤ w.heap.size) (hf : FdsIn w N a c fs) :
    Calls Tryz.prog 15 #[x.v, .slice a fs.length c] w (NewP x fs w) := by
  by_cases hl : 4096 < fs.length
  · exact new_long x fs a c w N hi hN hl
  obtain ⟨W, hW⟩ : ∃ W, W = x.laid w := ⟨_, rfl⟩
  obtain ⟨C, hC⟩ : ∃ C, C = w.heap.size := ⟨_, rfl⟩
  have hO : One w x C N W := by rw [hW, hC]; exact One.mk' hi hN
  have HO : Hid (One w x C N W ∧ FdsIn W N a c fs ∧ fs.length ≤ 4096) := ⟨hO, hf.kept hO.keeps fun _ h => h.elim, by omega⟩
  have HC : Hid (Calls Tryz.prog 24 #[x.v] W (ChkP x W)) := Check_any x W N hO.cin hO.nn
  obtain ⟨q0, q1, q2, q3, q4, q5, q6⟩ := HO.out.1.cells
  obtain ⟨L, hL⟩ : ∃ L, fs.length = L := ⟨_, rfl⟩
  have HL : Hid (fs.length = L) := hL
  rw [hL] at hl
  rw [hL]
  have h1 : (L : Int) ≤ 4096 := by omega
  unfold Cfg.laid at hW
  clear hL hi hN hf hO hl
  go_enter Tryz.func15, Tryz.ntmps15
  go_upto_region 1 with fail
  rw [← hW, ← hC]
  clear hW hC
  go_wp2_with fail
  refine HC.out.mono ?_
  rintro e w1 ⟨rfl, hK1⟩
  obtain ⟨W1, hW1⟩ : ∃ W1, W1 = w1.alloc (.cells #[.int .i64 (chk x).a, .int .i64 (chk x).b] 61) := ⟨_, rfl⟩
  have hK2 : Keeps (fun _ => False) W W1 := by rw [hW1]; exact hK1.alloc _
  have HO1 : Hid (One w x C N W1 ∧ FdsIn W1 N a c fs) := ⟨HO.out.1.kept hK2, HO.out.2.1.kept hK2 fun _ h => h.elim⟩
  clear hK1 hK2 HC q0 q1 q2 q3 q4 q5 q6
  go_upto_region 4 with fail
  rw [← hW1]
  clear hW1
  by_cases hn : (chk x).n = 0
  case neg =>
    have HN : Hid (¬ Gd x) := fun g => hn (chk_n.2 g)
    go_wp2_with fail
    go_ret2
    exact ⟨HO1.out.1.keeps, .inr (.inl ⟨by have := HL.out; omega, HN.out, rfl⟩)⟩
  have HG : Hid (Gd x) := chk_n.1 hn
  have HC : Hid (Calls Tryz.prog 25 #[x.v] W1 (OfP x W1)) := Of_any x W1 N HO1.out.1.cin HO1.out.1.nn
  obtain ⟨q0, q1, q2, q3, q4, q5, q6⟩ := HO1.out.1.cells
  go_wp2_with fail
  refine HC.out.mono ?_
  rintro e w2 ⟨hK2, ⟨hm, _⟩ | ⟨hm, b1, b2, F, G, T, D, rfl, hLD, hF, hG⟩⟩
  · exact absurd hm (by rw [HG.out.fit.1]; decide)
  obtain ⟨Z, hZ⟩ : ∃ Z, Z = rtAt x (rtB x (16 * x.kernel)) x.ps.length / 16 := ⟨_, rfl⟩
  rw [← hZ]
  clear hZ hG hm
  obtain ⟨A, hA⟩ : ∃ A, A = w2.heap.size := ⟨_, rfl⟩
  obtain ⟨W2, hW2⟩ : ∃ W2, W2 = w2.alloc (.cells #[.int .i64 (16 * x.kernel), .slice (some ⟨b1, 0, none⟩) x.ps.length x.ps.length, .slice (some ⟨b2, 0, none⟩) x.hs.length x.hs.length, .int .i64 Z] 35) := ⟨_, rfl⟩
  have hK3 : Keeps (fun _ => False) W1 W2 := by rw [hW2]; exact hK2.alloc _
  have HO2 : Hid (One w x C N W2 ∧ FdsIn W2 N a c fs ∧ Blk W2 A [.int .i64 (16 * x.kernel), .slice (some ⟨b1, 0, none⟩) x.ps.length x.ps.length, .slice (some ⟨b2, 0, none⟩) x.hs.length x.hs.length, .int .i64 Z] 35 ∧ Blk W2 b1 (row5 (fun i => (F i).vs) x.ps.length) 90 ∧ ∀ i, i < x.ps.length → (F i).state = stA x i) := by
    refine ⟨HO1.out.1.kept hK3, HO1.out.2.kept hK3 fun _ h => h.elim, ?_, ?_, fun i hi => (hF i hi).2.2.1⟩
    · rw [hW2, hA]; exact Blk.new _ _ _
    · rw [hW2]; exact hLD.p.alloc _
  clear hK2 hK3 HC q0 q1 q2 q3 q4 q5 q6 hLD hF hn
  go_upto_region 7 with fail
  rw [← hW2, ← hA]
  clear hW2 hA
  obtain ⟨q0, q1, q2, q3, q4, q5, q6⟩ := HO2.out.1.cells
  have HC : Hid (Calls Tryz.prog 26 #[x.v, .slice a L c] W2 (TidP x fs W2)) := by
    have := tidings_any x fs a c W2 N HO2.out.1.cin HO2.out.1.nn HO2.out.2.1 HO.out.2.2 (fun P hP => by
      obtain ⟨p, hp⟩ := List.getElem?_of_mem hP
      have := (HG.out.gp p P hp).dev.1
      rw [inR_iff] at this
      omega)
    rw [HL.out] at this
    exact this
  go_wp2_with fail
  refine HC.out.mono ?_
  rintro e W4 ⟨hK4, ⟨hm, rfl⟩ | ⟨hm, m, R, rfl, hT, hR⟩⟩
  · have HN : Hid (¬ MayF x fs ∧ Keeps (fun _ => False) W2 W4) := ⟨hm, hK4⟩
    clear HC q0 q1 q2 q3 q4 q5 q6 hm hK4
    go_wp2_with fail
    go_ret2
    exact ⟨HO2.out.1.keeps.trans HN.out.2 fun _ _ h => h, .inr (.inr (.inl ⟨by have := HL.out; omega, HG.out, HN.out.1, rfl⟩))⟩
  have HM : Hid (MayF x fs ∧ Td W4 m W2.heap.size R ∧ R.map Tr.k3 = (fs.filter fun f => !f.ws.isEmpty).map Fd.k3) := ⟨hm, hT, hR⟩
  have HO4 : Hid (One w x C N W4 ∧ Blk W4 A [.int .i64 (16 * x.kernel), .slice (some ⟨b1, 0, none⟩) x.ps.length x.ps.length, .slice (some ⟨b2, 0, none⟩) x.hs.length x.hs.length, .int .i64 Z] 35 ∧ Blk W4 b1 (row5 (fun i => (F i).vs) x.ps.length) 90 ∧ ∀ i, i < x.ps.length → (F i).state = stA x i) :=
    ⟨HO2.out.1.kept hK4, HO2.out.2.2.1.kept hK4 fun h => h, HO2.out.2.2.2.1.kept hK4 fun h => h, HO2.out.2.2.2.2⟩
  clear HC q0 q1 q2 q3 q4 q5 q6 hm hT hR hK4
  have HS4 : Hid (∀ w', Keeps (fun _ => False) W4 w' → w'.cell? ⟨C, 0, none⟩ = some (.int .i64 x.frames) ∧ w'.cell? ⟨C, 1, none⟩ = some (.int .i64 x.major) ∧ w'.cell? ⟨C, 2, none⟩ = some (.int .i64 x.kernel) ∧ w'.cell? ⟨C, 3, none⟩ = some (.int .i64 x.room) ∧ w'.cell? ⟨C, 4, none⟩ = some (.slice x.ca x.cs.length x.cc) ∧ w'.cell? ⟨C, 5, none⟩ = some (.slice x.pa x.ps.length x.pc) ∧ w'.cell? ⟨C, 6, none⟩ = some (.slice x.ha x.hs.length x.hc) ∧ w'.cell? ⟨A, 0, none⟩ = some (.int .i64 (16 * x.kernel)) ∧ w'.cell? ⟨A, 1, none⟩ = some (.slice (some ⟨b1, 0, none⟩) x.ps.length x.ps.length) ∧ w'.cell? ⟨A, 2, none⟩ = some (.slice (some ⟨b2, 0, none⟩) x.hs.length x.hs.length) ∧ w'.cell? ⟨A, 3, none⟩ = some (.int .i64 Z)) := fun w' hK => by
    have h1 := (HO4.out.1.kept hK).cells
    have h2 := HO4.out.2.1.kept hK fun h => h
    exact ⟨h1.1, h1.2.1, h1.2.2.1, h1.2.2.2.1, h1.2.2.2.2.1, h1.2.2.2.2.2.1, h1.2.2.2.2.2.2, h2.cell rfl, h2.cell rfl, h2.cell rfl, h2.cell rfl⟩
  have HCE : Hid (∀ w', Keeps (fun _ => False) W4 w' → Calls Tryz.prog 27 #[x.v, .agg #[.int .i64 (16 * x.kernel), .slice (some ⟨b1, 0, none⟩) x.ps.length x.ps.length, .slice (some ⟨b2, 0, none⟩) x.hs.length x.hs.length, .int .i64 Z]] w' fun e w'' =>
      Keeps (fun _ => False) W4 w'' ∧ ∃ E l, e = .returned (.slice (some ⟨E, 0, none⟩) x.ps.length x.ps.length) ∧ W4.heap.size ≤ E ∧ Blk w'' E l 76 ∧ Ears x (stA x) x.ps.length l) := fun w' hK => by
    have hg := HG.out
    have hfr := hg.frames
    refine (ears_any x b1 (16 * x.kernel) 0 Z (some ⟨b2, 0, none⟩) x.hs.length x.hs.length (stA x) w' N (HO4.out.1.kept hK).cin (HO4.out.1.kept hK).nn hg.ps.2 hg.ps.1 (fun i hi => ⟨?_, (hg.at hi).1, by have := hg.at hi; omega⟩) (fun P hP => ?_)).mono ?_
    · have h3 := HO4.out.2.2.1.kept hK fun h => h
      refine h3.cell ?_
      rw [row5_get (fun _ => rfl) hi (by decide), ← HO4.out.2.2.2 i hi]
      rfl
    · obtain ⟨p, hp⟩ := List.getElem?_of_mem hP
      have := (hg.gp p P hp).dev.2
      rw [inR_iff] at this
      omega
    · rintro e w'' ⟨h1, E, l, h2, h3, h4, h5⟩
      exact ⟨hK.trans h1 fun _ _ h => h, E, l, h2, Nat.le_trans hK.size h3, h4, h5⟩
  go_upto_region 12 with fail
  refine wp_region_held_drew (S := (fun w' => w'.cell? ⟨C, 0, none⟩ = some (.int .i64 x.frames) ∧ w'.cell? ⟨C, 1, none⟩ = some (.int .i64 x.major) ∧ w'.cell? ⟨C, 2, none⟩ = some (.int .i64 x.kernel) ∧ w'.cell? ⟨C, 3, none⟩ = some (.int .i64 x.room) ∧ w'.cell? ⟨C, 4, none⟩ = some (.slice x.ca x.cs.length x.cc) ∧ w'.cell? ⟨C, 5, none⟩ = some (.slice x.pa x.ps.length x.pc) ∧ w'.cell? ⟨C, 6, none⟩ = some (.slice x.ha x.hs.length x.hc) ∧ w'.cell? ⟨A, 0, none⟩ = some (.int .i64 (16 * x.kernel)) ∧ w'.cell? ⟨A, 1, none⟩ = some (.slice (some ⟨b1, 0, none⟩) x.ps.length x.ps.length) ∧ w'.cell? ⟨A, 2, none⟩ = some (.slice (some ⟨b2, 0, none⟩) x.hs.length x.hs.length) ∧ w'.cell? ⟨A, 3, none⟩ = some (.int .i64 Z))) Tryz.mixd (HS4.out _ (Keeps.refl _ W4).drew) (fun hHeld => ?_)
  simp only [List.size_toArray, List.length_cons, List.length_nil, Nat.reduceAdd, Array.replicate_succ, Array.replicate_zero, List.push_toArray, List.nil_append, List.cons_append]
  refine wpAnyH_take (i := 0) (oi := { dst := some 37, op := Op.fieldAddr 42 (Operand.tmp 2) 0, type := 0, pos := "device.go:34", after := #[], guard := none }) (v := .pointer (some ⟨C, 0, none⟩)) rfl (by kernel_rfl) (by kernel_rfl) (by kernel_rfl) (fun _ _ _ h => h) (Or.inl ⟨by kernel_rfl, by (intro w hSw; (try dsimp only at hSw); go_simp; try omega)⟩) hHeld ?_
  simp only [Act.put, List.setIfInBounds_toArray, List.set_cons_zero, List.set_cons_succ]
  refine wpAnyH_take (i := 1) (oi := { dst := some 38, op := Op.load 3 (Operand.tmp 37), type := 3, pos := "device.go:34", after := #[{ on := 0, ground := Ground.data }], guard := none }) (v := .int .i64 x.frames) rfl (by kernel_rfl) (by kernel_rfl) (by kernel_rfl) (fun _ _ _ h => h) (Or.inl ⟨by kernel_rfl, by (intro w hSw; (try dsimp only at hSw); go_simp; try omega)⟩) hHeld ?_
  simp only [Act.put, List.setIfInBounds_toArray, List.set_cons_zero, List.set_cons_succ]
  refine wpAnyH_take (i := 2) (oi := { dst := some 39, op := Op.load 42 (Operand.tmp 2), type := 42, pos := "device.go:34", after := #[], guard := none }) (v := .agg #[.int .i64 x.frames, .int .i64 x.major, .int .i64 x.kernel, .int .i64 x.room, .slice x.ca x.cs.length x.cc, .slice x.pa x.ps.length x.pc, .slice x.ha x.hs.length x.hc]) rfl (by kernel_rfl) (by kernel_rfl) (by kernel_rfl) (fun _ _ _ h => h) (Or.inl ⟨by kernel_rfl, by (intro w hSw; (try dsimp only at hSw); go_simp; try omega)⟩) hHeld ?_
  simp only [Act.put, List.setIfInBounds_toArray, List.set_cons_zero, List.set_cons_succ]
  refine wpAnyH_take (i := 3) (oi := { dst := some 40, op := Op.load 35 (Operand.tmp 8), type := 35, pos := "device.go:34", after := #[], guard := none }) (v := .agg #[.int .i64 (16 * x.kernel), .slice (some ⟨b1, 0, none⟩) x.ps.length x.ps.length, .slice (some ⟨b2, 0, none⟩) x.hs.length x.hs.length, .int .i64 Z]) rfl (by kernel_rfl) (by kernel_rfl) (by kernel_rfl) (fun _ _ _ h => h) (Or.inl ⟨by kernel_rfl, by (intro w hSw; (try dsimp only at hSw); go_simp; try omega)⟩) hHeld ?_
  simp only [Act.put, List.setIfInBounds_toArray, List.set_cons_zero, List.set_cons_succ]
  refine wpAnyH_take (i := 5) (oi := { dst := some 42, op := Op.move (Operand.tmp 10), type := 69, pos := "device.go:34", after := #[], guard := none }) (v := .map (some m)) rfl (by kernel_rfl) (by kernel_rfl) (by kernel_rfl) (fun _ _ _ h => h) (Or.inl ⟨by kernel_rfl, by (intro w hSw; (try dsimp only at hSw); go_simp; try omega)⟩) hHeld ?_
  simp only [Act.put, List.setIfInBounds_toArray, List.set_cons_zero, List.set_cons_succ]
  refine wpAnyH_ready (rs := [4]) (by kernel_rfl) (by simp) ?_
  refine AllReadyH.cons (o := { dst := some 41, op := Op.call { callee := Callee.value (Operand.func 27), args := #[Operand.tmp 39, Operand.tmp 40], argTypes := #[42, 35] }, type := 67, pos := "device.go:34", after := #[{ on := 2, ground := Ground.data }, { on := 3, ground := Ground.data }], guard := none }) rfl (fun Kq hK => ?_) AllReadyH.nil
  go_simp
  refine (HCE.out _ (Keeps.refl _ W4).drew).mono ?_
  rintro e w5 ⟨hK5, E, l, rfl, hE1, hE2, hE3⟩
  refine hK _ _ (HS4.out w5 hK5) (fun hHeld => ?_)
  simp only [Act.put, List.setIfInBounds_toArray, List.set_cons_zero, List.set_cons_succ]
  refine wpAnyH_take (i := 6) (oi := { dst := some 43, op := Op.build 71 #[(0, Operand.tmp 38), (1, Operand.tmp 41), (2, Operand.tmp 42)], type := 71, pos := "device.go:34", after := #[{ on := 1, ground := Ground.data }, { on := 4, ground := Ground.data }, { on := 5, ground := Ground.data }], guard := none }) (v := .agg #[.int .i64 x.frames, .slice (some ⟨E, 0, none⟩) x.ps.length x.ps.length, .map (some m)]) rfl (by kernel_rfl) (by kernel_rfl) (by kernel_rfl) (fun _ _ _ h => h) (Or.inl ⟨by kernel_rfl, by (intro w hSw; (try dsimp only at hSw); go_simp; try omega)⟩) hHeld ?_
  simp only [Act.put, List.setIfInBounds_toArray, List.set_cons_zero, List.set_cons_succ]
  refine wpAnyH_ready (rs := [7]) (by kernel_rfl) (by simp) ?_
  refine AllReadyH.cons (o := { dst := some 44, op := Op.box 71 (Operand.tmp 43), type := 22, pos := "device.go:34", after := #[{ on := 6, ground := Ground.data }], guard := none }) rfl (fun Kq hK => ?_) AllReadyH.nil
  go_simp
  refine hK _ _ (HS4.out _ (hK5.alloc _)) (fun hHeld => ?_)
  simp only [Act.put, List.setIfInBounds_toArray, List.set_cons_zero, List.set_cons_succ]
  refine wpAnyH_take (i := 8) (oi := { dst := some 4, op := Op.assign (Operand.tmp 44), type := 22, pos := "device.go:34", after := #[{ on := 7, ground := Ground.data }, { on := 4, ground := Ground.chain }, { on := 0, ground := Ground.phase }, { on := 1, ground := Ground.phase }, { on := 2, ground := Ground.phase }, { on := 3, ground := Ground.phase }, { on := 4, ground := Ground.phase }, { on := 5, ground := Ground.phase }, { on := 6, ground := Ground.phase }, { on := 7, ground := Ground.phase }], guard := none }) (v := .pointer (some ⟨w5.heap.size, 0, none⟩)) rfl (by kernel_rfl) (by kernel_rfl) (by kernel_rfl) (fun _ _ _ h => h) (Or.inl ⟨by kernel_rfl, by (intro w hSw; (try dsimp only at hSw); go_simp; try omega)⟩) hHeld ?_
  simp only [Act.put, List.setIfInBounds_toArray, List.set_cons_zero, List.set_cons_succ]
  refine wpAnyH_take (i := 9) (oi := { dst := some 5, op := Op.assign (Operand.const (Value.int IntKind.i64 0)), type := 24, pos := "device.go:34", after := #[{ on := 8, ground := Ground.chain }, { on := 0, ground := Ground.phase }, { on := 1, ground := Ground.phase }, { on := 2, ground := Ground.phase }, { on := 3, ground := Ground.phase }, { on := 4, ground := Ground.phase }, { on := 5, ground := Ground.phase }, { on := 6, ground := Ground.phase }, { on := 7, ground := Ground.phase }, { on := 8, ground := Ground.phase }], guard := none }) (v := .int .i64 0) rfl (by kernel_rfl) (by kernel_rfl) (by kernel_rfl) (fun _ _ _ h => h) (Or.inl ⟨by kernel_rfl, by (intro w hSw; (try dsimp only at hSw); go_simp; try omega)⟩) hHeld ?_
  simp only [Act.put, List.setIfInBounds_toArray, List.set_cons_zero, List.set_cons_succ]
  refine wpAnyH_done (by kernel_rfl) ?_ _
  clear hHeld
  go_wp2
  go_ret2
  have hz4 : w.heap.size ≤ W4.heap.size := HO4.out.1.keeps.size
  have hz2 : w.heap.size ≤ W2.heap.size := HO2.out.1.keeps.size
  refine ⟨(HO4.out.1.keeps.trans hK5 fun _ _ h => h).alloc _, .inr (.inr (.inr ⟨by have := HL.out; omega, HG.out, HM.out.1, w5.heap.size, E, m, l, R, rfl, ?_⟩))⟩
  exact ⟨Blk.new _ _ _, hE2.alloc _, hE3, (HM.out.2.1.low hz2).kept (hK5.alloc _), HM.out.2.2, Nat.le_trans hz4 hK5.size, Nat.le_trans hz4 hE1⟩
end Go.Proofs.YtfbapgcopidbpaaGreat
