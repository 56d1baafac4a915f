import Derived.Test.YtlnmlbkeemahcaaGreatCq
namespace Go.Proofs.YtlnmlbkeemahcaaGreat
open Go.RowKit
set_option linter.unusedVariables false
set_option linter.unusedSimpArgs false
set_option maxRecDepth 6000
def ZIn (M : Nat) (w : World) (z : Par) : Prop :=
 (SegA Rgn.vs 4 w z.ra z.rs ∧ (z.rs.length ≤ z.rc ∧ z.rc ≤ maxLen) ∧ (z.rs ≠ [] → ∀ b, z.ra = some b → M < b.block ∧ b.block < w.heap.size)) ∧
 (SegA Prt.vs 2 w z.pa z.ps ∧ (z.ps.length ≤ z.pc ∧ z.pc ≤ maxLen) ∧ (z.ps ≠ [] → ∀ b, z.pa = some b → M < b.block ∧ b.block < w.heap.size))
theorem ZIn.kept {M : Nat} {w w' : World} {z : Par} {S : Nat → Prop} (h : ZIn M w z) (k : Keeps S w w') (hS : ∀ b, S b → b ≤ M ∨ w.heap.size ≤ b) : ZIn M w' z :=
 ⟨⟨h.1.1.kept k fun hn b hb e => by have := h.1.2.2 hn b hb; have := hS _ e; omega, h.1.2.1, fun hn b hb => ⟨(h.1.2.2 hn b hb).1, Nat.lt_of_lt_of_le (h.1.2.2 hn b hb).2 k.size⟩⟩,
  ⟨h.2.1.kept k fun hn b hb e => by have := h.2.2.2 hn b hb; have := hS _ e; omega, h.2.2.1, fun hn b hb => ⟨(h.2.2.2 hn b hb).1, Nat.lt_of_lt_of_le (h.2.2.2 hn b hb).2 k.size⟩⟩⟩
structure C2 (w : World) (x : Cfg) (C R O M M2 N : Nat) (ys : List Core) (zs : List Par) (w' : World) : Prop where
 cfg : Blk w' C x.vs 26
 res : Blk w' R [.int .i64 0, .int .i64 0, .int .i64 0, .int .i64 0, .slice none 0 0, .slice none 0 0, .slice none 0 0] 26
 out : Blk w' O [.int .i64 x.frames, .int .i64 x.major, .int .i64 x.kernel, .int .i64 x.room, .slice (some ⟨M, 0, none⟩) x.cs.length x.cs.length, .slice (some ⟨M2, 0, none⟩) x.ps.length x.ps.length, .slice x.ha x.hs.length x.hc] 26
 row : Blk w' M (ys.map Core.v) 42
 eqv : ys.map (·.ws) = x.cs.map (·.ws)
 yin : ∀ y ∈ ys, SegA Win.vs 3 w' y.a y.ws ∧ (y.ws.length ≤ y.c ∧ y.c ≤ maxLen) ∧ (y.ws ≠ [] → ∀ b, y.a = some b → M < b.block ∧ b.block < M2)
 row2 : Blk w' M2 (zs.flatMap Par.vs ++ (List.replicate (x.ps.length - zs.length) zP).flatten) 41
 len : zs.length ≤ x.ps.length
 eqv2 : ∀ (j : Nat) (z P : Par), zs[j]? = some z → x.ps[j]? = some P → z.Eqv P
 zin : ∀ z ∈ zs, ZIn M2 w' z
 keeps : KF w w'
 cin : x.In w' N
 nn : N ≤ w.heap.size
 lo : w.heap.size ≤ C ∧ C < R ∧ R < O ∧ O < M ∧ M < M2 ∧ M2 < w'.heap.size
theorem C2.up {w : World} {x : Cfg} {C R O M M2 N : Nat} {ys : List Core} {zs : List Par} {w' w'' : World} {S : Nat → Prop} (h : C2 w x C R O M M2 N ys zs w') (k : Keeps S w' w'') (hS : ∀ b, S b → w'.heap.size ≤ b) : C2 w x C R O M M2 N ys zs w'' := by
 have hlo := h.lo
 have hn : ∀ b, b < w'.heap.size → ¬ S b := fun b hb e => by have := hS b e; omega
 exact ⟨h.cfg.kept k (hn _ (by omega)), h.res.kept k (hn _ (by omega)), h.out.kept k (hn _ (by omega)), h.row.kept k (hn _ (by omega)), h.eqv, fun y hy => ⟨(h.yin y hy).1.kept k fun hne b hb => hn _ (by have := (h.yin y hy).2.2 hne b hb; omega), (h.yin y hy).2⟩, h.row2.kept k (hn _ (by omega)), h.len, h.eqv2,
  fun z hz => (h.zin z hz).kept k fun b hb => .inr (hS b hb), h.keeps.trans k fun b hb e => hn b (by have := h.keeps.size; omega) e, h.cin.below (k.below (Nat.le_trans h.nn h.keeps.size) fun b e => by have := hS b e; have := h.nn; have := h.keeps.size; omega), h.nn, ⟨hlo.1, hlo.2.1, hlo.2.2.1, hlo.2.2.2.1, hlo.2.2.2.2.1, Nat.lt_of_lt_of_le hlo.2.2.2.2.2 k.size⟩⟩
theorem set8 (pre post : List Value) (a0 a1 a2 a3 a4 a5 a6 a7 v0 v1 v2 v3 v4 v5 v6 v7 : Value) :
  ((((((((pre ++ ([a0, a1, a2, a3, a4, a5, a6, a7] ++ post)).set pre.length v0).set (pre.length + 1) v1).set (pre.length + 2) v2).set (pre.length + 3) v3).set (pre.length + 4) v4).set (pre.length + 5) v5).set (pre.length + 6) v6).set (pre.length + 7) v7 = pre ++ ([v0, v1, v2, v3, v4, v5, v6, v7] ++ post) := by
 have h (l : List Value) (i : Nat) (v : Value) : (pre ++ l).set (pre.length + i) v = pre ++ l.set i v := by
  rw [List.set_append_right _ _ (by omega), Nat.add_sub_cancel_left]
 have h0 (l : List Value) (v : Value) : (pre ++ l).set pre.length v = pre ++ l.set 0 v := h l 0 v
 simp only [h, h0]
 rfl
theorem C2.put {w : World} {x : Cfg} {C R O M M2 N : Nat} {ys : List Core} {zs : List Par} {w' : World} (h : C2 w x C R O M M2 N ys zs w') {z P : Par} (hP : x.ps[zs.length]? = some P) (he : z.Eqv P) (hz : ZIn M2 w' z) (o : Nat) (ho : o = zs.length * 8) :
  C2 w x C R O M M2 N ys (zs ++ [z]) ((((((((w'.setCell ⟨M2, o, none⟩ (.string z.name)).setCell ⟨M2, o + 1, none⟩ (.int .i64 z.entry)).setCell ⟨M2, o + 2, none⟩ (.int .i64 z.action)).setCell ⟨M2, o + 3, none⟩ (.int .i64 z.restarts)).setCell ⟨M2, o + 4, none⟩ (.int .i64 z.inputs)).setCell ⟨M2, o + 5, none⟩ (.int .i64 z.outputs)).setCell ⟨M2, o + 6, none⟩ (.slice z.ra z.rs.length z.rc)).setCell ⟨M2, o + 7, none⟩ (.slice z.pa z.ps.length z.pc)) := by
 have hlt := (List.getElem?_eq_some_iff.1 hP).1
 have hlo := h.lo
 have hnn := h.nn
 have k0 := Keeps.refl (fun k => k = M2) w'
 have k1 := k0.setCell ⟨M2, o, none⟩ (.string z.name) fun _ => rfl
 have k2 := k1.setCell ⟨M2, o + 1, none⟩ (.int .i64 z.entry) fun _ => rfl
 have k3 := k2.setCell ⟨M2, o + 2, none⟩ (.int .i64 z.action) fun _ => rfl
 have k4 := k3.setCell ⟨M2, o + 3, none⟩ (.int .i64 z.restarts) fun _ => rfl
 have k5 := k4.setCell ⟨M2, o + 4, none⟩ (.int .i64 z.inputs) fun _ => rfl
 have k6 := k5.setCell ⟨M2, o + 5, none⟩ (.int .i64 z.outputs) fun _ => rfl
 have k7 := k6.setCell ⟨M2, o + 6, none⟩ (.slice z.ra z.rs.length z.rc) fun _ => rfl
 have k8 := k7.setCell ⟨M2, o + 7, none⟩ (.slice z.pa z.ps.length z.pc) fun _ => rfl
 have b1 := h.row2.setCell o (.string z.name)
 have b2 := b1.setCell (o + 1) (.int .i64 z.entry)
 have b3 := b2.setCell (o + 2) (.int .i64 z.action)
 have b4 := b3.setCell (o + 3) (.int .i64 z.restarts)
 have b5 := b4.setCell (o + 4) (.int .i64 z.inputs)
 have b6 := b5.setCell (o + 5) (.int .i64 z.outputs)
 have b7 := b6.setCell (o + 6) (.slice z.ra z.rs.length z.rc)
 have b8 := b7.setCell (o + 7) (.slice z.pa z.ps.length z.pc)
 clear b1 b2 b3 b4 b5 b6 b7 k0 k1 k2 k3 k4 k5 k6 k7
 obtain ⟨W, hW⟩ : ∃ W, W = ((((((((w'.setCell ⟨M2, o, none⟩ (.string z.name)).setCell ⟨M2, o + 1, none⟩ (.int .i64 z.entry)).setCell ⟨M2, o + 2, none⟩ (.int .i64 z.action)).setCell ⟨M2, o + 3, none⟩ (.int .i64 z.restarts)).setCell ⟨M2, o + 4, none⟩ (.int .i64 z.inputs)).setCell ⟨M2, o + 5, none⟩ (.int .i64 z.outputs)).setCell ⟨M2, o + 6, none⟩ (.slice z.ra z.rs.length z.rc)).setCell ⟨M2, o + 7, none⟩ (.slice z.pa z.ps.length z.pc)) := ⟨_, rfl⟩
 rw [← hW] at k8 b8 ⊢
 clear hW
 refine ⟨h.cfg.kept k8 (by omega), h.res.kept k8 (by omega), h.out.kept k8 (by omega), h.row.kept k8 (by omega), h.eqv, fun y hy => ⟨(h.yin y hy).1.kept k8 fun hne b hb e => by have := (h.yin y hy).2.2 hne b hb; omega, (h.yin y hy).2⟩, ?_, by simp; omega, fun j z' P' hj hj' => ?_, fun z' hz' => ?_,
  h.keeps.trans k8 fun b hb e => by omega, h.cin.below (k8.below (Nat.le_trans hnn h.keeps.size) fun b e => by omega), hnn, ⟨hlo.1, hlo.2.1, hlo.2.2.1, hlo.2.2.2.1, hlo.2.2.2.2.1, Nat.lt_of_lt_of_le hlo.2.2.2.2.2 k8.size⟩⟩
 ·
  obtain ⟨m, hm⟩ : ∃ m, x.ps.length - zs.length = m + 1 := ⟨x.ps.length - zs.length - 1, by omega⟩
  have hm2 : x.ps.length - (zs ++ [z]).length = m := by simp; omega
  have hpl : (zs.flatMap Par.vs).length = o := by have := flat_len ePar zs; rw [ho]; exact this
  rw [hm, List.replicate_succ, List.flatten_cons] at b8
  rw [hm2]
  have := set8 (zs.flatMap Par.vs) (List.replicate m zP).flatten (.string { data := #[] }) (.int .i64 0) (.int .i64 0) (.int .i64 0) (.int .i64 0) (.int .i64 0) (.slice none 0 0) (.slice none 0 0) (.string z.name) (.int .i64 z.entry) (.int .i64 z.action) (.int .i64 z.restarts) (.int .i64 z.inputs) (.int .i64 z.outputs) (.slice z.ra z.rs.length z.rc) (.slice z.pa z.ps.length z.pc)
  rw [hpl] at this
  unfold zP at b8 this ⊢
  rw [this] at b8
  rw [List.flatMap_append, List.append_assoc]
  simpa using b8
 ·
  by_cases e : j < zs.length
  ·
   rw [List.getElem?_append_left e] at hj
   exact h.eqv2 j z' P' hj hj'
  ·
   rw [List.getElem?_append_right (by omega)] at hj
   have hj0 : j - zs.length = 0 := by
    have := (List.getElem?_eq_some_iff.1 hj).1
    simp at this
    omega
   rw [hj0] at hj
   cases hj
   have : j = zs.length := by omega
   rw [this, hP] at hj'
   cases hj'
   exact he
 ·
  have hk : ∀ u : Par, ZIn M2 w' u → ZIn M2 W u := fun u hu => hu.kept k8 fun b e => .inl (by omega)
  rcases List.mem_append.1 hz' with h1 | h1
  ·
   exact hk z' (h.zin z' h1)
  ·
   have : z' = z := by simpa using h1
   rw [this]
   exact hk z hz
structure Cfg.Eqv (x y : Cfg) : Prop where
 frames : y.frames = x.frames
 major : y.major = x.major
 kernel : y.kernel = x.kernel
 room : y.room = x.room
 cs : y.cs.map (·.ws) = x.cs.map (·.ws)
 len : y.ps.length = x.ps.length
 ps : ∀ (j : Nat) (z P : Par), y.ps[j]? = some z → x.ps[j]? = some P → z.Eqv P
 hs : y.hs = x.hs
structure Cfg.Lo (lo : Nat) (x : Cfg) : Prop where
 c : x.cs ≠ [] → ∀ b, x.ca = some b → lo ≤ b.block
 p : x.ps ≠ [] → ∀ b, x.pa = some b → lo ≤ b.block
 h : x.hs ≠ [] → ∀ b, x.ha = some b → lo ≤ b.block
 w : ∀ y ∈ x.cs, y.ws ≠ [] → ∀ b, y.a = some b → lo ≤ b.block
 r : ∀ z ∈ x.ps, z.rs ≠ [] → ∀ b, z.ra = some b → lo ≤ b.block
 q : ∀ z ∈ x.ps, z.ps ≠ [] → ∀ b, z.pa = some b → lo ≤ b.block
def CopP (x : Cfg) (w : World) (e : Ending) (w' : World) : Prop := ∃ x' : Cfg, e = .returned x'.v ∧ x.Eqv x' ∧ x'.In w' w'.heap.size ∧ x'.Lo w.heap.size ∧ KF w w'
theorem seg_blk' {α : Type} (E : Elem α) {w : World} {b : Nat} {xs : List α} {t : TypeId} (h : Blk w b (xs.flatMap E.vs) t) : SegA E.vs E.k w (some ⟨b, 0, none⟩) xs :=
 .inr ⟨b, 0, rfl, fun j x hj i v hv => by rw [Nat.zero_add]; exact h.cell (flat_get E xs j x i v hj hv)⟩
theorem flat_core (ys : List Core) : ys.flatMap Core.vs = ys.map Core.v := by
 induction ys with
 | nil => rfl
 | cons y ys ih => rw [List.flatMap_cons, ih]; rfl
set_option maxHeartbeats 8000000 in
theorem Copied_any (x : Cfg) (w : World) (N : Nat) (hi : x.In w N) (hN : N ≤ w.heap.size) (hs : Sml x) : Calls Tryz.prog 8 #[x.v] w (CopP x w) := by
 have HS : Hid (Sml x) := hs
 obtain ⟨W, hW⟩ : ∃ W, W = ((x.laid w).alloc (.cells #[.int .i64 0, .int .i64 0, .int .i64 0, .int .i64 0, .slice none 0 0, .slice none 0 0, .slice none 0 0] 26)).alloc (.cells #[.int .i64 x.frames, .int .i64 x.major, .int .i64 x.kernel, .int .i64 x.room, .slice x.ca x.cs.length x.cc, .slice x.pa x.ps.length x.pc, .slice x.ha x.hs.length x.hc] 26) := ⟨_, rfl⟩
 obtain ⟨C, hC⟩ : ∃ C, C = w.heap.size := ⟨_, rfl⟩
 obtain ⟨R, hR⟩ : ∃ R, R = w.heap.size + 1 := ⟨_, rfl⟩
 obtain ⟨O, hO⟩ : ∃ O, O = w.heap.size + 1 + 1 := ⟨_, rfl⟩
 have hE0 : Env x N [] w := ⟨hi, hN, fun b hb => by cases hb⟩
 have hE : Env x N [(O, x.vs, 26), (R, [.int .i64 0, .int .i64 0, .int .i64 0, .int .i64 0, .slice none 0 0, .slice none 0 0, .slice none 0 0], 26), (C, x.vs, 26)] W := by
  have := ((hE0.box x.vs 26).box [.int .i64 0, .int .i64 0, .int .i64 0, .int .i64 0, .slice none 0 0, .slice none 0 0, .slice none 0 0] 26).box x.vs 26
  rw [hW, hC, hR, hO]
  simpa [Cfg.laid, Cfg.vs] using this
 have kW : KF w W := by rw [hW]; exact (((Keeps.refl _ _).alloc _).alloc _).alloc _
 have hsz : W.heap.size = O + 1 := by rw [hW, hO]; simp [Cfg.laid]
 obtain ⟨M, hM⟩ : ∃ M, M = W.heap.size := ⟨_, rfl⟩
 obtain ⟨W1, hW1⟩ : ∃ W1, W1 = W.alloc (.cells (List.replicate x.cs.length (.slice none 0 0)).toArray 42) := ⟨_, rfl⟩
 have HM : Hid ((Instr.makeSlice 22 (.int .i64 x.cs.length) (.int .i64 x.cs.length)).run Tryz.prog W = .ok (.slice (some ⟨M, 0, none⟩) x.cs.length x.cs.length) W1) := by
  rw [hM, hW1]; exact run_make22 W x.cs.length hs.cs
 have hE1 : Env x N ((M, List.replicate x.cs.length (.slice none 0 0), 42) :: [(O, x.vs, 26), (R, [.int .i64 0, .int .i64 0, .int .i64 0, .int .i64 0, .slice none 0 0, .slice none 0 0, .slice none 0 0], 26), (C, x.vs, 26)]) W1 := by rw [hW1, hM]; exact hE.box _ _
 obtain ⟨W2, hW2⟩ : ∃ W2, W2 = W1.setCell ⟨O, 4, none⟩ (.slice (some ⟨M, 0, none⟩) x.cs.length x.cs.length) := ⟨_, rfl⟩
 have HC1 : Hid (C1 w x C R O M N [] W2) := by
  have k1 : KF w W1 := by rw [hW1]; exact kW.trans ((Keeps.refl (fun _ => False) _).alloc _) fun _ _ h => h
  have k2 : Keeps (fun k => k = O) W1 W2 := by rw [hW2]; exact (Keeps.refl _ _).setCell ⟨O, 4, none⟩ _ fun _ => rfl
  have hb := (hE1.bl _ (.tail _ (.head _))).setCell 4 (.slice (some ⟨M, 0, none⟩) x.cs.length x.cs.length)
  dsimp only at hb
  rw [← hW2] at hb
  refine ⟨(hE1.bl _ (.tail _ (.tail _ (.tail _ (.head _))))).kept k2 (by dsimp only; omega), (hE1.bl _ (.tail _ (.tail _ (.head _)))).kept k2 (by dsimp only; omega), hb, ?_, by simp, by simp, fun y hy => by simp at hy, k1.trans k2 fun b hb e => by omega, hE1.cin.below (k2.below hE1.nn fun b e => by omega), hN, by omega⟩
  have := (hE1.bl _ (.head _)).kept k2 (by dsimp only; omega)
  simpa using this
 have HO4 : Hid (W1.cell? ⟨O, 4, none⟩ = some (.slice x.ca x.cs.length x.cc) ∧ W1.frozen? ⟨O, 4, none⟩ = false) := ⟨(hE1.bl _ (.tail _ (.head _))).cell (i := 4) rfl, (hE1.bl _ (.tail _ (.head _))).frozen 4⟩
 have c4 := (hE.bl _ (.tail _ (.tail _ (.head _)))).cell (i := 4) rfl
 dsimp only at c4
 clear hE hE0 hE1 kW hsz hi hN hs
 unfold Cfg.laid at hW
 go_enter Tryz.func8, Tryz.ntmps8
 go_upto_region 2 with fail
 rw [← hW, ← hO, ← hR, ← hC]
 clear hW hO hR hC
 obtain ⟨L, hL⟩ : ∃ L, x.cs.length = L := ⟨_, rfl⟩
 rw [hL] at c4 HM HO4 hW2 ⊢
 have HL : Hid (x.cs.length = L) := hL
 clear hL hW1 hM
 go_wp2_with (at_make; refine wpList_make_run rfl (.tmp 14) (.tmp 14) 22 rfl (.int .i64 L) (.int .i64 L) (.slice (some ⟨M, 0, none⟩) L L) W1 rfl rfl HM.out ?_; refine Hid.out ?_)
 refine Hid.mkq ?_
 obtain ⟨o4, o4f⟩ := HO4.out
 go_upto_region 3 with fail
 rw [← hW2]
 clear hW2 o4 o4f c4 HO4 HM
 go_wp2
 go_loopw [4] (fun i wr => ∃ ys : List Core, i = .int .i64 (ys.length : Int) ∧ C1 w x C R O M N ys wr) (fun i _ => L - (intOf i).toNat)
 case atStart => exact ⟨[], rfl, HC1.out⟩
 case round =>
  obtain ⟨ys, rfl, hI⟩ := hrel
  have hlenb : ys.length ≤ L := by have := hI.len; rw [HL.out] at this; exact this
  have HI : Hid (C1 w x C R O M N ys wr) := hI
  have hcc : (L : Int) ≤ x.cc ∧ (x.cc : Int) ≤ 9223372036854775807 := by have := hI.cin.clen; rw [HL.out] at this; unfold maxLen at this; omega
  obtain ⟨J, hJ⟩ : ∃ J, ys.length = J := ⟨_, rfl⟩
  have HJ : Hid (ys.length = J) := hJ
  rw [hJ] at hlenb ⊢
  by_cases hlt : J < L
  ·
   obtain ⟨X, hX⟩ : ∃ X, x.cs[J]? = some X := ⟨_, List.getElem?_eq_getElem (by have := HL.out; omega)⟩
   obtain ⟨g0, o0, e0, p0⟩ := hI.cin.core hX
   have hXi := hI.cin.cin X (List.mem_of_getElem? hX)
   have c4 : wr.cell? ⟨C, 4, none⟩ = some (.slice (some ⟨g0, o0, none⟩) L x.cc) := by have := hI.cfg.cell (i := 4) rfl; rw [HL.out, e0] at this; exact this
   obtain ⟨i0, hi0, hz0, hz1, hz2⟩ := info_parts Tryz.inf45
   obtain ⟨ad, cp, W3, happ, hseg, hblk, hlen, hK⟩ := copy_app eWin plainWin 42 i0 _ 24 Tryz.underlying42 hi0 hz0 hz1 hz2 rfl X.a X.ws X.c hXi.seg (by have := hXi.len; omega) (by have := HS.out.ws X (List.mem_of_getElem? hX); omega)
   dsimp only [Core.v] at p0
   obtain ⟨XL, hXL⟩ : ∃ XL, X.ws.length = XL := ⟨_, rfl⟩
   rw [hXL] at p0 happ
   have HAP : Hid (∀ ty, (Builtin.append_ #[42, 42] ty #[.slice none 0 0, .slice X.a XL X.c]).run Tryz.prog wr = .ok (.slice ad XL cp) W3) := happ
   have HI3 : Hid (C1 w x C R O M N ys W3) := hI.kept hK
   have o4 : W3.cell? ⟨O, 4, none⟩ = some (.slice (some ⟨M, 0, none⟩) L L) := by have := HI3.out.out.cell (i := 4) rfl; rw [HL.out] at this; exact this
   have m0 : W3.cell? ⟨M, J, none⟩ = some (.slice none 0 0) := HI3.out.row.cell (by
    rw [List.getElem?_append_right (by simp [hJ]), List.length_map, hJ, Nat.sub_self, List.getElem?_replicate, if_pos (by have := HL.out; omega)])
   have m1 := HI3.out.row.frozen J
   have HP : Hid (C1 w x C R O M N (ys ++ [⟨ad, cp, X.ws⟩]) (W3.setCell ⟨M, J, none⟩ (.slice ad XL cp))) := by
    have hlo : M < wr.heap.size := hI.row.lt
    have := HI3.out.put (y := ⟨ad, cp, X.ws⟩) (X := X) (by rw [hJ]; exact hX) rfl ⟨hseg, hlen, fun hn b hb => ⟨by have := (hblk hn b hb).1; omega, (hblk hn b hb).2⟩⟩
    dsimp only [Core.v] at this
    rw [hJ, hXL] at this
    exact this
   clear happ hseg hblk hlen hK hXi hI hX e0 hXL hi0 hz0 hz1 hz2
   go_wp2_with (at_builtin; go_must (refine wpList_append_run rfl (.tmp 24) (.tmp 29) 42 42 rfl (Value.slice none 0 0) (.slice X.a XL X.c) (.slice ad XL cp) W3 rfl rfl HAP.out ?_; refine Hid.out ?_))
   refine Hid.mkq ?_
   clear c4 p0
   go_wp2
   go_roundw
   case rel => exact ⟨ys ++ [⟨ad, cp, X.ws⟩], by rw [List.length_append, HJ.out]; rfl, HP.out⟩
   case measure => simp [intOf]; omega
  ·
   have hJL : J = L := by omega
   have c4 : wr.cell? ⟨C, 4, none⟩ = some (.slice x.ca L x.cc) := by have := hI.cfg.cell (i := 4) rfl; rw [HL.out] at this; exact this
   obtain ⟨PL, hPL⟩ : ∃ PL, x.ps.length = PL := ⟨_, rfl⟩
   have HPL : Hid (x.ps.length = PL) := hPL
   have c5 : wr.cell? ⟨C, 5, none⟩ = some (.slice x.pa PL x.pc) := by have := hI.cfg.cell (i := 5) rfl; rw [hPL] at this; exact this
   obtain ⟨M2, hM2⟩ : ∃ M2, M2 = wr.heap.size := ⟨_, rfl⟩
   obtain ⟨V1, hV1⟩ : ∃ V1, V1 = wr.alloc (.cells ((List.replicate PL zP).flatten).toArray 41) := ⟨_, rfl⟩
   have HM : Hid ((Instr.makeSlice 23 (.int .i64 PL) (.int .i64 PL)).run Tryz.prog wr = .ok (.slice (some ⟨M2, 0, none⟩) PL PL) V1) := by
    rw [hM2, hV1]; exact run_make23 wr PL (by have := HS.out.ps; rw [hPL] at this; exact this)
   have hI1 : C1 w x C R O M N ys V1 := by rw [hV1]; exact hI.kept ((Keeps.refl _ _).alloc _)
   have hB2 : Blk V1 M2 ((List.replicate PL zP).flatten) 41 := by rw [hV1, hM2]; exact Blk.new _ _ _
   have o5 := hI1.out.cell (i := 5) rfl
   have o5f := hI1.out.frozen 5
   obtain ⟨V2, hV2⟩ : ∃ V2, V2 = V1.setCell ⟨O, 5, none⟩ (.slice (some ⟨M2, 0, none⟩) PL PL) := ⟨_, rfl⟩
   have HC2 : Hid (C2 w x C R O M M2 N ys [] V2) := by
    have hlo := hI1.lo
    have hMlt : M < wr.heap.size := hI.row.lt
    have k2 : Keeps (fun k => k = O) V1 V2 := by rw [hV2]; exact (Keeps.refl _ _).setCell ⟨O, 5, none⟩ _ fun _ => rfl
    have hb := hI1.out.setCell 5 (.slice (some ⟨M2, 0, none⟩) PL PL)
    rw [← hV2, ← hPL] at hb
    have hyl : ys.length = x.cs.length := by rw [hJ, hJL]; exact HL.out.symm
    refine ⟨hI1.cfg.kept k2 (by omega), hI1.res.kept k2 (by omega), hb, ?_, ?_, fun y hy => ?_, ?_, by simp, fun j z P hj => by simp at hj, fun z hz => by simp at hz, hI1.keeps.trans k2 fun b hb e => by omega, hI1.cin.below (k2.below (Nat.le_trans hI1.nn hI1.keeps.size) fun b e => by have := hI1.nn; omega), hI1.nn, ⟨hlo.1, hlo.2.1, hlo.2.2.1, hlo.2.2.2, by omega, Nat.lt_of_lt_of_le hB2.lt k2.size⟩⟩
    ·
     have := hI1.row.kept k2 (by omega)
     rw [hyl, Nat.sub_self] at this
     simpa using this
    ·
     have := hI1.eqv
     rw [hyl, List.take_length] at this
     exact this
    ·
     have h1 := hI.yin y hy
     have h2 := hI1.yin y hy
     exact ⟨h2.1.kept k2 fun hn b hb e => by have := h1.2.2 hn b hb; omega, h1.2.1, fun hn b hb => by have := h1.2.2 hn b hb; exact ⟨this.1, by omega⟩⟩
    ·
     have := hB2.kept k2 (by omega)
     rw [← hPL] at this
     simpa using this
   rw [hPL] at o5
   clear hI hI1 hB2 hPL hV1 HC1 HI hM2
   go_wp2_with (at_make; refine wpList_make_run rfl (.tmp 38) (.tmp 38) 23 rfl (.int .i64 PL) (.int .i64 PL) (.slice (some ⟨M2, 0, none⟩) PL PL) V1 rfl rfl HM.out ?_; refine Hid.out ?_)
   refine Hid.mkq ?_
   go_upto_region 10 with fail
   rw [← hV2]
   clear hV2 o5 o5f c4 c5 HM
   go_wp2
   go_loopw [6] (fun i wr => ∃ zs : List Par, i = .int .i64 (zs.length : Int) ∧ C2 w x C R O M M2 N ys zs wr) (fun i _ => PL - (intOf i).toNat)
   case atStart => exact ⟨[], rfl, HC2.out⟩
   case round =>
    obtain ⟨zs, rfl, hI⟩ := hrel
    have hlenb : zs.length ≤ PL := by have := hI.len; rw [HPL.out] at this; exact this
    have hcc : (PL : Int) ≤ x.pc ∧ (x.pc : Int) ≤ 9223372036854775807 := by have := hI.cin.plen; rw [HPL.out] at this; unfold maxLen at this; omega
    obtain ⟨K, hK⟩ : ∃ K, zs.length = K := ⟨_, rfl⟩
    have HK : Hid (zs.length = K) := hK
    rw [hK] at hlenb ⊢
    obtain ⟨wz, hwz⟩ : ∃ wz, wz = wr := ⟨_, rfl⟩
    subst hwz
    have HI : Hid (C2 w x C R O M M2 N ys zs wz) := hI
    by_cases hlt : K < PL
    ·
     obtain ⟨P, hP⟩ : ∃ P, x.ps[K]? = some P := ⟨_, List.getElem?_eq_getElem (by have := HPL.out; omega)⟩
     obtain ⟨g0, o0, e0, hc⟩ := hI.cin.par hP
     have hPi := hI.cin.pin P (List.mem_of_getElem? hP)
     have c5 : wz.cell? ⟨C, 5, none⟩ = some (.slice (some ⟨g0, o0, none⟩) PL x.pc) := by have := hI.cfg.cell (i := 5) rfl; rw [HPL.out, e0] at this; exact this
     have p0 := hc 0 _ rfl
     rw [Nat.add_zero] at p0
     have p1 := hc 1 _ rfl
     have p2 := hc 2 _ rfl
     have p3 := hc 3 _ rfl
     have p4 := hc 4 _ rfl
     have p5 := hc 5 _ rfl
     have p6 := hc 6 _ rfl
     have p7 := hc 7 _ rfl
     obtain ⟨QL, hQL⟩ : ∃ QL, P.ps.length = QL := ⟨_, rfl⟩
     obtain ⟨RL, hRL⟩ : ∃ RL, P.rs.length = RL := ⟨_, rfl⟩
     rw [hQL] at p7
     rw [hRL] at p6
     obtain ⟨U1, hU1⟩ : ∃ U1, U1 = wz.alloc (.cells #[.string P.name, .int .i64 P.entry, .int .i64 P.action, .int .i64 P.restarts, .int .i64 P.inputs, .int .i64 P.outputs, .slice P.ra RL P.rc, .slice P.pa QL P.pc] 41) := ⟨_, rfl⟩
     obtain ⟨Q, hQ⟩ : ∃ Q, Q = wz.heap.size := ⟨_, rfl⟩
     have hB1 : Blk U1 Q [.string P.name, .int .i64 P.entry, .int .i64 P.action, .int .i64 P.restarts, .int .i64 P.inputs, .int .i64 P.outputs, .slice P.ra RL P.rc, .slice P.pa QL P.pc] 41 := by rw [hU1, hQ]; exact Blk.new _ _ _
     have kU1 : KF wz U1 := by rw [hU1]; exact (Keeps.refl _ _).alloc _
     have hPi1 := hPi.below (kU1.below (Nat.le_trans hI.nn hI.keeps.size) fun _ h => h.elim)
     obtain ⟨i0, hi0, hz0, hz1, hz2⟩ := info_parts Tryz.inf39
     obtain ⟨rad, rcp, U2, happ, hseg, hblk, hlen, kU2⟩ := copy_app eRgn plainRgn 38 i0 _ 32 Tryz.underlying38 hi0 hz0 hz1 hz2 rfl P.ra P.rs P.rc hPi1.rseg (by have := hPi.rlen; omega) (by have := HS.out.rs P (List.mem_of_getElem? hP); omega)
     have hPi2 := hPi1.below (kU2.below (Nat.le_trans hI.nn (Nat.le_trans hI.keeps.size kU1.size)) fun _ h => h.elim)
     obtain ⟨i1, hi1, hy0, hy1, hy2⟩ := info_parts Tryz.inf51
     obtain ⟨pad, pcp, U3, happ2, hseg2, hblk2, hlen2, kU3⟩ := copy_app ePrt plainPrt 39 i1 _ 16 Tryz.underlying39 hi1 hy0 hy1 hy2 rfl P.pa P.ps P.pc hPi2.pseg (by have := hPi.plen; omega) (by have := HS.out.qs P (List.mem_of_getElem? hP); omega)
     rw [hRL] at happ
     rw [hQL] at happ2
     have HAP : Hid (∀ ty, (Builtin.append_ #[38, 38] ty #[.slice none 0 0, .slice P.ra RL P.rc]).run Tryz.prog U1 = .ok (.slice rad RL rcp) U2) := happ
     have HAP2 : Hid (∀ ty, (Builtin.append_ #[39, 39] ty #[.slice none 0 0, .slice P.pa QL P.pc]).run Tryz.prog U2 = .ok (.slice pad QL pcp) U3) := happ2
     have hB2 := hB1.kept kU2 fun h => h
     have hB3 := hB2.kept kU3 fun h => h
     have q6 := hB1.cell (i := 6) rfl
     have q7 := hB2.cell (i := 7) rfl
     have z6 := hB3.cell (i := 6) rfl
     have z6f := hB3.frozen 6
     obtain ⟨U4, hU4⟩ : ∃ U4, U4 = U3.setCell ⟨Q, 6, none⟩ (.slice rad RL rcp) := ⟨_, rfl⟩
     have hB4 : Blk U4 Q [.string P.name, .int .i64 P.entry, .int .i64 P.action, .int .i64 P.restarts, .int .i64 P.inputs, .int .i64 P.outputs, .slice rad RL rcp, .slice P.pa QL P.pc] 41 := by rw [hU4]; exact hB3.setCell 6 _
     have z7 := hB4.cell (i := 7) rfl
     have z7f := hB4.frozen 7
     obtain ⟨U5, hU5⟩ : ∃ U5, U5 = U4.setCell ⟨Q, 7, none⟩ (.slice pad QL pcp) := ⟨_, rfl⟩
     have hB5 : Blk U5 Q [.string P.name, .int .i64 P.entry, .int .i64 P.action, .int .i64 P.restarts, .int .i64 P.inputs, .int .i64 P.outputs, .slice rad RL rcp, .slice pad QL pcp] 41 := by rw [hU5]; exact hB4.setCell 7 _
     have k45 : Keeps (fun k => k = Q) U3 U5 := by
      have a1 := (Keeps.refl (fun k => k = Q) U3).setCell ⟨Q, 6, none⟩ (.slice rad RL rcp) fun _ => rfl
      rw [← hU4] at a1
      have a2 := a1.setCell ⟨Q, 7, none⟩ (.slice pad QL pcp) fun _ => rfl
      rw [← hU5] at a2
      exact a2
     have kall : Keeps (fun k => k = Q) wz U5 := (((kU1.trans kU2 fun _ _ h => h).trans kU3 fun _ _ h => h).mono fun _ _ h => h.elim).trans k45 fun _ _ h => h
     have hI5 : C2 w x C R O M M2 N ys zs U5 := hI.up kall fun b e => by omega
     have hlo := hI.lo
     have hz : ZIn M2 U5 ⟨P.name, P.entry, P.action, P.restarts, P.inputs, P.outputs, rad, rcp, P.rs, pad, pcp, P.ps⟩ := by
      have s1 := kU1.size
      have s2 := kU2.size
      have s3 := kU3.size
      have s5 := k45.size
      have hq1 : Q < U1.heap.size := hB1.lt
      refine ⟨⟨(hseg.kept kU3 fun _ _ _ h => h).kept k45 fun hn b hb e => by have := (hblk hn b hb).1; omega, hlen, fun hn b hb => ?_⟩, ⟨hseg2.kept k45 fun hn b hb e => by have := (hblk2 hn b hb).1; omega, hlen2, fun hn b hb => ?_⟩⟩
      ·
       have := hblk hn b hb; omega
      ·
       have := hblk2 hn b hb; omega
     have HPUT : Hid (C2 w x C R O M M2 N ys (zs ++ [⟨P.name, P.entry, P.action, P.restarts, P.inputs, P.outputs, rad, rcp, P.rs, pad, pcp, P.ps⟩]) ((((((((U5.setCell ⟨M2, K * 8, none⟩ (.string P.name)).setCell ⟨M2, K * 8 + 1, none⟩ (.int .i64 P.entry)).setCell ⟨M2, K * 8 + 2, none⟩ (.int .i64 P.action)).setCell ⟨M2, K * 8 + 3, none⟩ (.int .i64 P.restarts)).setCell ⟨M2, K * 8 + 4, none⟩ (.int .i64 P.inputs)).setCell ⟨M2, K * 8 + 5, none⟩ (.int .i64 P.outputs)).setCell ⟨M2, K * 8 + 6, none⟩ (.slice rad RL rcp)).setCell ⟨M2, K * 8 + 7, none⟩ (.slice pad QL pcp))) := by
      have := hI5.put (z := ⟨P.name, P.entry, P.action, P.restarts, P.inputs, P.outputs, rad, rcp, P.rs, pad, pcp, P.ps⟩) (P := P) (by rw [hK]; exact hP) ⟨rfl, rfl, rfl, rfl, rfl, rfl, rfl, rfl⟩ hz (K * 8) (by rw [hK])
      dsimp only at this
      rw [hRL, hQL] at this
      exact this
     have o5 : U5.cell? ⟨O, 5, none⟩ = some (.slice (some ⟨M2, 0, none⟩) PL PL) := by have := hI5.out.cell (i := 5) rfl; rw [HPL.out] at this; exact this
     have hM : ∀ i v, zP[i]? = some v → i < 8 → U5.cell? ⟨M2, K * 8 + i, none⟩ = some v := fun i v hv hi8 => hI5.row2.cell (by
      have hpl : (zs.flatMap Par.vs).length = K * 8 := by have := flat_len ePar zs; rw [hK] at this; exact this
      rw [List.getElem?_append_right (by rw [hpl]; omega), hpl, Nat.add_sub_cancel_left, zP_get _ _ (by rw [hK]; have := HPL.out; omega), Nat.mod_eq_of_lt hi8]
      exact hv)
     have r0 := hM 0 _ rfl (by omega)
     rw [Nat.add_zero] at r0
     have r1 := hM 1 _ rfl (by omega)
     have r2 := hM 2 _ rfl (by omega)
     have r3 := hM 3 _ rfl (by omega)
     have r4 := hM 4 _ rfl (by omega)
     have r5 := hM 5 _ rfl (by omega)
     have r6 := hM 6 _ rfl (by omega)
     have r7 := hM 7 _ rfl (by omega)
     have f0 := hI5.row2.frozen (K * 8)
     have f1 := hI5.row2.frozen (K * 8 + 1)
     have f2 := hI5.row2.frozen (K * 8 + 2)
     have f3 := hI5.row2.frozen (K * 8 + 3)
     have f4 := hI5.row2.frozen (K * 8 + 4)
     have f5 := hI5.row2.frozen (K * 8 + 5)
     have f6 := hI5.row2.frozen (K * 8 + 6)
     have f7 := hI5.row2.frozen (K * 8 + 7)
     have y0 := hB5.cell (i := 0) rfl
     have y1 := hB5.cell (i := 1) rfl
     have y2 := hB5.cell (i := 2) rfl
     have y3 := hB5.cell (i := 3) rfl
     have y4 := hB5.cell (i := 4) rfl
     have y5 := hB5.cell (i := 5) rfl
     have y6 := hB5.cell (i := 6) rfl
     have y7 := hB5.cell (i := 7) rfl
     clear hM hI hI5 hz hB1 hB2 hB3 hB4 hB5 k45 kall kU1 kU2 kU3 hseg hseg2 hblk hblk2 hlen hlen2 happ happ2 hPi hPi1 hPi2 hc e0 hP hRL hQL hi0 hz0 hz1 hz2 hi1 hy0 hy1 hy2 hlo
     go_upto_region 14 with fail
     rw [← hU1, ← hQ]
     clear hU1 hQ p0 p1 p2 p3 p4 p5 p6 p7 c5
     go_wp2_with (at_builtin; go_must (refine wpList_append_run rfl (.tmp 53) (.tmp 55) 38 38 rfl (Value.slice none 0 0) (.slice P.ra RL P.rc) (.slice rad RL rcp) U2 rfl rfl HAP.out ?_; refine Hid.out ?_))
     refine Hid.mkq ?_
     clear q6
     go_wp2_with (at_builtin; go_must (refine wpList_append_run rfl (.tmp 57) (.tmp 59) 39 39 rfl (Value.slice none 0 0) (.slice P.pa QL P.pc) (.slice pad QL pcp) U3 rfl rfl HAP2.out ?_; refine Hid.out ?_))
     refine Hid.mkq ?_
     clear q7
     go_upto_region 19 with fail
     rw [← hU4]
     clear hU4 z6 z6f
     go_upto_region 20 with fail
     rw [← hU5]
     clear hU5 z7 z7f
     go_wp2
     go_roundw
     case rel => exact ⟨zs ++ [⟨P.name, P.entry, P.action, P.restarts, P.inputs, P.outputs, rad, rcp, P.rs, pad, pcp, P.ps⟩], by rw [List.length_append, HK.out]; rfl, HPUT.out⟩
     case measure => simp [intOf]; omega
    ·
     have hKL : K = PL := by omega
     obtain ⟨HL3, hHL⟩ : ∃ HL3, x.hs.length = HL3 := ⟨_, rfl⟩
     have c5 : wz.cell? ⟨C, 5, none⟩ = some (.slice x.pa PL x.pc) := by have := hI.cfg.cell (i := 5) rfl; rw [HPL.out] at this; exact this
     have c6 : wz.cell? ⟨C, 6, none⟩ = some (.slice x.ha HL3 x.hc) := by have := hI.cfg.cell (i := 6) rfl; rw [hHL] at this; exact this
     obtain ⟨i0, hi0, hz0, hz1, hz2⟩ := info_parts Tryz.inf49
     obtain ⟨had, hcp, U1, happ, hseg, hblk, hlen, kU1⟩ := copy_app eChn plainChn 24 i0 _ 24 Tryz.underlying24 hi0 hz0 hz1 hz2 rfl x.ha x.hs x.hc hI.cin.hseg (by have := hI.cin.hlen; omega) (by have := HS.out.hs; omega)
     rw [hHL] at happ
     have HAP : Hid (∀ ty, (Builtin.append_ #[24, 24] ty #[.slice none 0 0, .slice x.ha HL3 x.hc]).run Tryz.prog wz = .ok (.slice had HL3 hcp) U1) := happ
     have hI1 : C2 w x C R O M M2 N ys zs U1 := hI.up kU1 fun _ h => h.elim
     have o6 := hI1.out.cell (i := 6) rfl
     have o6f := hI1.out.frozen 6
     rw [hHL] at o6
     obtain ⟨U2, hU2⟩ : ∃ U2, U2 = U1.setCell ⟨O, 6, none⟩ (.slice had HL3 hcp) := ⟨_, rfl⟩
     have kU2 : Keeps (fun k => k = O) U1 U2 := by rw [hU2]; exact (Keeps.refl _ _).setCell ⟨O, 6, none⟩ _ fun _ => rfl
     have hBO : Blk U2 O [.int .i64 x.frames, .int .i64 x.major, .int .i64 x.kernel, .int .i64 x.room, .slice (some ⟨M, 0, none⟩) L L, .slice (some ⟨M2, 0, none⟩) PL PL, .slice had HL3 hcp] 26 := by
      have := hI1.out.setCell 6 (.slice had HL3 hcp)
      rw [← hU2, HL.out, HPL.out] at this
      exact this
     have hlo := hI1.lo
     have hBR := hI1.res.kept kU2 (by omega)
     have y0 := hBO.cell (i := 0) rfl
     have y1 := hBO.cell (i := 1) rfl
     have y2 := hBO.cell (i := 2) rfl
     have y3 := hBO.cell (i := 3) rfl
     have y4 := hBO.cell (i := 4) rfl
     have y5 := hBO.cell (i := 5) rfl
     have y6 := hBO.cell (i := 6) rfl
     have r0 := hBR.cell (i := 0) rfl
     have r1 := hBR.cell (i := 1) rfl
     have r2 := hBR.cell (i := 2) rfl
     have r3 := hBR.cell (i := 3) rfl
     have r4 := hBR.cell (i := 4) rfl
     have r5 := hBR.cell (i := 5) rfl
     have r6 := hBR.cell (i := 6) rfl
     have f0 := hBR.frozen 0
     have f1 := hBR.frozen 1
     have f2 := hBR.frozen 2
     have f3 := hBR.frozen 3
     have f4 := hBR.frozen 4
     have f5 := hBR.frozen 5
     have f6 := hBR.frozen 6
     obtain ⟨U3, hU3⟩ : ∃ U3, U3 = (((((((U2.setCell ⟨R, 0, none⟩ (.int .i64 x.frames)).setCell ⟨R, 1, none⟩ (.int .i64 x.major)).setCell ⟨R, 2, none⟩ (.int .i64 x.kernel)).setCell ⟨R, 3, none⟩ (.int .i64 x.room)).setCell ⟨R, 4, none⟩ (.slice (some ⟨M, 0, none⟩) L L)).setCell ⟨R, 5, none⟩ (.slice (some ⟨M2, 0, none⟩) PL PL)).setCell ⟨R, 6, none⟩ (.slice had HL3 hcp)) := ⟨_, rfl⟩
     have hB3 : Blk U3 R [.int .i64 x.frames, .int .i64 x.major, .int .i64 x.kernel, .int .i64 x.room, .slice (some ⟨M, 0, none⟩) L L, .slice (some ⟨M2, 0, none⟩) PL PL, .slice had HL3 hcp] 26 := by
      have b1 := hBR.setCell 0 (.int .i64 x.frames)
      have b2 := b1.setCell 1 (.int .i64 x.major)
      have b3 := b2.setCell 2 (.int .i64 x.kernel)
      have b4 := b3.setCell 3 (.int .i64 x.room)
      have b5 := b4.setCell 4 (.slice (some ⟨M, 0, none⟩) L L)
      have b6 := b5.setCell 5 (.slice (some ⟨M2, 0, none⟩) PL PL)
      have b7 := b6.setCell 6 (.slice had HL3 hcp)
      rw [← hU3] at b7
      exact b7
     have kU3 : Keeps (fun k => k = R) U2 U3 := by
      have a1 := (Keeps.refl (fun k => k = R) U2).setCell ⟨R, 0, none⟩ (.int .i64 x.frames) fun _ => rfl
      have a2 := a1.setCell ⟨R, 1, none⟩ (.int .i64 x.major) fun _ => rfl
      have a3 := a2.setCell ⟨R, 2, none⟩ (.int .i64 x.kernel) fun _ => rfl
      have a4 := a3.setCell ⟨R, 3, none⟩ (.int .i64 x.room) fun _ => rfl
      have a5 := a4.setCell ⟨R, 4, none⟩ (.slice (some ⟨M, 0, none⟩) L L) fun _ => rfl
      have a6 := a5.setCell ⟨R, 5, none⟩ (.slice (some ⟨M2, 0, none⟩) PL PL) fun _ => rfl
      have a7 := a6.setCell ⟨R, 6, none⟩ (.slice had HL3 hcp) fun _ => rfl
      rw [← hU3] at a7
      exact a7
     have HB3 : Hid (Blk U3 R [.int .i64 x.frames, .int .i64 x.major, .int .i64 x.kernel, .int .i64 x.room, .slice (some ⟨M, 0, none⟩) L L, .slice (some ⟨M2, 0, none⟩) PL PL, .slice had HL3 hcp] 26) := hB3
     have HFIN : Hid (CopP x w (.returned (.agg #[.int .i64 x.frames, .int .i64 x.major, .int .i64 x.kernel, .int .i64 x.room, .slice (some ⟨M, 0, none⟩) L L, .slice (some ⟨M2, 0, none⟩) PL PL, .slice had HL3 hcp])) U3) := by
      have hyl : ys.length = L := by have := congrArg List.length hI1.eqv; simp at this; rw [this]; exact HL.out
      have hzl : zs.length = PL := by rw [hK, hKL]
      have ks : Keeps (fun k => k = O ∨ k = R) U1 U3 := (kU2.mono fun _ _ h => .inl h).trans kU3 fun _ _ h => .inr h
      have s3 := ks.size
      have hwf : ∀ y ∈ ys, ∀ u ∈ y.ws, u.Fine := by
       intro y hy u hu
       have : y.ws ∈ x.cs.map (·.ws) := by rw [← hI1.eqv]; exact List.mem_map.2 ⟨y, hy, rfl⟩
       obtain ⟨X, hX, e⟩ := List.mem_map.1 this
       exact (hI1.cin.cin X hX).fine u (by rw [e]; exact hu)
      have hzq : ∀ z ∈ zs, ∃ P ∈ x.ps, z.Eqv P := by
       intro z hz
       obtain ⟨j, hj⟩ := List.getElem?_of_mem hz
       have hjl := (List.getElem?_eq_some_iff.1 hj).1
       obtain ⟨P, hP⟩ : ∃ P, x.ps[j]? = some P := ⟨_, List.getElem?_eq_getElem (by have := HPL.out; omega)⟩
       exact ⟨P, List.mem_of_getElem? hP, hI1.eqv2 j z P hj hP⟩
      have row := (hI1.row.kept ks (by omega))
      have row2 := (hI1.row2.kept ks (by omega))
      rw [show x.ps.length - zs.length = 0 by rw [hzl]; have := HPL.out; omega] at row2
      simp only [List.replicate_zero, List.flatten_nil, List.append_nil] at row2
      have rlt := row.lt
      have r2lt := row2.lt
      refine ⟨⟨x.frames, x.major, x.kernel, x.room, some ⟨M, 0, none⟩, L, ys, some ⟨M2, 0, none⟩, PL, zs, had, hcp, x.hs⟩, ?_, ⟨rfl, rfl, rfl, rfl, hI1.eqv, by rw [hzl]; exact HPL.out.symm, hI1.eqv2, rfl⟩, ?_, ?_, ?_⟩
      ·
       simp only [Cfg.v, hyl, hzl, hHL]
      ·
       refine ⟨?_, fun _ y hy => by cases hy; exact rlt, ⟨Nat.le_of_eq hyl, ?_⟩, fun y hy => ?_, ?_, fun _ y hy => by cases hy; exact r2lt, ⟨Nat.le_of_eq hzl, ?_⟩, fun z hz => ?_, hseg.kept ks fun hn b hb e => by have := hblk hn b hb; have := hI.lo; omega, fun hn b hb => by have := hblk hn b hb; omega, hlen, hI1.cin.hfine, hI1.cin.ns⟩
       ·
        exact seg_blk' eCore (xs := ys) (t := 42) (by rw [show ys.flatMap eCore.vs = ys.map Core.v from flat_core ys]; exact row)
       ·
        show L ≤ maxLen; have := hI1.cin.clen; have := HL.out; omega
       ·
        have h1 := hI1.yin y hy
        exact ⟨h1.1.kept ks fun hn b hb e => by have := h1.2.2 hn b hb; omega, fun hn b hb => by have := h1.2.2 hn b hb; omega, h1.2.1, hwf y hy⟩
       ·
        exact seg_blk' ePar (xs := zs) row2
       ·
        show PL ≤ maxLen; have := hI1.cin.plen; have := HPL.out; omega
       ·
        have h1 := (hI1.zin z hz).kept ks (fun b e => .inl (by omega))
        obtain ⟨P, hP, e1, e2, e3, e4, e5, e6, e7, e8⟩ := hzq z hz
        have hPi := hI1.cin.pin P hP
        refine ⟨h1.1.1, fun hn b hb => (h1.1.2.2 hn b hb).2, h1.1.2.1, by rw [e7]; exact hPi.rfine, h1.2.1, fun hn b hb => (h1.2.2.2 hn b hb).2, h1.2.2.1, by rw [e8]; exact hPi.pfine, ?_, by rw [e1]; exact hPi.name⟩
        unfold Par.ns
        rw [e2, e3, e4, e5, e6]
        exact hPi.ns
      ·
       have hw := hI1.keeps.size
       exact ⟨fun _ b hb => by cases hb; dsimp only; omega, fun _ b hb => by cases hb; dsimp only; omega, fun hn b hb => by have := hblk hn b hb; have := hI.keeps.size; omega, fun y hy hn b hb => by have := (hI1.yin y hy).2.2 hn b hb; omega, fun z hz hn b hb => by have := ((hI1.zin z hz).1.2.2 hn b hb); omega, fun z hz hn b hb => by have := ((hI1.zin z hz).2.2.2 hn b hb); omega⟩
      ·
       exact hI1.keeps.trans ks fun b hb e => by omega
     clear hI hI1 hseg hblk hlen kU1 kU2 kU3 hB3 hBO hBR hlo happ hHL hi0 hz0 hz1 hz2
     go_wp2_with (at_builtin; go_must (refine wpList_append_run rfl (.tmp 70) (.tmp 72) 24 24 rfl (Value.slice none 0 0) (.slice x.ha HL3 x.hc) (.slice had HL3 hcp) U1 rfl rfl HAP.out ?_; refine Hid.out ?_))
     refine Hid.mkq ?_
     clear c5 c6
     go_upto_region 24 with fail
     rw [← hU2]
     clear hU2 o6 o6f
     go_wp2
     rw [← hU3]
     (try simp only [Exit.inBlock, Exit.then])
     refine bodyPost_ret (results_cell_row rfl _ _ R 26 _ (0, 0) _ rfl HB3.out Tryz.underlying26 rfl (by kernel_rfl)) rfl ?_
     exact HFIN.out
end Go.Proofs.YtlnmlbkeemahcaaGreat
