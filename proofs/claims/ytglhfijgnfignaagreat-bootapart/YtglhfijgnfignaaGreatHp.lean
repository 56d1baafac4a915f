import Derived.Test.YtglhfijgnfignaaGreatHo
namespace Go.Proofs.YtglhfijgnfignaaGreat
open Go.RowKit Go.Shelf
open Mq
set_option linter.unusedVariables false
set_option maxRecDepth 6000
set_option linter.unusedSimpArgs false
theorem Tryz.info149 : (Tryz.prog.info? 149).map (fun i => (i.zero, i.size, i.bytes)) = some (some (.agg #[.int .i64 0, .int .i64 0, .int .u32 0, .int .u32 0, .int .u32 0, .nilFunc, .nilFunc]), 7, 48) := by kernel_rfl
def zWar (n : Nat) : List Value := (madeCells (Value.agg #[.int .i64 0, .int .i64 0, .int .u32 0, .int .u32 0, .int .u32 0, .nilFunc, .nilFunc]).cells (n * 7)).toList
theorem zWar_len (n : Nat) : (zWar n).length = n * 7 := by simp [zWar, madeCells]
theorem run_make_wards (w : World) (n : Nat) (hn : n ≤ 1000) :
  (Instr.makeSlice 133 (.int .i64 n) (.int .i64 n)).run Tryz.prog w = .ok (.slice (some ⟨w.heap.size, 0, none⟩) n n) (w.alloc (.cells (zWar n).toArray 149)) := by
 obtain ⟨i0, hi, hz0, hz1, hz2⟩ := info_parts Tryz.info149
 have h := run_make (P := Tryz.prog) w 133 149 i0 _ Tryz.underlying133 hi hz0 .i64 .i64 n n (by omega) (by omega) (by rw [hz2]; omega) (by omega)
 rw [Int.toNat_natCast, hz1] at h
 rw [h]
 simp [zWar]
def WarP (x : Cfg) (F G : Nat → Int) (w : World) (e : Ending) (w' : World) : Prop :=
 Keeps (fun _ => False) w w' ∧ ∃ E l, e = .returned (.slice (some ⟨E, 0, none⟩) x.ps.length x.ps.length) ∧ w.heap.size ≤ E ∧ Blk w' E l 149 ∧ WRw w' w.heap.size E x F G x.ps.length l
structure WaI (w : World) (x : Cfg) (C N A b1 : Nat) (lv : List Value) (F G : Nat → Int) (E n : Nat) (wr : World) : Prop where
 one : One w x C N wr
 lay : Blk wr A lv 37
 st : ∀ i, i < x.ps.length → wr.cell? ⟨b1, i * 5 + 1, none⟩ = some (.int .i64 (F i)) ∧ wr.cell? ⟨b1, i * 5 + 2, none⟩ = some (.int .i64 (G i))
 lo : w.heap.size ≤ E ∧ E ≠ C ∧ E ≠ A ∧ b1 < w.heap.size ∧ E < wr.heap.size
 rows : ∃ l, Blk wr E l 149 ∧ WRw wr w.heap.size E x F G n l
theorem WaI.kept {w : World} {x : Cfg} {C N A b1 : Nat} {lv : List Value} {F G : Nat → Int} {E n : Nat} {wr w' : World} (h : WaI w x C N A b1 lv F G E n wr) (hK : Keeps (fun _ => False) wr w') : WaI w x C N A b1 lv F G E n w' :=
 ⟨h.one.kept hK, h.lay.kept hK fun h => h, fun i hi => by
  have hc : ∀ o, w'.cell? ⟨b1, o, none⟩ = wr.cell? ⟨b1, o, none⟩ := fun o => World.cell?_of_block (hK.block b1 (Nat.lt_of_lt_of_le h.lo.2.2.2.1 h.one.keeps.size) fun h => h)
  rw [hc, hc]
  exact h.st i hi, ⟨h.lo.1, h.lo.2.1, h.lo.2.2.1, h.lo.2.2.2.1, Nat.lt_of_lt_of_le h.lo.2.2.2.2 hK.size⟩, h.rows.elim fun l hl => ⟨l, hl.1.kept hK fun h => h, hl.2.kept hK fun _ h => h.elim⟩⟩
theorem WaI.put {w : World} {x : Cfg} {C N A b1 : Nat} {lv : List Value} {F G : Nat → Int} {E n : Nat} {wr : World} (h : WaI w x C N A b1 lv F G E n wr) {l : List Value} (hl : Blk wr E l 149) (hr : WRw wr w.heap.size E x F G n l) {P : Par} (hP : x.ps[n]? = some P) (d : Wrd) (a : Nat) (hd : IsW wr w.heap.size E (F n) (G n) P d a) (cs : List Value) (hc : cs = d.vs) :
  WaI w x C N A b1 lv F G E (n + 1) (wr.setRow E (l.take (n * 7) ++ cs ++ l.drop (n * 7 + cs.length)).toArray) := by
 subst hc
 have hK : Keeps (fun b => b = E) wr (wr.setRow E (l.take (n * 7) ++ d.vs ++ l.drop (n * 7 + d.vs.length)).toArray) := (Keeps.refl (fun b => b = E) _).setRow _ _ fun _ => rfl
 have hlo := h.lo
 refine ⟨h.one.kept' hK (fun e => hlo.2.1 e.symm) (fun k e => by rw [e]; exact Nat.le_trans h.one.n hlo.1) (fun k e => by rw [e]; exact hlo.1), h.lay.kept hK (fun e => hlo.2.2.1 e.symm), fun i hi => ?_, ⟨hlo.1, hlo.2.1, hlo.2.2.1, hlo.2.2.2.1, Nat.lt_of_lt_of_le hlo.2.2.2.2 hK.size⟩, _, hl.setRow _, (hr.kept hK fun _ h => h).next hP d a (hd.kept hK fun _ h => h)⟩
 have hb : ¬ b1 = E := fun e => by have := hlo.1; have := hlo.2.2.2.1; omega
 have hc : ∀ o, (wr.setRow E (l.take (n * 7) ++ d.vs ++ l.drop (n * 7 + d.vs.length)).toArray).cell? ⟨b1, o, none⟩ = wr.cell? ⟨b1, o, none⟩ := fun o => World.cell?_of_block (hK.block b1 (Nat.lt_of_lt_of_le hlo.2.2.2.1 h.one.keeps.size) hb)
 rw [hc, hc]
 exact h.st i hi
theorem wone (f g : Nat) (u v : Array Value) (a b c d e : Int) : ∀ y ∈ [Value.int .i64 a, .int .i64 b, .int .u32 c, .int .u32 d, .int .u32 e, .func (.func f) #[] u, .func (.func g) #[] v], y.oneCell' = true := by
 intro y hy
 simp only [List.mem_cons, List.not_mem_nil, or_false] at hy
 rcases hy with rfl | rfl | rfl | rfl | rfl | rfl | rfl <;> rfl
set_option maxHeartbeats 4000000 in
theorem wards_any (x : Cfg) (b1 : Nat) (va vb vc : Int) (a2 : Option Addr) (n2 c2 : Nat) (F G : Nat → Int) (w : World) (N : Nat) (hi : x.In w N) (hN : N ≤ w.heap.size) (hp : x.ps.length ≤ 8) (hp1 : 1 ≤ x.ps.length)
  (hs : ∀ i, i < x.ps.length → (w.cell? ⟨b1, i * 5 + 1, none⟩ = some (.int .i64 (F i)) ∧ w.cell? ⟨b1, i * 5 + 2, none⟩ = some (.int .i64 (G i))) ∧ 0 ≤ F i ∧ 0 ≤ G i) (ho : ∀ P ∈ x.ps, (0 ≤ P.outputs ∧ P.outputs ≤ 1000000) ∧ (0 ≤ P.restarts ∧ P.restarts ≤ 1000000) ∧ 0 ≤ P.entry ∧ P.entry ≤ 1000000) :
  Calls Tryz.prog 61 #[x.v, .agg #[.int .i64 va, .slice (some ⟨b1, 0, none⟩) x.ps.length x.ps.length, .slice a2 n2 c2, .int .i64 vc]] w (WarP x F G w) := by
 have hb1 : b1 < w.heap.size := World.block_lt_of_cell? w ⟨b1, 0 * 5 + 1, none⟩ (hs 0 (by omega)).1.1
 obtain ⟨W0, hW0⟩ : ∃ W, W = (x.laid w).alloc (.cells #[.int .i64 va, .slice (some ⟨b1, 0, none⟩) x.ps.length x.ps.length, .slice a2 n2 c2, .int .i64 vc] 37) := ⟨_, rfl⟩
 obtain ⟨C, hC⟩ : ∃ C, C = w.heap.size := ⟨_, rfl⟩
 obtain ⟨L, hL⟩ : ∃ L, x.ps.length = L := ⟨_, rfl⟩
 obtain ⟨W, hW⟩ : ∃ W, W = W0.alloc (.cells (zWar L).toArray 149) := ⟨_, rfl⟩
 have hz0 : W0.heap.size = C + 2 := by rw [hW0, hC]; simp [Cfg.laid]
 have hmk := run_make_wards W0 L (by omega)
 rw [hz0, ← hW] at hmk
 have HI : Hid (WaI w x C N (C + 1) b1 [.int .i64 va, .slice (some ⟨b1, 0, none⟩) L L, .slice a2 n2 c2, .int .i64 vc] F G (C + 2) 0 W) := by
  have hK : Keeps (fun _ => False) w W := by rw [hW, hW0]; exact (((Keeps.refl _ _).alloc _).alloc _).alloc _
  refine ⟨?_, ?_, fun i hi => ?_, ⟨by omega, by omega, by omega, hb1, by rw [hW]; simp; omega⟩, zWar L, ?_, ⟨by rw [zWar_len, hL], fun i P h => absurd h (by omega)⟩⟩
  ·
   rw [hW, hW0, hC]; exact ((One.mk' hi hN).kept ((Keeps.refl _ _).alloc _)).kept ((Keeps.refl _ _).alloc _)
  ·
   rw [hW]
   have := Blk.new (x.laid w) #[.int .i64 va, .slice (some ⟨b1, 0, none⟩) x.ps.length x.ps.length, .slice a2 n2 c2, .int .i64 vc] 37
   rw [← hW0, hL] at this
   have e : (x.laid w).heap.size = C + 1 := by rw [hC]; simp [Cfg.laid]
   rw [e] at this
   exact this.alloc _
  ·
   have hc : ∀ o, W.cell? ⟨b1, o, none⟩ = w.cell? ⟨b1, o, none⟩ := fun o => World.cell?_of_block (hK.block b1 hb1 fun h => h)
   rw [hc, hc]
   exact (hs i hi).1
  ·
   rw [hW, ← hz0]; exact Blk.new W0 (zWar L).toArray 149
 have HS : Hid (x.ps.length = L ∧ L ≤ 8 ∧ (∀ i, i < x.ps.length → 0 ≤ F i ∧ 0 ≤ G i) ∧ (∀ P ∈ x.ps, (0 ≤ P.outputs ∧ P.outputs ≤ 1000000) ∧ (0 ≤ P.restarts ∧ P.restarts ≤ 1000000) ∧ 0 ≤ P.entry ∧ P.entry ≤ 1000000)) := ⟨hL, by omega, fun i hi => (hs i hi).2, ho⟩
 have hk0 : W0.cell? ⟨C, 5, none⟩ = some (.slice x.pa L x.pc) := by
  have h1 : One w x C N W0 := by rw [hW0, hC]; exact (One.mk' hi hN).kept ((Keeps.refl _ _).alloc _)
  have := h1.cells.2.2.2.2.2.1
  rw [hL] at this
  exact this
 obtain ⟨pa, hpa⟩ : ∃ pa, pa = x.pa := ⟨_, rfl⟩
 rw [← hpa] at hk0
 have hpc : L ≤ x.pc ∧ x.pc ≤ maxLen := by have := hi.plen; rw [hL] at this; exact this
 rw [hL]
 unfold Cfg.laid at hW0
 simp only [hL] at hW0
 have HC0 : Hid (w.heap.size = C) := hC.symm
 clear hi hN hp hp1 hs ho hb1 hz0
 go_enter Tryz.func61, Tryz.ntmps61
 go_upto_region 1 with fail
 rw [← hW0, ← hC]
 clear hW0 hC hW hL
 have hk1 : W.cell? ⟨C, 5, none⟩ = some (.slice pa L x.pc) := by
  have := HI.out.one.cells.2.2.2.2.2.1
  rw [HS.out.1, ← hpa] at this
  exact this
 have HP : Hid (pa = x.pa) := hpa
 have hpc1 : (L : Int) ≤ x.pc := by omega
 have hpc2 : (x.pc : Int) ≤ 9223372036854775807 := by have := hpc.2; unfold maxLen at this; omega
 clear hpa hpc
 go_wp2_with fail
 clear hk0 hk1 hmk
 go_loopw [15] (fun i wr => ∃ j : Nat, j ≤ L ∧ i = .int .i64 j ∧ WaI w x C N (C + 1) b1 [.int .i64 va, .slice (some ⟨b1, 0, none⟩) L L, .slice a2 n2 c2, .int .i64 vc] F G (C + 2) j wr) (fun i _ => L - (intOf i).toNat)
 case atStart => exact ⟨0, by omega, rfl, HI.out⟩
 case round =>
  obtain ⟨j, hj, rfl, hI⟩ := hrel
  clear HI
  by_cases hlt : j < L
  ·
   obtain ⟨P, hP⟩ : ∃ P, x.ps[j]? = some P := ⟨_, List.getElem?_eq_getElem (by have := HS.out.1; omega)⟩
   obtain ⟨g1, o1, hpa, hg1⟩ := hI.one.cin.par hP
   obtain ⟨W1, hW1⟩ : ∃ W1, W1 = wr.alloc (.cells P.vs.toArray 53) := ⟨_, rfl⟩
   have hI1 : WaI w x C N (C + 1) b1 [.int .i64 va, .slice (some ⟨b1, 0, none⟩) L L, .slice a2 n2 c2, .int .i64 vc] F G (C + 2) j W1 := by rw [hW1]; exact hI.kept ((Keeps.refl _ _).alloc _)
   obtain ⟨B, hB⟩ : ∃ B, B = wr.heap.size := ⟨_, rfl⟩
   have HB : Hid (Blk W1 B P.vs 53) := by rw [hW1, hB]; exact Blk.new _ _ _
   have HK : Hid (WaI w x C N (C + 1) b1 [.int .i64 va, .slice (some ⟨b1, 0, none⟩) L L, .slice a2 n2 c2, .int .i64 vc] F G (C + 2) j W1 ∧ x.ps[j]? = some P) := ⟨hI1, hP⟩
   have HBN : Hid (C + 2 < B) := by rw [hB]; exact hI.lo.2.2.2.2
   rw [← HP.out] at hpa
   subst hpa
   obtain ⟨nm, en, ac, re, ip, op, ra, rc, rs, pp, pq, ps⟩ := P
   have y0 := hg1 0 _ rfl
   rw [Nat.add_zero] at y0
   have y1 := hg1 1 _ rfl
   have y2 := hg1 2 _ rfl
   have y3 := hg1 3 _ rfl
   have y4 := hg1 4 _ rfl
   have y5 := hg1 5 _ rfl
   have y6 := hg1 6 _ rfl
   have y7 := hg1 7 _ rfl
   dsimp only at y0 y1 y2 y3 y4 y5 y6 y7
   simp only [Par.vs] at hW1
   clear hI hI1 hP hg1
   go_upto_region 5 with fail
   rw [← hW1, ← hB]
   clear hW1 hB y0 y1 y2 y3 y4 y5 y6 y7
   have b1' := HB.out.cell (i := 1) rfl
   have b2 := HB.out.cell (i := 2) rfl
   have b3 := HB.out.cell (i := 3) rfl
   have b5 := HB.out.cell (i := 5) rfl
   have l1 := HK.out.1.lay.cell (i := 1) rfl
   have s1 := (HK.out.1.st j (by have := HS.out.1; omega)).1
   have s2 := (HK.out.1.st j (by have := HS.out.1; omega)).2
   have hO := HS.out.2.2.2 _ (List.mem_of_getElem? HK.out.2)
   dsimp only at b1' b2 b3 b5 hO
   have hu1 : op % 4294967296 = op := by omega
   have hu2 : re % 4294967296 = re := by omega
   have hu3 : en % 4294967296 = en := by omega
   have HO : Hid (0 ≤ en ∧ en ≤ 1000000) := hO.2.2
   clear hO
   have hw1 : IntKind.u32.wrap op = op := by rw [IntKind.wrap_u32]; omega
   have hw2 : IntKind.u32.wrap re = re := by rw [IntKind.wrap_u32]; omega
   have hw3 : IntKind.u32.wrap en = en := by rw [IntKind.wrap_u32]; omega
   have hj1 : (j : Int) < L := by omega
   have HS0 : Hid (∀ w', Keeps (fun k => k = C + 2) W1 w' → w'.cell? ⟨C + 1, 1, none⟩ = some (.slice (some ⟨b1, 0, none⟩) L L) ∧ w'.cell? ⟨b1, j * 5 + 1, none⟩ = some (.int .i64 (F j)) ∧ w'.cell? ⟨b1, j * 5 + 2, none⟩ = some (.int .i64 (G j)) ∧ w'.cell? ⟨B, 1, none⟩ = some (.int .i64 en) ∧ w'.cell? ⟨B, 2, none⟩ = some (.int .i64 ac) ∧ w'.cell? ⟨B, 3, none⟩ = some (.int .i64 re) ∧ w'.cell? ⟨B, 5, none⟩ = some (.int .i64 op)) := by
    intro w' hK
    have hlo := HK.out.1.lo
    have k1 := HK.out.1.lay.kept hK (fun e => hlo.2.2.1 e.symm)
    have k2 := HB.out.kept hK (fun e => by have := HBN.out; omega)
    have hc : ∀ o, w'.cell? ⟨b1, o, none⟩ = W1.cell? ⟨b1, o, none⟩ := fun o => World.cell?_of_block (hK.block b1 (Nat.lt_of_lt_of_le hlo.2.2.2.1 HK.out.1.one.keeps.size) (fun e => by have := hlo.1; have := hlo.2.2.2.1; omega))
    exact ⟨k1.cell rfl, by rw [hc]; exact s1, by rw [hc]; exact s2, k2.cell rfl, k2.cell rfl, k2.cell rfl, k2.cell rfl⟩
   clear b1' b2 b3 b5 l1 s1 s2
   refine wp_region_held_drew (S := fun w' => w'.cell? ⟨C + 1, 1, none⟩ = some (.slice (some ⟨b1, 0, none⟩) L L) ∧ w'.cell? ⟨b1, j * 5 + 1, none⟩ = some (.int .i64 (F j)) ∧ w'.cell? ⟨b1, j * 5 + 2, none⟩ = some (.int .i64 (G j)) ∧ w'.cell? ⟨B, 1, none⟩ = some (.int .i64 en) ∧ w'.cell? ⟨B, 2, none⟩ = some (.int .i64 ac) ∧ w'.cell? ⟨B, 3, none⟩ = some (.int .i64 re) ∧ w'.cell? ⟨B, 5, none⟩ = some (.int .i64 op)) Tryz.mixh (HS0.out _ (Keeps.refl _ W1).drew) (fun hHeld => ?_)
   simp only [t1, t2, List.length_nil, Nat.reduceAdd, t4, Array.replicate_zero, t6, List.nil_append, t8]
   refine hk 0 (.slice (some ⟨C + 2, 0, none⟩) L L) hHeld ?_
   refine hk 1 (.int .i64 (j : Int)) hHeld ?_
   refine hk 2 (.pointer (some ⟨C + 1, 1, none⟩)) hHeld ?_
   refine hk 3 (.slice (some ⟨b1, 0, none⟩) L L) hHeld ?_
   refine hk 4 (.int .i64 (j : Int)) hHeld ?_
   refine hk 5 (.pointer (some ⟨b1, j * 5, none⟩)) hHeld ?_
   refine hk 6 (.pointer (some ⟨b1, j * 5 + 1, none⟩)) hHeld ?_
   refine hk 7 (.int .i64 (F j)) hHeld ?_
   refine hk 8 (.pointer (some ⟨C + 1, 1, none⟩)) hHeld ?_
   refine hk 9 (.slice (some ⟨b1, 0, none⟩) L L) hHeld ?_
   refine hk 10 (.int .i64 (j : Int)) hHeld ?_
   refine hk 11 (.pointer (some ⟨b1, j * 5, none⟩)) hHeld ?_
   refine hk 12 (.pointer (some ⟨b1, j * 5 + 2, none⟩)) hHeld ?_
   refine hk 13 (.int .i64 (G j)) hHeld ?_
   refine hk 14 (.pointer (some ⟨B, 1, none⟩)) hHeld ?_
   refine hk 15 (.int .i64 en) hHeld ?_
   refine hk 16 (.int .u32 en) hHeld ?_
   refine hk 17 (.pointer (some ⟨B, 3, none⟩)) hHeld ?_
   refine hk 18 (.int .i64 re) hHeld ?_
   refine hk 19 (.int .u32 re) hHeld ?_
   refine hk 20 (.pointer (some ⟨B, 5, none⟩)) hHeld ?_
   refine hk 21 (.int .i64 op) hHeld ?_
   refine hk 22 (.int .u32 op) hHeld ?_
   refine hk 23 (.pointer (some ⟨B, 2, none⟩)) hHeld ?_
   refine hk 24 (.int .i64 ac) hHeld ?_
   simp only [Act.put, s1, s2, s3]
   refine rd 25 fun Kq hK => ?_
   go_simp
   have hK1 : WaI w x C N (C + 1) b1 [.int .i64 va, .slice (some ⟨b1, 0, none⟩) L L, .slice a2 n2 c2, .int .i64 vc] F G (C + 2) j W1.drew := HK.out.1.kept (Keeps.refl _ W1).drew
   have HK1 : Hid _ := hK1
   clear hK1 hHeld
   by_cases ha : ac = 0
   ·
    subst ha
    refine (careOf_0 (W1.drew)).mono ?_
    rintro e w2 ⟨rfl, hK2⟩
    have hI2 := HK1.out.kept hK2
    obtain ⟨l, hl, hE⟩ := hI2.rows
    have hll : j * 7 + 7 ≤ l.length := by rw [hE.len]; have := HS.out.1; omega
    have hFG := HS.out.2.2.1 j (by have := HS.out.1; omega)
    have hen : ((UInt32.ofNat en.toNat).toNat : Int) = en := by have := HO.out; rw [UInt32.toNat_ofNat']; omega
    obtain ⟨W9, hW9⟩ : ∃ W9, W9 = w2.setRow (C + 2) (l.take (j * 7) ++ [Value.int .i64 (F j), .int .i64 (G j), .int .u32 en, .int .u32 re, .int .u32 op, .func (.func 139) #[] #[], .func (.func 140) #[] #[]] ++ l.drop (j * 7 + [Value.int .i64 (F j), .int .i64 (G j), .int .u32 en, .int .u32 re, .int .u32 op, .func (.func 139) #[] #[], .func (.func 140) #[] #[]].length)).toArray := ⟨_, rfl⟩
    have HJ : Hid (WaI w x C N (C + 1) b1 [.int .i64 va, .slice (some ⟨b1, 0, none⟩) L L, .slice a2 n2 c2, .int .i64 vc] F G (C + 2) (j + 1) W9) := by
     rw [hW9]
     exact hI2.put hl hE HK.out.2 ⟨(F j).toNat, (G j).toNat, UInt32.ofNat en.toNat, re, op, .func (.func 139) #[] #[], .func (.func 140) #[] #[]⟩ 0 ⟨Int.toNat_of_nonneg hFG.1, Int.toNat_of_nonneg hFG.2, hen, rfl, rfl, .inl ⟨rfl, rfl, rfl⟩⟩ _ (by simp only [Wrd.vs]; rw [Int.toNat_of_nonneg hFG.1, Int.toNat_of_nonneg hFG.2, hen])
    have HL : Hid (Blk w2 (C + 2) l 149 ∧ j * 7 + 7 ≤ l.length ∧ Keeps (fun _ => False) W1 w2 ∧ Keeps (fun k => k = C + 2) W1 W9) := ⟨hl, hll, (Keeps.refl _ W1).drew.trans hK2 fun _ _ h => h, by rw [hW9]; exact (((Keeps.refl _ W1).drew.trans hK2 fun _ _ h => h.elim).mono fun _ _ h => h).setRow _ _ fun _ => rfl⟩
    clear hK2 hI2 hl hE hll hFG hen
    refine hK _ _ (HS0.out _ (HL.out.2.2.1.mono fun _ _ h => h.elim)) (fun hHeld => ?_)
    simp only [Act.put, s1, s2, s3]
    refine hk 26 (.agg #[.int .i64 (F j), .int .i64 (G j), .int .u32 en, .int .u32 re, .int .u32 op, .func (.func 139) #[] #[], .func (.func 140) #[] #[]]) hHeld ?_
    refine hk 27 (.pointer (some ⟨C + 2, j * 7, none⟩)) hHeld ?_
    simp only [Act.put, s1, s2, s3]
    refine rd 28 fun Kq hK => ?_
    refine wp_store_mid 149 (.tmp 47) (.tmp 46) rfl (C + 2) (j * 7) [Value.int .i64 (F j), .int .i64 (G j), .int .u32 en, .int .u32 re, .int .u32 op, .func (.func 139) #[] #[], .func (.func 140) #[] #[]] (by rfl) (by rfl) 149 l HL.out.1 Tryz.size149 HL.out.2.1 (wone _ _ _ _ _ _ _ _ _) ?_
    rw [← hW9]
    clear hW9
    refine hK _ _ (HS0.out _ HL.out.2.2.2) (fun hHeld => ?_)
    simp only [Act.put, s1, s2, s3]
    refine wpAnyH_done (by kernel_rfl) ?_ _
    clear hHeld hK
    go_wp2
    exact ⟨⟨j + 1, by omega, by go_num, HJ.out⟩, by simp [intOf]; omega⟩
   ·
    skip
    refine (careOf_1 ac ha (W1.drew)).mono ?_
    rintro e w2 ⟨rfl, hK2, hbl⟩
    have hI2 := HK1.out.kept hK2
    obtain ⟨l, hl, hE⟩ := hI2.rows
    have hll : j * 7 + 7 ≤ l.length := by rw [hE.len]; have := HS.out.1; omega
    have hFG := HS.out.2.2.1 j (by have := HS.out.1; omega)
    have hen : ((UInt32.ofNat en.toNat).toNat : Int) = en := by have := HO.out; rw [UInt32.toNat_ofNat']; omega
    obtain ⟨W9, hW9⟩ : ∃ W9, W9 = w2.setRow (C + 2) (l.take (j * 7) ++ [Value.int .i64 (F j), .int .i64 (G j), .int .u32 en, .int .u32 re, .int .u32 op, .func (.func 141) #[] #[], .func (.func 142) #[] #[.pointer (some ⟨(W1.drew).heap.size, 0, none⟩)]] ++ l.drop (j * 7 + [Value.int .i64 (F j), .int .i64 (G j), .int .u32 en, .int .u32 re, .int .u32 op, .func (.func 141) #[] #[], .func (.func 142) #[] #[.pointer (some ⟨(W1.drew).heap.size, 0, none⟩)]].length)).toArray := ⟨_, rfl⟩
    have HJ : Hid (WaI w x C N (C + 1) b1 [.int .i64 va, .slice (some ⟨b1, 0, none⟩) L L, .slice a2 n2 c2, .int .i64 vc] F G (C + 2) (j + 1) W9) := by
     rw [hW9]
     exact hI2.put hl hE HK.out.2 ⟨(F j).toNat, (G j).toNat, UInt32.ofNat en.toNat, re, op, .func (.func 141) #[] #[], .func (.func 142) #[] #[.pointer (some ⟨(W1.drew).heap.size, 0, none⟩)]⟩ (W1.drew).heap.size ⟨Int.toNat_of_nonneg hFG.1, Int.toNat_of_nonneg hFG.2, hen, rfl, rfl, .inr ⟨ha, rfl, rfl, hbl, Nat.le_trans HK1.out.one.keeps.size (Nat.le_refl _), fun e => by have := HK1.out.lo.2.2.2.2; omega⟩⟩ _ (by simp only [Wrd.vs]; rw [Int.toNat_of_nonneg hFG.1, Int.toNat_of_nonneg hFG.2, hen])
    have HL : Hid (Blk w2 (C + 2) l 149 ∧ j * 7 + 7 ≤ l.length ∧ Keeps (fun _ => False) W1 w2 ∧ Keeps (fun k => k = C + 2) W1 W9) := ⟨hl, hll, (Keeps.refl _ W1).drew.trans hK2 fun _ _ h => h, by rw [hW9]; exact (((Keeps.refl _ W1).drew.trans hK2 fun _ _ h => h.elim).mono fun _ _ h => h).setRow _ _ fun _ => rfl⟩
    clear hK2 hI2 hl hE hll hFG hen
    refine hK _ _ (HS0.out _ (HL.out.2.2.1.mono fun _ _ h => h.elim)) (fun hHeld => ?_)
    simp only [Act.put, s1, s2, s3]
    refine hk 26 (.agg #[.int .i64 (F j), .int .i64 (G j), .int .u32 en, .int .u32 re, .int .u32 op, .func (.func 141) #[] #[], .func (.func 142) #[] #[.pointer (some ⟨(W1.drew).heap.size, 0, none⟩)]]) hHeld ?_
    refine hk 27 (.pointer (some ⟨C + 2, j * 7, none⟩)) hHeld ?_
    simp only [Act.put, s1, s2, s3]
    refine rd 28 fun Kq hK => ?_
    refine wp_store_mid 149 (.tmp 47) (.tmp 46) rfl (C + 2) (j * 7) [Value.int .i64 (F j), .int .i64 (G j), .int .u32 en, .int .u32 re, .int .u32 op, .func (.func 141) #[] #[], .func (.func 142) #[] #[.pointer (some ⟨(W1.drew).heap.size, 0, none⟩)]] (by rfl) (by rfl) 149 l HL.out.1 Tryz.size149 HL.out.2.1 (wone _ _ _ _ _ _ _ _ _) ?_
    rw [← hW9]
    clear hW9
    refine hK _ _ (HS0.out _ HL.out.2.2.2) (fun hHeld => ?_)
    simp only [Act.put, s1, s2, s3]
    refine wpAnyH_done (by kernel_rfl) ?_ _
    clear hHeld hK
    go_wp2
    exact ⟨⟨j + 1, by omega, by go_num, HJ.out⟩, by simp [intOf]; omega⟩
  ·
   obtain rfl : j = L := by omega
   have HK : Hid (WaI w x C N (C + 1) b1 [.int .i64 va, .slice (some ⟨b1, 0, none⟩) j j, .slice a2 n2 c2, .int .i64 vc] F G (C + 2) j wr) := hI
   clear hI
   go_wp2
   go_ret
   obtain ⟨l, h1, h2⟩ := HK.out.rows
   exact ⟨HK.out.one.keeps, C + 2, l, by rw [HS.out.1]; rfl, HK.out.lo.1, h1, by rw [HS.out.1]; exact h2⟩
end Go.Proofs.YtglhfijgnfignaaGreat
