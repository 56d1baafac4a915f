import Derived.Test.YtfbapgcopidbpaaGreatVd
namespace Go.Proofs.YtfbapgcopidbpaaGreat
open Go.RowKit Go.Shelf
open Mq (SegW wvs wvs_length wvs_get run_make_words run_copy_wb segW_of_blk)
set_option linter.unusedVariables false
set_option maxRecDepth 6000
set_option linter.unusedSimpArgs false

theorem region_tail {id : Nat} {Q : Exit → Act → World → Prop} {a : Act} {w : World} {l : List Oper} (n : Nat) (hB : Region.lexTailB .any l.toArray n = true)
    (h : wpStill Tryz.prog l.toArray (w.drewN 1) (fun a' => wpList Tryz.prog l.toArray Q (l.drop n) a' (w.drewN 1)) (l.take n) a) : (Code.region id l.toArray true).wp Tryz.prog Q a w :=
  wp_region_still_tail n Tryz.mixed hB h
theorem Tryz.info76 : (Tryz.prog.info? 76).map (fun i => (i.zero, i.size, i.bytes)) = some (some (.agg #[.int .i64 0, .int .u32 0]), 2, 16) := by kernel_rfl
/-- As many ears as one likes, all zero. -/
def zEar (n : Nat) : List Value := (madeCells (Value.agg #[.int .i64 0, .int .u32 0]).cells (n * 2)).toList
theorem zEar_len (n : Nat) : (zEar n).length = n * 2 := by simp [zEar, madeCells]
theorem run_make_ears (w : World) (n : Nat) (hn : n ≤ 1000) :
    (Instr.makeSlice 67 (.int .i64 n) (.int .i64 n)).run Tryz.prog w = .ok (.slice (some ⟨w.heap.size, 0, none⟩) n n) (w.alloc (.cells (zEar n).toArray 76)) := by
  obtain ⟨i0, hi, hz0, hz1, hz2⟩ := info_parts Tryz.info76
  have h := run_make (P := Tryz.prog) w 67 76 i0 _ Tryz.underlying67 hi hz0 .i64 .i64 n n (by omega) (by omega) (by rw [hz2]; omega) (by omega)
  rw [Int.toNat_natCast, hz1] at h
  rw [h]
  simp [zEar]
/-- The first n ears are right. -/
structure Ears (x : Cfg) (F : Nat → Int) (n : Nat) (l : List Value) : Prop where
  len : l.length = x.ps.length * 2
  each : ∀ i P, i < n → x.ps[i]? = some P → l[i * 2]? = some (.int .i64 (F i + 4)) ∧ l[i * 2 + 1]? = some (.int .u32 P.outputs)
theorem Ears.next {x : Cfg} {F : Nat → Int} {n : Nat} {l : List Value} (h : Ears x F n l) {P : Par} (hP : x.ps[n]? = some P) : Ears x F (n + 1) ((l.set (n * 2) (.int .i64 (F n + 4))).set (n * 2 + 1) (.int .u32 P.outputs)) := by
  have hn := (List.getElem?_eq_some_iff.1 hP).1
  refine ⟨by simp [h.len], fun i Q hi hQ => ?_⟩
  by_cases e : i = n
  · subst e
    rw [hP] at hQ
    cases hQ
    constructor
    · rw [List.getElem?_set_ne (by omega), List.getElem?_set_self (by rw [h.len]; omega)]
    · rw [List.getElem?_set_self (by rw [List.length_set, h.len]; omega)]
  · rw [List.getElem?_set_ne (by omega), List.getElem?_set_ne (by omega), List.getElem?_set_ne (by omega), List.getElem?_set_ne (by omega)]
    exact h.each i Q (by omega) hQ
/-- What earsOf answers. -/
def EarP (x : Cfg) (F : Nat → Int) (w : World) (e : Ending) (w' : World) : Prop :=
  Keeps (fun _ => False) w w' ∧ ∃ E l, e = .returned (.slice (some ⟨E, 0, none⟩) x.ps.length x.ps.length) ∧ w.heap.size ≤ E ∧ Blk w' E l 76 ∧ Ears x F x.ps.length l
/-- While ears are made. -/
structure ErI (w : World) (x : Cfg) (C N A b1 : Nat) (lv : List Value) (F : Nat → Int) (E n : Nat) (wr : World) : Prop where
  one : One w x C N wr
  lay : Blk wr A lv 35
  st : ∀ i, i < x.ps.length → wr.cell? ⟨b1, i * 5 + 2, none⟩ = some (.int .i64 (F i))
  lo : w.heap.size ≤ E ∧ E ≠ C ∧ E ≠ A ∧ b1 < w.heap.size
  ears : ∃ l, Blk wr E l 76 ∧ Ears x F n l
theorem ErI.kept {w : World} {x : Cfg} {C N A b1 : Nat} {lv : List Value} {F : Nat → Int} {E n : Nat} {wr w' : World} (h : ErI w x C N A b1 lv F E n wr) (hK : Keeps (fun _ => False) wr w') : ErI w x C N A b1 lv F E n w' :=
  ⟨h.one.kept hK, h.lay.kept hK fun h => h, fun i hi => by
    rw [World.cell?_of_block (w := wr) (hK.block b1 (Nat.lt_of_lt_of_le h.lo.2.2.2 h.one.keeps.size) fun h => h)]; exact h.st i hi, h.lo, h.ears.elim fun l hl => ⟨l, hl.1.kept hK fun h => h, hl.2⟩⟩

set_option maxHeartbeats 4000000 in
theorem ears_any (x : Cfg) (b1 : Nat) (va vb vc : Int) (a2 : Option Addr) (n2 c2 : Nat) (F : Nat → Int) (w : World) (N : Nat) (hi : x.In w N) (hN : N ≤ w.heap.size) (hp : x.ps.length ≤ 8) (hp1 : 1 ≤ x.ps.length)
    (hs : ∀ i, i < x.ps.length → w.cell? ⟨b1, i * 5 + 2, none⟩ = some (.int .i64 (F i)) ∧ 0 ≤ F i ∧ F i ≤ 1000000) (ho : ∀ P ∈ x.ps, 0 ≤ P.outputs ∧ P.outputs ≤ 1000000) :
    Calls Tryz.prog 27 #[x.v, .agg #[.int .i64 va, .slice (some ⟨b1, 0, none⟩) x.ps.length x.ps.length, .slice a2 n2 c2, .int .i64 vc]] w (EarP x F w) := by
  have hb1 : b1 < w.heap.size := World.block_lt_of_cell? w ⟨b1, 0 * 5 + 2, none⟩ (hs 0 (by omega)).1
  obtain ⟨W0, hW0⟩ : ∃ W, W = (x.laid w).alloc (.cells #[.int .i64 va, .slice (some ⟨b1, 0, none⟩) x.ps.length x.ps.length, .slice a2 n2 c2, .int .i64 vc] 35) := ⟨_, rfl⟩
  obtain ⟨C, hC⟩ : ∃ C, C = w.heap.size := ⟨_, rfl⟩
  obtain ⟨L, hL⟩ : ∃ L, x.ps.length = L := ⟨_, rfl⟩
  obtain ⟨W, hW⟩ : ∃ W, W = W0.alloc (.cells (zEar L).toArray 76) := ⟨_, rfl⟩
  have hz0 : W0.heap.size = C + 2 := by rw [hW0, hC]; simp [Cfg.laid]
  have hmk := run_make_ears W0 L (by omega)
  rw [hz0, ← hW] at hmk
  have HI : Hid (ErI w x C N (C + 1) b1 [.int .i64 va, .slice (some ⟨b1, 0, none⟩) L L, .slice a2 n2 c2, .int .i64 vc] F (C + 2) 0 W) := by
    have hK : Keeps (fun _ => False) w W := by rw [hW, hW0]; exact (((Keeps.refl _ _).alloc _).alloc _).alloc _
    refine ⟨?_, ?_, fun i hi => ?_, ⟨by omega, by omega, by omega, hb1⟩, zEar L, ?_, ⟨by rw [zEar_len, hL], fun i P h => absurd h (by omega)⟩⟩
    · rw [hW, hW0, hC]; exact ((One.mk' hi hN).kept ((Keeps.refl _ _).alloc _)).kept ((Keeps.refl _ _).alloc _)
    · rw [hW]
      have := Blk.new (x.laid w) #[.int .i64 va, .slice (some ⟨b1, 0, none⟩) x.ps.length x.ps.length, .slice a2 n2 c2, .int .i64 vc] 35
      rw [← hW0, hL] at this
      have e : (x.laid w).heap.size = C + 1 := by rw [hC]; simp [Cfg.laid]
      rw [e] at this
      exact this.alloc _
    · rw [World.cell?_of_block (w := w) (hK.block b1 hb1 fun h => h)]; exact (hs i hi).1
    · rw [hW, ← hz0]; exact Blk.new W0 (zEar L).toArray 76
  have HS : Hid (x.ps.length = L ∧ L ≤ 8 ∧ (∀ i, i < x.ps.length → 0 ≤ F i ∧ F i ≤ 1000000) ∧ (∀ P ∈ x.ps, 0 ≤ P.outputs ∧ P.outputs ≤ 1000000)) := ⟨hL, by omega, fun i hi => (hs i hi).2, ho⟩
  have hk0 : W0.cell? ⟨C, 5, none⟩ = some (.slice x.pa L x.pc) := by
    have h1 : One w x C N W0 := by rw [hW0, hC]; exact (One.mk' hi hN).kept ((Keeps.refl _ _).alloc _)
    have := h1.cells.2.2.2.2.2.1
    rw [hL] at this
    exact this
  obtain ⟨pa, hpa⟩ : ∃ pa, pa = x.pa := ⟨_, rfl⟩
  rw [← hpa] at hk0
  have hpc : L ≤ x.pc ∧ x.pc ≤ maxLen := by have := hi.plen; rw [hL] at this; exact this
  rw [hL]
  unfold Cfg.laid at hW0
  simp only [hL] at hW0
  clear hi hN hp hp1 hs ho hb1 hz0
  go_enter Tryz.func27, Tryz.ntmps27
  go_upto_region 1 with fail
  rw [← hW0, ← hC]
  clear hW0 hC hW hL
  have hk1 : W.cell? ⟨C, 5, none⟩ = some (.slice pa L x.pc) := by
    have := HI.out.one.cells.2.2.2.2.2.1
    rw [HS.out.1, ← hpa] at this
    exact this
  have HP : Hid (pa = x.pa) := hpa
  have hpc1 : (L : Int) ≤ x.pc := by omega
  have hpc2 : (x.pc : Int) ≤ 9223372036854775807 := by have := hpc.2; unfold maxLen at this; omega
  clear hpa hpc
  go_wp2_with fail
  clear hk0 hk1 hmk
  go_loopw [15] (fun i wr => ∃ j : Nat, j ≤ L ∧ i = .int .i64 j ∧ ErI w x C N (C + 1) b1 [.int .i64 va, .slice (some ⟨b1, 0, none⟩) L L, .slice a2 n2 c2, .int .i64 vc] F (C + 2) j wr) (fun i _ => L - (intOf i).toNat)
  case atStart => exact ⟨0, by omega, rfl, HI.out⟩
  case round =>
    obtain ⟨j, hj, rfl, hI⟩ := hrel
    clear HI
    by_cases hlt : j < L
    · obtain ⟨P, hP⟩ : ∃ P, x.ps[j]? = some P := ⟨_, List.getElem?_eq_getElem (by have := HS.out.1; omega)⟩
      obtain ⟨g1, o1, hpa, hg1⟩ := hI.one.cin.par hP
      obtain ⟨W1, hW1⟩ : ∃ W1, W1 = wr.alloc (.cells P.vs.toArray 55) := ⟨_, rfl⟩
      have hI1 : ErI w x C N (C + 1) b1 [.int .i64 va, .slice (some ⟨b1, 0, none⟩) L L, .slice a2 n2 c2, .int .i64 vc] F (C + 2) j W1 := by rw [hW1]; exact hI.kept ((Keeps.refl _ _).alloc _)
      obtain ⟨B, hB⟩ : ∃ B, B = wr.heap.size := ⟨_, rfl⟩
      have HB : Hid (Blk W1 B P.vs 55) := by rw [hW1, hB]; exact Blk.new _ _ _
      obtain ⟨l, hl, hE⟩ := hI1.ears
      have HK : Hid (ErI w x C N (C + 1) b1 [.int .i64 va, .slice (some ⟨b1, 0, none⟩) L L, .slice a2 n2 c2, .int .i64 vc] F (C + 2) j W1 ∧ x.ps[j]? = some P ∧ Blk W1 (C + 2) l 76 ∧ Ears x F j l) := ⟨hI1, hP, hl, hE⟩
      rw [← HP.out] at hpa
      subst hpa
      obtain ⟨nm, en, ac, re, ip, op, ra, rc, rs, pp, pq, ps⟩ := P
      have y0 := hg1 0 _ rfl
      rw [Nat.add_zero] at y0
      have y1 := hg1 1 _ rfl
      have y2 := hg1 2 _ rfl
      have y3 := hg1 3 _ rfl
      have y4 := hg1 4 _ rfl
      have y5 := hg1 5 _ rfl
      have y6 := hg1 6 _ rfl
      have y7 := hg1 7 _ rfl
      dsimp only at y0 y1 y2 y3 y4 y5 y6 y7
      simp only [Par.vs] at hW1
      clear hI hI1 hP hl hE hg1
      go_upto_region 5 with fail
      rw [← hW1, ← hB]
      clear hW1 hB y0 y1 y2 y3 y4 y5 y6 y7
      have b5 := HB.out.cell (i := 5) rfl
      have l1 := HK.out.1.lay.cell (i := 1) rfl
      have s2 := HK.out.1.st j (by have := HS.out.1; omega)
      have hF := HS.out.2.2.1 j (by have := HS.out.1; omega)
      have hO := HS.out.2.2.2 _ (List.mem_of_getElem? HK.out.2.1)
      dsimp only at b5 hO
      have hq : IntKind.i64.wrap (F j + 4) = F j + 4 := by rw [IntKind.wrap_i64]; omega
      have hu : op % 4294967296 = op := by omega
      have hll : j * 2 + 1 < l.length := by rw [HK.out.2.2.2.len]; have := HS.out.1; omega
      have e0 := HK.out.2.2.1.cell (i := j * 2) (List.getElem?_eq_getElem (by omega))
      have e1 := HK.out.2.2.1.cell (i := j * 2 + 1) (List.getElem?_eq_getElem hll)
      have z0 := HK.out.2.2.1.frozen (j * 2)
      have z1 := HK.out.2.2.1.frozen (j * 2 + 1)
      refine region_tail 14 (by kernel_rfl) ?_
      simp only [List.take_succ_cons, List.take_zero, List.drop_succ_cons, List.drop_zero]
      repeat still_step
      refine wpStill_nil ?_
      go_wp2
      refine ⟨⟨j + 1, by omega, by go_num, ?_⟩, by simp [intOf]; omega⟩
      have h0 := HK.out.1.kept ((Keeps.refl _ W1).drewN 1)
      have hl0 := HK.out.2.2.1.drewN 1
      have hK : Keeps (fun b => b = C + 2) (W1.drewN 1) (((W1.drewN 1).setCell ⟨C + 2, j * 2, none⟩ (.int .i64 (F j + 4))).setCell ⟨C + 2, j * 2 + 1, none⟩ (.int .u32 op)) := ((Keeps.refl (fun b => b = C + 2) _).setCell _ _ fun _ => rfl).setCell _ _ fun _ => rfl
      have hlo := h0.lo
      refine ⟨h0.one.kept' hK (fun e => hlo.2.1 e.symm) (fun k e => by rw [e]; exact Nat.le_trans h0.one.n hlo.1) (fun k e => by rw [e]; exact hlo.1), h0.lay.kept hK (fun e => hlo.2.2.1 e.symm), fun i hi => ?_, hlo, _, (hl0.setCell _ _).setCell _ _, HK.out.2.2.2.next HK.out.2.1⟩
      rw [World.cell?_of_block (w := W1.drewN 1) (hK.block b1 (Nat.lt_of_lt_of_le hlo.2.2.2 h0.one.keeps.size) fun e => by have := hlo.1; have := hlo.2.2.2; omega)]
      exact h0.st i hi
    · obtain rfl : j = L := by omega
      have HK : Hid (ErI w x C N (C + 1) b1 [.int .i64 va, .slice (some ⟨b1, 0, none⟩) j j, .slice a2 n2 c2, .int .i64 vc] F (C + 2) j wr) := hI
      clear hI
      go_wp2
      go_ret
      obtain ⟨l, h1, h2⟩ := HK.out.ears
      exact ⟨HK.out.one.keeps, C + 2, l, by rw [HS.out.1]; rfl, HK.out.lo.1, h1, by rw [HS.out.1]; exact h2⟩
end Go.Proofs.YtfbapgcopidbpaaGreat
