import Derived.Test.YtglhfijgnfignaaGreatTl
namespace Go.Proofs.YtglhfijgnfignaaGreat
open Go.RowKit Go.Shelf
open Mq
set_option linter.unusedVariables false
set_option maxRecDepth 6000
set_option linter.unusedSimpArgs false
attribute [local go_sem] Oper.semAt_some
set_option maxHeartbeats 2000000 in
theorem leafOf_any (P : Par) (p : Nat) (w : World) (N : Nat) (hi : P.In w N) (hN : N ≤ w.heap.size) (ho : ∀ r, r ∈ P.rs → r.ok) (hp : p < 256) :
  Calls Tryz.prog 10 #[P.v, .int .i64 p] w fun e w' => e = .returned (.tuple #[(leafO p (findL P.rs p)).v, .bool (findL P.rs p).isSome]) ∧ Keeps (fun _ => False) w w' := by
 obtain ⟨C, hC⟩ : ∃ C, C = w.heap.size := ⟨_, rfl⟩
 obtain ⟨W, hW⟩ : ∃ W, W = (P.laid w).alloc (.cells #[.int .i64 0, .int .i64 0, .int .i64 0] 45) := ⟨_, rfl⟩
 have hO := OneP.mk' hi hN
 have hB0 : Blk W C P.vs 53 := by rw [hW, hC]; exact hO.cfg.alloc _
 have hBl : Blk W (C + 1) lf0.vs 45 := by
  have := Blk.new (P.laid w) #[.int .i64 0, .int .i64 0, .int .i64 0] 45
  rw [World.size_alloc, ← hC] at this
  rw [hW]; exact this
 have hKW : Keeps (fun _ => False) w W := by rw [hW]; exact hO.keeps.alloc _
 have hsr := (segR_of hi.rseg).grown hKW
 obtain ⟨L, hL⟩ : ∃ L, L = P.rs.length := ⟨_, rfl⟩
 have hrl := hi.rlen
 have hc2 : (L : Int) ≤ P.rc := by omega
 have hc3 : (P.rc : Int) ≤ 9223372036854775807 := by unfold maxLen at hrl; omega
 have HS : Hid (SegR W P.ra P.rs ∧ L = P.rs.length ∧ (∀ r, r ∈ P.rs → r.ok) ∧ Blk W (C + 1) lf0.vs 45 ∧ Keeps (fun _ => False) w W ∧ Blk W C P.vs 53 ∧ C = w.heap.size) := ⟨hsr, hL, ho, hBl, hKW, hB0, hC⟩
 have HW : Hid (W = _) := hW
 have hp' : (p : Int) < 256 := by omega
 clear hO hB0 hBl hKW hsr hrl hL ho hi hN hW hC
 go_enter Tryz.func10, Tryz.ntmps10
 go_wp2
 rw [← HW.out]
 simp only [← HS.out.2.2.2.2.2.2]
 go_loopw [6] (fun i wr => ∃ j : Nat, j ≤ L ∧ i = .int .i64 j ∧ (P.rs.take j).find? (fun r => r.has p) = none ∧ Keeps (fun _ => False) W wr) (fun i _ => L - (intOf i).toNat)
 case atStart => exact ⟨0, by omega, rfl, by simp, Keeps.refl _ _⟩
 case round =>
  obtain ⟨j, hj, rfl, hn, hK⟩ := hrel
  have hB0 := HS.out.2.2.2.2.2.1.kept hK fun h => h
  have b6 := hB0.cell (i := 6) (v := .slice P.ra P.rs.length P.rc) rfl
  rw [← HS.out.2.1] at b6
  clear hB0
  by_cases hlt2 : j < L
  ·
   obtain ⟨y, hy⟩ : ∃ y, P.rs[j]? = some y := ⟨_, List.getElem?_eq_getElem (by have := HS.out.2.1; omega)⟩
   obtain ⟨g, o, hra, hg⟩ := HS.out.1.at hy
   rw [hra] at b6
   obtain ⟨y0, y1, y2, y3⟩ := hg.kept hK fun h => h
   have hBr := HS.out.2.2.2.1.kept hK fun h => h
   have hsz : C + 1 < wr.heap.size := hBr.lt
   have l0 := hBr.cell (i := 0) rfl
   have l1 := hBr.cell (i := 1) rfl
   have l2 := hBr.cell (i := 2) rfl
   have f0 := hBr.frozen 0
   have f1 := hBr.frozen 1
   have f2 := hBr.frozen 2
   obtain ⟨h1, h2, h3, h4, h5, h6, h7⟩ := HS.out.2.2.1 y (List.mem_of_getElem? hy)
   have HJ : Hid ((P.rs.take j).find? (fun r => r.has p) = none ∧ P.rs[j]? = some y ∧ Keeps (fun _ => False) W wr ∧ Blk wr (C + 1) lf0.vs 45) := ⟨hn, hy, hK, hBr⟩
   clear hn hy hK hg hBr hra
   by_cases hh : y.has p = true
   ·
    have hb := has_bounds hh
    obtain ⟨hb1, hb2⟩ := hb
    have hb3 : (p : Int) - y.page < y.pages := by omega
    have HF : Hid (findL P.rs p = some ((y.frame + ((p : Int) - y.page)).toNat, y.rights.toNat)) := by
     show findL P.rs p = _
     unfold findL; rw [find_take_hit HJ.out.1 HJ.out.2.1 hh]; rfl
    clear hh
    go_wp2
    rw [HF.out]
    have HL : Hid (_ = _) := load_ints ((HJ.out.2.2.2.set3 (.int .i64 p) (.int .i64 (y.frame + (p : Int) - y.page)) (.int .i64 y.rights)).alloc (.cells #[.int .i64 y.page, .int .i64 y.pages, .int .i64 y.frame, .int .i64 y.rights] 81))
    have HV : Hid ((leafO p (some ((y.frame + ((p : Int) - y.page)).toNat, y.rights.toNat))).v = .agg #[.int .i64 p, .int .i64 (y.frame + (p : Int) - y.page), .int .i64 y.rights]) := by
     have q1 : (((y.frame + ((p : Int) - y.page)).toNat : Nat) : Int) = y.frame + (p : Int) - y.page := by omega
     have q2 : ((y.rights.toNat : Nat) : Int) = y.rights := by omega
     show Value.agg #[.int .i64 p, .int .i64 (((y.frame + ((p : Int) - y.page)).toNat : Nat) : Int), .int .i64 ((y.rights.toNat : Nat) : Int)] = _
     rw [q1, q2]
    have HKK := ((HS.out.2.2.2.2.1.trans HJ.out.2.2.1 fun _ _ h => h).set3 (C + 1) (.int .i64 p) (.int .i64 (y.frame + (p : Int) - y.page)) (.int .i64 y.rights) (fun e => by have := HS.out.2.2.2.2.2.2; omega)).alloc (.cells #[.int .i64 y.page, .int .i64 y.pages, .int .i64 y.frame, .int .i64 y.rights] 81)
    refine bodyPost_ret (Mq.results_cell_tmp (p := 4) (u := 5) (ty := 45) rfl _ _ ⟨C + 1, 0, none⟩ _ rfl HL.out) rfl ?_
    refine ⟨?_, HKK⟩
    rw [HV.out]; rfl
   ·
    have hh := Bool.eq_false_iff.2 hh
    have HF : Hid ((P.rs.take (j + 1)).find? (fun r => r.has p) = none) := find_take_none HJ.out.1 HJ.out.2.1 hh
    by_cases hb1 : y.page ≤ p
    ·
     have hb2 : ¬ (p : Int) - y.page < y.pages := fun e => by
      have : y.has p = true := by simp [Rgn.has]; omega
      rw [hh] at this; cases this
     clear hh
     go_wp2
     go_roundw
     case rel => exact ⟨j + 1, by omega, by go_num, HF.out, HJ.out.2.2.1.alloc _⟩
     case measure => simp [intOf]; omega
    ·
     clear hh
     go_wp2
     go_roundw
     case rel => exact ⟨j + 1, by omega, by go_num, HF.out, HJ.out.2.2.1.alloc _⟩
     case measure => simp [intOf]; omega
  ·
   obtain rfl : j = L := by omega
   have HF : Hid (findL P.rs p = none) := by
    rw [List.take_of_length_le (by have := HS.out.2.1; omega)] at hn
    show findL P.rs p = none
    unfold findL; rw [hn]; rfl
   have hBr := HS.out.2.2.2.1.kept hK fun h => h
   have l0 := hBr.cell (i := 0) rfl
   have l1 := hBr.cell (i := 1) rfl
   have l2 := hBr.cell (i := 2) rfl
   have f0 := hBr.frozen 0
   have f1 := hBr.frozen 1
   have f2 := hBr.frozen 2
   have HJ : Hid (Keeps (fun _ => False) W wr ∧ Blk wr (C + 1) lf0.vs 45) := ⟨hK, hBr⟩
   clear hn hK hBr
   go_wp2
   rw [HF.out]
   have HL : Hid (_ = _) := load_ints (HJ.out.2.set3 (.int .i64 0) (.int .i64 0) (.int .i64 0))
   have HKK := (HS.out.2.2.2.2.1.trans HJ.out.1 fun _ _ h => h).set3 (C + 1) (.int .i64 0) (.int .i64 0) (.int .i64 0) (fun e => by have := HS.out.2.2.2.2.2.2; omega)
   refine bodyPost_ret (Mq.results_cell_tmp (p := 4) (u := 5) (ty := 45) rfl _ _ ⟨C + 1, 0, none⟩ _ rfl HL.out) rfl ?_
   exact ⟨rfl, HKK⟩
end Go.Proofs.YtglhfijgnfignaaGreat
