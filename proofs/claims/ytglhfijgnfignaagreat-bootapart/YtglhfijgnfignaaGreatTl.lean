import Derived.Test.YtglhfijgnfignaaGreatTk
import Derived.Test.YtglhfijgnfignaaGreatCq
import Derived.Test.YtglhfijgnfignaaGreatPAd
namespace Go.Proofs.YtglhfijgnfignaaGreat
open Go.RowKit Go.Shelf
open Mq
set_option linter.unusedVariables false
set_option maxRecDepth 6000
set_option linter.unusedSimpArgs false
attribute [local go_sem] Oper.semAt_some
theorem Tryz.inf43w : (Tryz.prog.info? 43).map (fun i => (i.zero, i.size, i.bytes)) = some (some (.slice none 0 0), 1, 24) := by kernel_rfl
theorem run_make27 (w : World) (n : Nat) (hn : n * 24 ≤ 140737488351232) :
  (Instr.makeSlice 27 (.int .i64 n) (.int .i64 n)).run Tryz.prog w = .ok (.slice (some ⟨w.heap.size, 0, none⟩) n n) (w.alloc (.cells (List.replicate n (.slice none 0 0)).toArray 43)) := by
 obtain ⟨i0, hi, hz0, hz1, hz2⟩ := info_parts Tryz.inf43w
 have h := run_make (P := Tryz.prog) w 27 43 i0 _ Tryz.underlying27 hi hz0 .i64 .i64 n n (by omega) (by omega) (by rw [hz2]; omega) (by omega)
 rw [Int.toNat_natCast, hz1, madeCells_z1] at h
 exact h
structure Prg.Ok0 (w : World) (p : Prg) : Prop where
 seg : SegW w p.a p.ws
 len : p.ws.length ≤ p.c ∧ p.c ≤ maxLen
structure PrgIn0 (w : World) (N : Nat) (pa : Option Addr) (pc : Nat) (ps : List Prg) : Prop where
 seg : SegA Prg.vs 1 w pa ps
 lo : ps ≠ [] → ∀ y, pa = some y → y.block < N
 len : ps.length ≤ pc ∧ pc ≤ maxLen
 each : ∀ p ∈ ps, p.Ok0 w
theorem PrgIn0.kept {w w' : World} {N : Nat} {pa : Option Addr} {pc : Nat} {ps : List Prg} (h : PrgIn0 w N pa pc ps) (k : Keeps (fun _ => False) w w') : PrgIn0 w' N pa pc ps :=
 ⟨h.seg.kept k fun _ _ _ h => h, h.lo, h.len, fun p hp => ⟨(h.each p hp).seg.kept k fun _ _ h => h, (h.each p hp).len⟩⟩
structure PSml (ps : List Prg) : Prop where
 n : ps.length * 24 ≤ 140737488351232
 each : ∀ p ∈ ps, p.ws.length ≤ 35184372087808
def WideP (ps : List (List UInt32)) (w : World) (e : Ending) (w' : World) : Prop :=
 Keeps (fun _ => False) w w' ∧ ∃ (G : Nat) (qs : List Prg), e = .returned (.slice (some ⟨G, 0, none⟩) qs.length qs.length) ∧ qs.map Prg.ws = ps ∧ w.heap.size ≤ G ∧ Blk w' G (qs.flatMap Prg.vs) 43 ∧ (∀ q ∈ qs, q.Ok w' w'.heap.size ∧ ∀ y, q.a = some y → y.block ≠ G) ∧ qs.length ≤ maxLen
theorem prg_flat (qs : List Prg) : (qs.flatMap Prg.vs).length = qs.length := by
 induction qs with
 | nil => rfl
 | cons q qs ih => simp [List.flatMap_cons, ih]
theorem prg_flat_set (qs : List Prg) (q : Prg) (m : Nat) : (qs.flatMap Prg.vs ++ List.replicate (m + 1) (Value.slice none 0 0)).set qs.length (.slice q.a q.ws.length q.c) = (qs ++ [q]).flatMap Prg.vs ++ List.replicate m (.slice none 0 0) := by
 rw [List.set_append_right _ _ (by rw [prg_flat]; exact Nat.le_refl _), prg_flat, Nat.sub_self, List.replicate_succ, List.set_cons_zero, List.flatMap_append, List.append_assoc]
 rfl
set_option maxHeartbeats 2000000 in
theorem wide_any (pa : Option Addr) (pc : Nat) (ps : List Prg) (w : World) (N : Nat) (hN : N ≤ w.heap.size) (hp : PrgIn0 w N pa pc ps) (hs : PSml ps) :
  Calls Tryz.prog 7 #[.slice pa ps.length pc] w (WideP (ps.map Prg.ws) w) := by
 obtain ⟨L, hL⟩ : ∃ L, L = ps.length := ⟨_, rfl⟩
 obtain ⟨G, hG⟩ : ∃ G, G = w.heap.size := ⟨_, rfl⟩
 obtain ⟨W, hW⟩ : ∃ W, W = w.alloc (.cells (List.replicate L (.slice none 0 0)).toArray 43) := ⟨_, rfl⟩
 have hM := run_make27 w L (by rw [hL]; exact hs.n)
 rw [← hW, ← hG] at hM
 have HM : Hid (_ = _) := hM
 have hB : Blk W G (List.replicate L (.slice none 0 0)) 43 := by rw [hW, hG]; exact Blk.new w _ 43
 have hK : Keeps (fun _ => False) w W := by rw [hW]; exact (Keeps.refl _ w).alloc _
 have HP : Hid (PrgIn0 w N pa pc ps ∧ PSml ps ∧ L = ps.length ∧ G = w.heap.size ∧ N ≤ w.heap.size ∧ Blk W G (List.replicate L (.slice none 0 0)) 43 ∧ Keeps (fun _ => False) w W) := ⟨hp, hs, hL, hG, hN, hB, hK⟩
 have hlp := hp.len
 have hLc : (L : Int) ≤ pc := by omega
 have hpc : (pc : Int) ≤ 9223372036854775807 := by unfold maxLen at hlp; omega
 have hLs : (L : Int) ≤ 5864062014634 := by have := hs.n; omega
 rw [← hL]
 clear hp hs hL hG hN hB hK hM hW hlp
 go_enter Tryz.func7, Tryz.ntmps7
 go_wp2_with (at_make; refine wpList_make_run rfl _ _ 27 rfl (.int .i64 L) (.int .i64 L) (.slice (some ⟨G, 0, none⟩) L L) W rfl rfl HM.out ?_; refine Hid.out ?_)
 unfold Hid
 clear HM
 go_wp2
 go_loopw [4] (fun i wr => ∃ (qs : List Prg), qs.length ≤ L ∧ i = .int .i64 qs.length ∧ Keeps (fun _ => False) w wr ∧ qs.map Prg.ws = (ps.map Prg.ws).take qs.length ∧ Blk wr G (qs.flatMap Prg.vs ++ List.replicate (L - qs.length) (.slice none 0 0)) 43 ∧ ∀ q ∈ qs, q.Ok wr wr.heap.size ∧ ∀ y, q.a = some y → y.block ≠ G) (fun i _ => L - (intOf i).toNat)
 case atStart => exact ⟨[], by simp, rfl, HP.out.2.2.2.2.2.2, by simp, by simpa using HP.out.2.2.2.2.2.1, fun q h => by cases h⟩
 case round =>
  obtain ⟨qs, hql, rfl, hK, hmap, hB, hq⟩ := hrel
  obtain ⟨j, hj⟩ : ∃ j, j = qs.length := ⟨_, rfl⟩
  rw [← hj] at hql hmap hB
  simp only [← hj]
  by_cases hlt : j < L
  ·
   obtain ⟨p, hp⟩ : ∃ p, ps[j]? = some p := ⟨_, List.getElem?_eq_getElem (by have := HP.out.2.2.1; omega)⟩
   have hPr := HP.out.1.kept hK
   obtain ⟨gq, oq, hpa, hqc⟩ := hPr.seg.at hp
   have p0 := hqc 0 (.slice p.a p.ws.length p.c) rfl
   rw [Nat.mul_one, Nat.add_zero] at p0
   have hpk := hPr.each p (List.mem_of_getElem? hp)
   have HC : Hid (Calls _ _ _ wr _) := handWBig p.a p.ws.length p.c p.ws wr hpk.seg rfl (HP.out.2.1.each p (List.mem_of_getElem? hp))
   have cG := hB.cell (i := j) (v := .slice none 0 0) (by rw [List.getElem?_append_right (by rw [prg_flat]; omega), prg_flat, List.getElem?_replicate, if_pos (by omega)])
   have hjL : (j : Int) < L := by omega
   obtain ⟨pn, hpn⟩ : ∃ pn, pn = p.ws.length := ⟨_, rfl⟩
   rw [← hpn] at p0 HC
   have HR : Hid (Keeps (fun _ => False) w wr ∧ qs.map Prg.ws = (ps.map Prg.ws).take j ∧ Blk wr G (qs.flatMap Prg.vs ++ List.replicate (L - j) (.slice none 0 0)) 43 ∧ (∀ q ∈ qs, q.Ok wr wr.heap.size ∧ ∀ y, q.a = some y → y.block ≠ G) ∧ ps[j]? = some p ∧ pn = p.ws.length ∧ j = qs.length) := ⟨hK, hmap, hB, hq, hp, hpn, hj⟩
   have hgq : gq < wr.heap.size := World.block_lt_of_cell? wr _ p0
   subst hpa
   clear hql hmap hB hq hK hp hPr hqc hpk hpn hj
   go_wp2_with fail
   refine HC.out.mono ?_
   rintro e w1 ⟨rfl, hb1, hk1⟩
   have hB1 := HR.out.2.2.1.kept hk1 fun h => h
   have cG := Mq.cell_kept cG hk1 fun h => h
   have fG := hB1.frozen j
   have H1 : Hid (Keeps (fun _ => False) wr w1 ∧ Blk w1 wr.heap.size (fW (pn + 70) (spareW p.ws)) 58 ∧ Blk w1 G (qs.flatMap Prg.vs ++ List.replicate (L - j) (.slice none 0 0)) 43) := ⟨hk1, hb1, hB1⟩
   clear hb1 hk1 hB1 HC p0
   go_wp2
   go_roundw
   case rel =>
    obtain ⟨r1, r2, r3, r4, r5, r6, r7⟩ := HR.out
    obtain ⟨t1, t2, t3⟩ := H1.out
    obtain ⟨q, hq⟩ : ∃ q : Prg, q = ⟨some ⟨wr.heap.size, 0, none⟩, pn + 70, p.ws⟩ := ⟨_, rfl⟩
    have hGw : G < wr.heap.size := r3.lt
    have hks : Keeps (· = G) w1 (w1.setCell ⟨G, j, none⟩ (.slice (some ⟨wr.heap.size, 0, none⟩) pn (pn + 70))) := (Keeps.refl _ w1).setCell _ _ fun _ => rfl
    have hseg : SegW w1 (some ⟨wr.heap.size, 0, none⟩) p.ws := .inr ⟨wr.heap.size, 0, rfl, fun i hi => by
     rw [Nat.zero_add, t2.cell (fW_get _ (show i < pn + 70 by omega))]
     simp [spareW, hi]⟩
    have hsz := hks.size
    have hsz1 := t1.size
    refine ⟨qs ++ [q], by rw [List.length_append, ← r7]; simp; omega, by rw [List.length_append, ← r7]; go_num, (r1.trans t1 fun _ _ h => h).setCell _ _ fun h => ?_, ?_, ?_, fun q' hq' => ?_⟩
    ·
     have := HP.out.2.2.2.1
     simp only at h
     omega
    ·
     rw [List.map_append, r2, List.length_append, ← r7, hq]
     show _ = List.take (j + 1) _
     rw [List.take_add_one, List.getElem?_map, r5]
     rfl
    ·
     have h0 := t3.setCell j (.slice (some ⟨wr.heap.size, 0, none⟩) pn (pn + 70))
     have e := prg_flat_set qs q (L - (j + 1))
     rw [hq] at e
     simp only at e
     rw [← r7, ← r6, show L - (j + 1) + 1 = L - j by omega] at e
     rw [e] at h0
     rw [List.length_append, ← r7, hq]
     exact h0
    ·
     rcases List.mem_append.1 hq' with h | h
     ·
      obtain ⟨k1, k2⟩ := r4 q' h
      refine ⟨⟨(k1.seg.kept t1 fun _ _ h => h).kept hks fun y hy => k2 y hy, k1.len, fun y hy => ?_⟩, k2⟩
      have := k1.lo y hy
      omega
     ·
      obtain rfl := List.mem_singleton.1 h
      rw [hq]
      refine ⟨⟨hseg.kept hks fun y hy => ?_, ⟨?_, ?_⟩, fun y hy => ?_⟩, fun y hy => ?_⟩
      ·
       obtain rfl := Option.some.inj hy
       simp only
       omega
      ·
       simp only; omega
      ·
       have := HP.out.2.1.each p (List.mem_of_getElem? r5)
       unfold maxLen
       simp only
       omega
      ·
       obtain rfl := Option.some.inj hy
       have := t2.lt
       simp only
       omega
      ·
       obtain rfl := Option.some.inj hy
       simp only
       omega
   case measure => simp [intOf]; omega
  ·
   obtain rfl : j = L := by omega
   have HR : Hid (Keeps (fun _ => False) w wr ∧ qs.map Prg.ws = (ps.map Prg.ws).take j ∧ Blk wr G (qs.flatMap Prg.vs ++ List.replicate (j - j) (.slice none 0 0)) 43 ∧ (∀ q ∈ qs, q.Ok wr wr.heap.size ∧ ∀ y, q.a = some y → y.block ≠ G) ∧ j = qs.length) := ⟨hK, hmap, hB, hq, hj⟩
   clear hK hmap hB hq hql hlt hj
   go_wp2
   go_ret
   obtain ⟨r1, r2, r3, r4, r5⟩ := HR.out
   rw [Nat.sub_self, List.replicate_zero, List.append_nil] at r3
   refine ⟨r1, G, qs, by rw [← r5]; rfl, ?_, by rw [HP.out.2.2.2.1]; exact Nat.le_refl _, r3, r4, ?_⟩
   ·
    rw [r2]; exact List.take_of_length_le (by rw [List.length_map]; have := HP.out.2.2.1; omega)
   ·
    have := HP.out.1.len; have := HP.out.2.2.1; omega
end Go.Proofs.YtglhfijgnfignaaGreat
