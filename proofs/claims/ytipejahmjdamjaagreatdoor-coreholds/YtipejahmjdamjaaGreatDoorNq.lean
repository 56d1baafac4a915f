import Derived.Test.YtipejahmjdamjaaGreatDoorNp
namespace Go.Proofs.YtipejahmjdamjaaGreatDoor
open Go.RowKit Go.Shelf
set_option linter.unusedVariables false
set_option linter.unusedSimpArgs false
set_option maxRecDepth 20000

theorem spare_seg {w : World} {B n : Nat} {l : List Int} (h : Blk w B (fI (n + 70) (spareI l)) 3) (hn : n = l.length) : Ch.SegI w (some ⟨B, 0, none⟩) l := by
  refine .inr ⟨B, 0, rfl, fun j hj => ?_⟩
  have h1 := h.cell (fI_get (spareI l) (show j < n + 70 by omega))
  rw [Nat.zero_add]
  have e : spareI l j = l[j] := by simp [spareI, hj]
  rw [h1, e]
theorem nth_get {lls : List (List Int)} {j : Nat} {l : List Int} (h : lls[j]? = some l) : Ch.nth lls j = l ∧ nl lls j = l.length := by
  have : Ch.nth lls j = l := by unfold Ch.nth; rw [h]; rfl
  exact ⟨this, by unfold nl; rw [this]⟩
theorem Lt.seg {w : World} {lo : Nat} {lls : List (List Int)} {a : Option Addr} {c : Nat} {Bs : Nat → Nat} (h : Lt w lo lls lls.length (.slice a lls.length c) Bs) (hlen : ∀ (j : Nat) (l : List Int), lls[j]? = some l → l.length ≤ 2147483647) : Ch.SegL w a lls := by
  by_cases h0 : lls = []
  · exact .inl h0
  · right
    have hp : 0 < lls.length := List.length_pos_iff.2 h0
    obtain ⟨g, e, _⟩ := owns_sliceT h.row 0 _ (rowsV_get Bs lls hp)
    refine ⟨g, 0, e, fun j l hl => ?_⟩
    have hj := (List.getElem?_eq_some_iff.1 hl).1
    obtain ⟨g2, e2, hc⟩ := owns_sliceT h.row j _ (rowsV_get Bs lls hj)
    rw [e] at e2
    injection e2 with e2
    injection e2 with e2 _
    obtain ⟨e3, e4⟩ := nth_get hl
    have hb := h.blk j hj
    rw [e3, e4] at hb
    have := hlen j l hl
    refine ⟨_, l.length + 70, by rw [Nat.zero_add, e2, hc]; unfold rowV; rw [e4], spare_seg hb rfl, by omega, by omega⟩
theorem own_of_blk {w : World} {B n : Nat} {l : List Value} (h : Blk w B l 3) (hl : l.length = n + 70) (hn : n ≤ 2147483647) : w.ownsRow 0 3 1 (.slice (some ⟨B, 0, none⟩) n (n + 70)) n (l.take n) := by
  refine ⟨by simp; omega, .inr ⟨B, n + 70, l.toArray, rfl, Nat.zero_le _, h, by omega, by unfold maxLen; omega, by simp; omega, by simp⟩⟩

/-- How far the taking back has come. -/
def BI (lo hi N n k : Nat) (lls : List (List Int)) (ls : List Tl.Lf) (al : Option Addr) (cl : Nat) (av : Option Addr) (cv : Nat) (Bs : Nat → Nat) (W3 wr : World) : Prop :=
  Keeps (fun b => lo ≤ b ∧ b < hi) W3 wr ∧ (∀ j, k ≤ j → j < N → Blk wr (Bs j) (fI (nl lls j + 70) (spareI (Ch.nth lls j))) 3) ∧
  (∃ us, wr.ownsRow 0 99 1 (.slice al N cl) N us ∧ ∀ j, k ≤ j → j < N → us[j]? = some (rowV Bs lls j)) ∧ wr.ownsRow 0 64 3 (.slice av n cv) n (Tl.flatL ls)

set_option maxHeartbeats 8000000 in
theorem back_any (rg : List UInt32) (pc : Nat) (la : Option Addr) (lls : List (List Int)) (lc : Nat) (va : Option Addr) (ls : List Tl.Lf) (vc lo hi : Nat) (lv vv : Value) (Bs : Nat → Nat) (w0 w : World) (hl : rg.length = 16) (hp : pc < 4294967296) (k0 : Keeps (fun _ => False) w0 w) (hlo : w0.heap.size ≤ lo) (hhi : hi ≤ w.heap.size)
    (hs : Ch.SegL w0 la lls) (hN : lls.length ≤ 2147483647) (hlen : ∀ (j : Nat) (l : List Int), lls[j]? = some l → l.length ≤ 2147483647) (hL : Tl.SegL w0 va ls) (hLn : ls.length ≤ 2147483647) (hLc : ls.length ≤ vc ∧ vc ≤ maxLen)
    (hT : Lt w lo lls lls.length lv Bs) (hv : w.ownsRow 0 64 3 vv ls.length (Tl.flatL ls)) (hvl : ∀ g, vv.ownBlock = some g → lo ≤ g ∧ g < hi) (hbl : ∀ j, j < lls.length → Bs j < hi) (hll : ∀ b, lv.ownBlock = some b → b < hi) :
    Calls Tryz.prog 25 #[.agg (heldL rg pc lv vv).toArray, .agg (heldL rg pc (.slice la lls.length lc) (.slice va ls.length vc)).toArray] w fun e w' => e = .returned (.bool true) ∧ Keeps (fun k => lo ≤ k ∧ k < hi) w w' := by
  obtain ⟨al, cl, rfl, -, -⟩ := own_slice hT.row
  obtain ⟨av, cv, rfl, hcv1, hcv2⟩ := own_slice hv
  obtain ⟨N, eN⟩ : ∃ N, N = lls.length := ⟨_, rfl⟩
  obtain ⟨n, en⟩ : ∃ n, n = ls.length := ⟨_, rfl⟩
  obtain ⟨VX, eVX⟩ : ∃ V, V = heldL rg pc (.slice al N cl) (.slice av n cv) := ⟨_, rfl⟩
  obtain ⟨VH, eVH⟩ : ∃ V, V = heldL rg pc (.slice la N lc) (.slice va n vc) := ⟨_, rfl⟩
  obtain ⟨W2, eW2⟩ : ∃ W, W = (w.alloc (.cells VX.toArray 44)).alloc (.cells VH.toArray 44) := ⟨_, rfl⟩
  obtain ⟨b1, eb1⟩ : ∃ b, b = w.heap.size := ⟨_, rfl⟩
  obtain ⟨b2, eb2⟩ : ∃ b, b = w.heap.size + 1 := ⟨_, rfl⟩
  rw [← eN, ← en, ← eVX, ← eVH]
  have kk : Keeps (fun _ => False) w W2 := by rw [eW2]; exact ((Keeps.refl _ w).alloc _).alloc _
  have hB1 : Blk W2 b1 VX 44 := by rw [eW2, eb1]; have := (Blk.new w VX.toArray 44).alloc (.cells VH.toArray 44); simpa using this
  have hB2 : Blk W2 b2 VH 44 := by rw [eW2, eb2]; have := Blk.new (w.alloc (.cells VX.toArray 44)) VH.toArray 44; simpa using this
  have l1 : VX.length = 19 := by rw [eVX]; exact heldL_len hl _ _ _
  have l2 : VH.length = 19 := by rw [eVH]; exact heldL_len hl _ _ _
  have HRa : Hid (W2.rangeAt b1 0 VX ∧ W2.rangeAt b2 0 VH ∧ (Tryz.prog.info? 44).map (·.size) = some VX.length ∧ (Tryz.prog.info? 44).map (·.size) = some VH.length) := ⟨hB1.range, hB2.range, info44 l1, info44 l2⟩
  have hT2 := hT.kept kk fun _ _ _ h => h
  have hv2 := owns_kept hv kk fun _ _ h => h
  have k02 := k0.trans kk fun _ _ h => h
  have hX : HR W2 lls ls (.slice al lls.length cl) (.slice av ls.length cv) := ⟨al, cl, av, cv, rfl, rfl, hT2.seg hlen, seg_of hv2 rfl, by unfold maxLen at hcv2 ⊢; omega⟩
  have hH : HR W2 lls ls (.slice la lls.length lc) (.slice va ls.length vc) := ⟨la, lc, va, vc, rfl, rfl, hs.kept k02, hL.kept k02 fun _ _ h => h, hLc⟩
  have h29 := sameHeld_any rg pc lls ls _ _ _ _ W2 hl hp hX hH (by omega)
  rw [← eN, ← en, ← eVX, ← eVH] at h29
  have H29 : Hid (Calls Tryz.prog 29 #[.agg VX.toArray, .agg VH.toArray] W2 fun e w' => e = .returned (.bool true) ∧ Keeps (fun _ => False) W2 w') := h29
  have HB : Hid (W2.cell? ⟨b1, 17, none⟩ = some (.slice al N cl) ∧ W2.cell? ⟨b1, 18, none⟩ = some (.slice av n cv) ∧ W2.cell? ⟨b2, 17, none⟩ = some (.slice la N lc) ∧ hi ≤ b1 ∧ hi ≤ b2) :=
    ⟨hB1.cell (by rw [eVX]; exact (heldL_get rg pc _ _ hl).1), hB1.cell (by rw [eVX]; exact (heldL_get rg pc _ _ hl).2), hB2.cell (by rw [eVH]; exact (heldL_get rg pc _ _ hl).1), by omega, by omega⟩
  have HS : Hid (Ch.SegL w0 la lls ∧ N = lls.length ∧ N ≤ 2147483647 ∧ (∀ (j : Nat) (l : List Int), lls[j]? = some l → l.length ≤ 2147483647) ∧ n = ls.length ∧ n ≤ 2147483647 ∧ w0.heap.size ≤ lo ∧ Keeps (fun _ => False) w0 W2 ∧ Keeps (fun _ => False) w W2 ∧ hi ≤ W2.heap.size) := ⟨hs, eN, by omega, hlen, en, by omega, hlo, k02, kk, by have := kk.size; omega⟩
  have HT : Hid (Lt W2 lo lls N (.slice al N cl) Bs ∧ (∀ g, (Value.slice av n cv).ownBlock = some g → lo ≤ g ∧ g < hi) ∧ (∀ j, j < N → Bs j < hi) ∧ (∀ b, (Value.slice al N cl).ownBlock = some b → b < hi) ∧ W2.ownsRow 0 64 3 (.slice av n cv) n (Tl.flatL ls)) := by
    rw [eN, en]
    exact ⟨hT2, hvl, hbl, hll, hv2⟩
  have hnc : (n : Int) ≤ cv := by omega
  have hNz : (N : Int) ≤ 2147483647 := by omega
  have hnz : (n : Int) ≤ 2147483647 := by omega
  have HW : Hid (W2 = (w.alloc (.cells VX.toArray 44)).alloc (.cells VH.toArray 44) ∧ b1 = w.heap.size ∧ b2 = w.heap.size + 1) := ⟨eW2, eb1, eb2⟩
  clear hl hp k0 hlo hhi hs hN hlen hL hLn hLc hT hv hvl hbl hll hcv1 hcv2 eN en eVX eVH eW2 eb1 eb2 kk hB1 hB2 l1 l2 hT2 hv2 k02 hX hH h29
  go_enter Tryz.func25, Tryz.ntmps25
  go_upto_region 1 with fail
  rw [← HW.out.1, ← HW.out.2.2, ← HW.out.2.1]
  clear HW
  go_wp2_with (refine wpList_load_on rfl 44 (.tmp 2) rfl b1 0 rfl VX _ HRa.out.1 Tryz.underlying44 rfl HRa.out.2.2.1 ?_; refine Hid.out ?_)
  unfold Hid
  go_wp2_with (refine wpList_load_on rfl 44 (.tmp 3) rfl b2 0 rfl VH _ HRa.out.2.1 Tryz.underlying44 rfl HRa.out.2.2.2 ?_; refine Hid.out ?_)
  unfold Hid
  clear HRa
  go_wp2_with fail
  refine H29.out.mono ?_
  rintro e W3 ⟨rfl, k3⟩
  have HK3 : Hid (Keeps (fun _ => False) W2 W3) := k3
  clear k3 H29
  go_wp2
  go_loopw [5] (fun i wr => ∃ k : Nat, k ≤ N ∧ i = .int .i64 k ∧ BI lo hi N n k lls ls al cl av cv Bs W3 wr) (fun i _ => N - (intOf i).toNat)
  case atStart =>
    have t3 := HT.out.1.kept HK3.out fun _ _ _ h => h
    exact ⟨0, by omega, rfl, Keeps.refl _ _, fun j _ hj => t3.blk j hj, ⟨_, t3.row, fun j _ hj => rowsV_get Bs lls hj⟩, owns_kept HT.out.2.2.2.2 HK3.out fun _ _ h => h⟩
  case round =>
    obtain ⟨k, hk, rfl, i1, i2, ⟨us, i3, i4⟩, i5⟩ := hrel
    have kw : Keeps (fun b => lo ≤ b ∧ b < hi) W2 wr := (HK3.out.mono fun _ _ h => h.elim).trans i1 fun b _ h => h
    have cx := Ch.cell_kept HB.out.1 kw (by intro h; have h' : lo ≤ b1 ∧ b1 < hi := h; have := HB.out.2.2.2.1; omega)
    by_cases hlt : k < N
    · have hkz : (k : Int) < N := by omega
      obtain ⟨l, hll⟩ : ∃ l, lls[k]? = some l := ⟨_, List.getElem?_eq_getElem (by have := HS.out.2.1; omega)⟩
      have hlb := HS.out.2.2.2.1 k l hll
      obtain ⟨r, hr⟩ : ∃ r, r = l.length := ⟨_, rfl⟩
      obtain ⟨e1, e2⟩ := nth_get hll
      have k0r : Keeps (fun _ => False) w0 wr := HS.out.2.2.2.2.2.2.2.1.trans kw fun b hb h => by have h' : lo ≤ b ∧ b < hi := h; have := HS.out.2.2.2.2.2.2.1; omega
      have cy := Ch.cell_kept HB.out.2.2.1 kw (by intro h; have h' : lo ≤ b2 ∧ b2 < hi := h; have := HB.out.2.2.2.2; omega)
      rcases HS.out.1 with h0 | ⟨g2, o2, rfl, hc0⟩
      · rw [h0] at hll; simp at hll
      obtain ⟨x, c, c20, hsx0, _, _⟩ := hc0 k l hll
      have c2 := Ch.cell_kept c20 k0r fun h => h
      have hsx := hsx0.kept k0r fun _ _ h => h
      have hg2 : g2 < w0.heap.size := World.block_lt_of_cell? w0 ⟨g2, o2 + k, none⟩ c20
      have hsxb : ∀ y, x = some y → 0 < r → y.block < w0.heap.size := by
        intro y hy hr0
        rcases hsx0 with h0 | ⟨b, o, e, hcc⟩
        · rw [h0] at hr; simp at hr; omega
        · rw [hy] at e
          injection e with e
          rw [e]
          exact World.block_lt_of_cell? w0 _ (hcc 0 (by omega))
      rw [← hr] at c2
      obtain ⟨g, rfl, c1⟩ := owns_sliceT i3 k _ (i4 k (by omega) hlt)
      have hB := i2 k (by omega) hlt
      rw [e1, e2, ← hr] at hB
      unfold rowV at c1
      rw [e2, ← hr] at c1
      obtain ⟨B, hBs⟩ : ∃ B, B = Bs k := ⟨_, rfl⟩
      rw [← hBs] at hB c1
      have hBlo : lo ≤ B ∧ B < hi := by rw [hBs]; exact ⟨HT.out.1.low k hlt, HT.out.2.2.1 k hlt⟩
      have hglo : lo ≤ g ∧ g < hi := ⟨HT.out.1.own g rfl, HT.out.2.2.2.1 g rfl⟩
      have HCK : Hid (Calls _ _ _ _ _) := keptI_any B x r c l wr.drew (hB.kept ((Keeps.refl (fun _ => False) wr).drew) fun h => h) (hsx.kept ((Keeps.refl (fun _ => False) wr).drew) fun _ _ h => h) hr (by omega)
      obtain ⟨wd, hwd⟩ : ∃ wd, wd = wr.drew := ⟨_, rfl⟩
      have kd : Keeps (fun _ => False) wr wd := by rw [hwd]; exact (Keeps.refl _ _).drew
      have hBd := hB.kept kd fun h => h
      have H56 : Hid (Calls _ _ _ _ _) := spoilI_any (some ⟨B, 0, none⟩) r (r + 70) _ wd (own_of_blk hBd (fI_length _ _) (by omega)) (by omega)
      have HJ : Hid (k < N ∧ BI lo hi N n k lls ls (some ⟨g, 0, none⟩) cl av cv Bs W3 wr ∧ Keeps (fun _ => False) wr wd ∧ B = Bs k ∧ (lo ≤ B ∧ B < hi) ∧ (lo ≤ g ∧ g < hi)) := ⟨hlt, ⟨i1, i2, ⟨us, i3, i4⟩, i5⟩, kd, hBs, hBlo, hglo⟩
      have d1 := Ch.cell_kept cx kd fun h => h
      have d2 := Ch.cell_kept c1 kd fun h => h
      have hSd : (fun w' : World => (w'.cell? ⟨b1, 17, none⟩ = some (.slice (some ⟨g, 0, none⟩) N cl) ∧ w'.cell? ⟨b2, 17, none⟩ = some (.slice (some ⟨g2, o2, none⟩) N lc)) ∧ w'.cell? ⟨g, k, none⟩ = some (.slice (some ⟨B, 0, none⟩) r (r + 70)) ∧ w'.cell? ⟨g2, o2 + k, none⟩ = some (.slice x r c)) wd := ⟨⟨d1, Ch.cell_kept cy kd fun h => h⟩, d2, Ch.cell_kept c2 kd fun h => h⟩
      have HWD : Hid (wd = wr.drew) := hwd
      clear hk hlt i1 i2 i3 i4 i5 kw hll hlb hr e1 e2 k0r hc0 c20 hsx0 hsx hg2 hsxb hB hBs hBlo hglo kd hBd hwd
      go_upto_region 6 with fail
      rw [HWD.out] at hSd
      refine wp_region_held_drew (S := (fun w' : World => (w'.cell? ⟨b1, 17, none⟩ = some (.slice (some ⟨g, 0, none⟩) N cl) ∧ w'.cell? ⟨b2, 17, none⟩ = some (.slice (some ⟨g2, o2, none⟩) N lc)) ∧ w'.cell? ⟨g, k, none⟩ = some (.slice (some ⟨B, 0, none⟩) r (r + 70)) ∧ w'.cell? ⟨g2, o2 + k, none⟩ = some (.slice x r c))) (by kernel_rfl) hSd (fun hHeld => ?_)
      simp only [List.size_toArray, List.length_cons, List.length_nil, Nat.reduceAdd, Array.replicate_succ, Array.replicate_zero, List.push_toArray, List.append_toArray, List.nil_append, List.cons_append]
      refine tk 0 (.pointer (some ⟨b1, 17, none⟩)) hHeld ?_
      simp only [Act.put, List.setIfInBounds_toArray, List.set_cons_zero, List.set_cons_succ]
      refine tk 1 (.slice (some ⟨g, 0, none⟩) N cl) hHeld ?_
      simp only [Act.put, List.setIfInBounds_toArray, List.set_cons_zero, List.set_cons_succ]
      refine tk 2 (.int .i64 (k : Int)) hHeld ?_
      simp only [Act.put, List.setIfInBounds_toArray, List.set_cons_zero, List.set_cons_succ]
      refine tk 3 (.pointer (some ⟨g, k, none⟩)) hHeld ?_
      simp only [Act.put, List.setIfInBounds_toArray, List.set_cons_zero, List.set_cons_succ]
      refine tk 4 (.slice (some ⟨B, 0, none⟩) r (r + 70)) hHeld ?_
      simp only [Act.put, List.setIfInBounds_toArray, List.set_cons_zero, List.set_cons_succ]
      refine tk 5 (.pointer (some ⟨b2, 17, none⟩)) hHeld ?_
      simp only [Act.put, List.setIfInBounds_toArray, List.set_cons_zero, List.set_cons_succ]
      refine tk 6 (.slice (some ⟨g2, o2, none⟩) N lc) hHeld ?_
      simp only [Act.put, List.setIfInBounds_toArray, List.set_cons_zero, List.set_cons_succ]
      refine tk 7 (.int .i64 (k : Int)) hHeld ?_
      simp only [Act.put, List.setIfInBounds_toArray, List.set_cons_zero, List.set_cons_succ]
      refine tk 8 (.pointer (some ⟨g2, o2 + k, none⟩)) hHeld ?_
      simp only [Act.put, List.setIfInBounds_toArray, List.set_cons_zero, List.set_cons_succ]
      refine tk 9 (.slice x r c) hHeld ?_
      simp only [Act.put, List.setIfInBounds_toArray, List.set_cons_zero, List.set_cons_succ]
      refine wpAnyH_ready (rs := [10]) (by kernel_rfl) (by simp) ?_
      refine AllReadyH.cons rfl (fun Kq hK => ?_) AllReadyH.nil
      go_simp
      refine HCK.out.mono ?_
      rintro e w4 ⟨rfl, rfl⟩
      refine hK.out _ _ hSd (fun hHeld => ?_)
      simp only [Act.put, List.setIfInBounds_toArray, List.set_cons_zero, List.set_cons_succ]
      refine tk 11 (.bool false) hHeld ?_
      simp only [Act.put, List.setIfInBounds_toArray, List.set_cons_zero, List.set_cons_succ]
      refine wpAnyH_done (by kernel_rfl) ?_ _
      rw [← HWD.out]
      clear hHeld hK hSd cx cy c1 c2 HCK
      go_wp2_with fail
      go_wp2_with fail
      refine H56.out.mono ?_
      rintro e w5 ⟨rfl, k5⟩
      obtain ⟨j1, ⟨i1, i2, ⟨us, i3, i4⟩, i5⟩, kd, hBs, hBlo, hglo⟩ := HJ.out
      have kk5 : Keeps (fun b => b = B) wr w5 := kd.trans' (k5.mono fun b _ hb => by simpa [Value.ownBlock] using hb)
      have hBw := i2 k (by omega) j1
      rw [← hBs] at hBw
      have hgB : g ≠ B := fun e => own_not_blk i3 (by rw [e]; rfl) hBw (by decide)
      have i3' := owns_kept i3 kk5 fun b hb h => by simp [Value.ownBlock] at hb; exact hgB (hb.trans h)
      obtain ⟨gb, lb, ea, hBk, hle⟩ := owns_blk i3' (by omega)
      injection ea with ea
      injection ea with ea _
      subst ea
      have cX := hBk.cell (List.getElem?_eq_getElem (show k < lb.length by omega))
      obtain ⟨z, hz⟩ : ∃ z, z = lb[k]'(by omega) := ⟨_, rfl⟩
      rw [← hz] at cX
      have fX := hBk.frozen k
      have c1 := Ch.cell_kept d1 k5 (by intro h; simp [Value.ownBlock] at h; have := HB.out.2.2.2.1; omega)
      have HN : Hid (k < N ∧ BI lo hi N n (k + 1) lls ls (some ⟨g, 0, none⟩) cl av cv Bs W3 (w5.setCell ⟨g, k, none⟩ (.slice none 0 0))) := by
        have kX : Keeps (fun b => b = g) w5 (w5.setCell ⟨g, k, none⟩ (.slice none 0 0)) := (Keeps.refl _ _).setCell _ _ fun _ => rfl
        have i5' := owns_kept i5 kk5 fun b hb h => by obtain rfl : b = B := h; exact own_not_blk i5 hb hBw (by decide)
        refine ⟨j1, (i1.trans kk5 fun b _ h => by rw [show b = B from h]; exact hBlo).trans kX fun b _ h => by rw [show b = g from h]; exact hglo, fun j hj hjN => ?_, ⟨_, owns_setV i3' k _ j1, fun j hj hjN => ?_⟩, owns_kept i5' kX fun b hb h => by obtain rfl : b = g := h; exact own_not_blk i5' hb hBk (by decide)⟩
        · have h1 := i2 j (by omega) hjN
          have h2 := h1.kept kk5 fun h => by have h' : Bs j = B := h; rw [hBs] at h'; exact HT.out.1.dis j k hjN j1 (by omega) h'
          exact h2.kept kX fun h => by have h' : Bs j = g := h; exact own_not_blk i3 rfl (by rw [← h']; exact h1) (by decide)
        · rw [List.getElem?_set, if_neg (by omega)]
          exact i4 j (by omega) hjN
      clear j1 i1 i2 i3 i4 i5 kd hBs hBlo hglo kk5 hBw hgB i3' hBk hle hz HJ d1 d2 k5 H56
      go_wp2
      go_roundw
      case rel => exact ⟨k + 1, by have := HN.out.1; omega, by go_num, HN.out.2⟩
      case measure => have := HN.out.1; simp [intOf]; omega
    · have hkz : ¬ (k : Int) < N := by omega
      have hkb : (k : Int) ≤ 2147483647 := by omega
      have HI : Hid (wr.ownsRow 0 64 3 (.slice av n cv) n (Tl.flatL (fillL ls (-9) 0)) ∧ Keeps (fun b => lo ≤ b ∧ b < hi) w wr ∧ wr.cell? ⟨b1, 18, none⟩ = some (.slice av n cv)) :=
        ⟨by simpa [fillL, marksL] using i5, (HS.out.2.2.2.2.2.2.2.2.1.mono fun _ _ h => h.elim).trans kw fun b _ h => h, Ch.cell_kept HB.out.2.1 kw (by intro h; have h' : lo ≤ b1 ∧ b1 < hi := h; have := HB.out.2.2.2.1; omega)⟩
      clear hk hlt i1 i2 i3 i4 i5 kw
      obtain ⟨wo, hwo⟩ : ∃ wo, wo = wr := ⟨_, rfl⟩
      subst hwo
      have cv18 := HI.out.2.2
      go_wp2
      clear cv18 cx
      go_loopw [6] (fun i wr => ∃ t : Nat, t ≤ n ∧ i = .int .i64 t ∧ wr.ownsRow 0 64 3 (.slice av n cv) n (Tl.flatL (fillL ls (-9) t)) ∧ Keeps (fun b => some b = (Value.slice av n cv).ownBlock) wo wr) (fun i _ => n - (intOf i).toNat)
      case atStart => exact ⟨0, by omega, rfl, HI.out.1, Keeps.refl _ _⟩
      case round =>
        obtain ⟨t, ht, rfl, hO, hK⟩ := hrel
        have c18 := Ch.cell_kept HI.out.2.2 hK (by intro h; have h' : some b1 = (Value.slice av n cv).ownBlock := h; have := HT.out.2.1 b1 h'.symm; have := HB.out.2.2.2.1; omega)
        by_cases hlt : t < n
        · obtain ⟨gv, rfl⟩ : ∃ gv, av = some ⟨gv, 0, none⟩ := by
            rcases hO.2 with ⟨e, e2⟩ | ⟨g, cap, cur, e, _⟩
            · omega
            · injection e with e1 _ _
              exact ⟨g, e1⟩
          obtain ⟨⟨z0, c0⟩, ⟨z1, c1⟩, ⟨z2, c2⟩, hf⟩ := row_cells hO hlt
          have f0 := hf (t * 3)
          have f1 := hf (t * 3 + 1)
          have f2 := hf (t * 3 + 2)
          have htz : (t : Int) < n := by omega
          have HE : Hid ((((wr.setCell ⟨gv, t * 3, none⟩ (.int .i64 (-9))).setCell ⟨gv, t * 3 + 1, none⟩ (.int .i64 0)).setCell ⟨gv, t * 3 + 2, none⟩ (.int .i64 0)).ownsRow 0 64 3 (.slice (some ⟨gv, 0, none⟩) n cv) n (Tl.flatL (fillL ls (-9) (t + 1))) ∧
              Keeps (fun b => some b = (Value.slice (some ⟨gv, 0, none⟩) n cv).ownBlock) wo (((wr.setCell ⟨gv, t * 3, none⟩ (.int .i64 (-9))).setCell ⟨gv, t * 3 + 1, none⟩ (.int .i64 0)).setCell ⟨gv, t * 3 + 2, none⟩ (.int .i64 0)) ∧ t < n) := by
            have h1 := owns_setLeaf hO (lm (-9)) hlt
            rw [fillL_set _ _ (by have := HS.out; omega)] at h1
            have hob : ∀ (a : Addr), a.block = gv → a.block < wo.heap.size → some a.block = (Value.slice (some ⟨gv, 0, none⟩) n cv).ownBlock := fun a ha _ => by rw [ha]; rfl
            have s1 := hK.setCell ⟨gv, t * 3, none⟩ (.int .i64 (-9)) (hob _ rfl)
            have s2 := s1.setCell ⟨gv, t * 3 + 1, none⟩ (.int .i64 0) (hob _ rfl)
            have s3 := s2.setCell ⟨gv, t * 3 + 2, none⟩ (.int .i64 0) (hob _ rfl)
            exact ⟨h1, s3, hlt⟩
          clear hO hK hf hlt ht
          go_wp2
          go_roundw
          case rel => exact ⟨t + 1, by have := HE.out.2.2; omega, by go_num, HE.out.1, HE.out.2.1⟩
          case measure => have := HE.out.2.2; simp [intOf]; omega
        · have htz : ¬ (t : Int) < n := by omega
          have htb : (t : Int) ≤ 2147483647 := by omega
          have HE : Hid (Keeps (fun k => lo ≤ k ∧ k < hi) w wr) := HI.out.2.1.trans hK fun b _ hb => HT.out.2.1 b hb.symm
          clear hO hK hlt ht
          go_wp2
          go_ret
          exact ⟨rfl, HE.out⟩

end Go.Proofs.YtipejahmjdamjaaGreatDoor
