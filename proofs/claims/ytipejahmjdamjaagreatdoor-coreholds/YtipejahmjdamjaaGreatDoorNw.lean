import Derived.Test.YtipejahmjdamjaaGreatDoorNs
namespace Go.Proofs.YtipejahmjdamjaaGreatDoor
open Go.RowKit Go.Shelf
set_option linter.unusedVariables false
set_option linter.unusedSimpArgs false
set_option maxRecDepth 20000

/-- The document's core behind Restore. -/
def RestR (w w' : World) (r : Nat) (rg : List UInt32) (pc : Nat) (lls : List (List Int)) (ls : List Tl.Lf) : Prop :=
  ∃ tr cr GT GC, RefAt w' r tr cr rg pc ls lls.flatten GT GC ∧ (∀ k, (GT k ∨ GC k) → w.heap.size ≤ k) ∧ Keeps (fun k => k = r) w w'

set_option maxHeartbeats 8000000 in
theorem restore_ref (r tr cr : Nat) (rg0 : List UInt32) (pc0 : Nat) (ls0 : List Tl.Lf) (us0 : List Int) (GT GC : Nat → Prop) (rg : List UInt32) (pc : Nat) (la : Option Addr) (lls : List (List Int)) (lc : Nat) (va : Option Addr) (ls : List Tl.Lf) (vc : Nat) (w : World) (h : RefAt w r tr cr rg0 pc0 ls0 us0 GT GC) (hl : rg.length = 16) (hp : pc < 4294967296)
    (hs : Ch.SegL w la lls) (hL : Tl.SegL w va ls) (hLc : ls.length ≤ vc ∧ vc ≤ maxLen) :
    Calls Tryz.prog 24 #[ptr r, .agg (heldL rg pc (.slice la lls.length lc) (.slice va ls.length vc)).toArray] w fun e w' =>
      (¬ (Ch.MayL lls ∧ Tl.heldB ls = true) ∧ e = .returned (.int .i64 100) ∧ Keeps (fun _ => False) w w') ∨ ((Ch.MayL lls ∧ Tl.heldB ls = true) ∧ e = .returned (.int .i64 0) ∧ RestR w w' r rg pc lls ls) := by
  obtain ⟨N, eN⟩ : ∃ N, N = lls.length := ⟨_, rfl⟩
  obtain ⟨n, en⟩ : ∃ n, n = ls.length := ⟨_, rfl⟩
  obtain ⟨VX, eVX⟩ : ∃ V, V = heldL rg pc (.slice la N lc) (.slice va n vc) := ⟨_, rfl⟩
  obtain ⟨W1, eW1⟩ : ∃ W, W = w.alloc (.cells VX.toArray 44) := ⟨_, rfl⟩
  obtain ⟨bh, ebh⟩ : ∃ b, b = w.heap.size := ⟨_, rfl⟩
  have kk : Keeps (fun _ => False) w W1 := by rw [eW1]; exact (Keeps.refl _ w).alloc _
  have hB1 : Blk W1 bh VX 44 := by rw [eW1, ebh]; have := Blk.new w VX.toArray 44; simpa using this
  have hsz : W1.heap.size = w.heap.size + 1 := by rw [eW1]; simp
  have hclt : r < w.heap.size := h.blk.lt
  have HNC : Hid (Calls _ _ _ _ _) := refNew_any W1
  have HW : Hid (W1 = w.alloc (.cells VX.toArray 44) ∧ bh = w.heap.size) := ⟨eW1, ebh⟩
  have HS : Hid (RefAt w r tr cr rg0 pc0 ls0 us0 GT GC ∧ rg.length = 16 ∧ pc < 4294967296 ∧ Ch.SegL w la lls ∧ Tl.SegL w va ls ∧ (ls.length ≤ vc ∧ vc ≤ maxLen) ∧ N = lls.length ∧ n = ls.length ∧ Keeps (fun _ => False) w W1 ∧ Blk W1 bh VX 44 ∧ VX = heldL rg pc (.slice la N lc) (.slice va n vc) ∧ W1.heap.size = w.heap.size + 1 ∧ bh = w.heap.size ∧ r < w.heap.size) := ⟨h, hl, hp, hs, hL, hLc, eN, en, kk, hB1, eVX, hsz, ebh, hclt⟩
  rw [← eN, ← en, ← eVX]
  clear h hl hp hs hL hLc eN en eVX eW1 ebh kk hB1 hsz hclt
  go_enter Tryz.func24, Tryz.ntmps24
  go_upto_region 1 with fail
  rw [← HW.out.1, ← HW.out.2]
  clear HW
  go_wp2_with fail
  refine HNC.out.mono ?_
  rintro e w2 ⟨c2, tb2, cb2, FT2, FC2, rfl, hC2, hlo2, k2⟩
  obtain ⟨s1, s2, s3, s4, s6, s7, s8, s9, s10, s11, s12, s13, s14, s15⟩ := HS.out
  obtain ⟨u2, hU2⟩ := hC2.ca
  have hB2 := s11.kept k2 fun h => h
  have hSr : (fun w' : World => Blk w' c2 (coreCells (List.replicate 16 0) 0 tb2 cb2) 98 ∧ Blk w' bh VX 44) w2.drew := ⟨hC2.blk.kept ((Keeps.refl (fun _ => False) w2).drew) fun h => h, hB2.kept ((Keeps.refl (fun _ => False) w2).drew) fun h => h⟩
  have kd : Keeps (fun _ => False) w2 w2.drew := (Keeps.refl (fun _ => False) w2).drew
  have k02 : Keeps (fun _ => False) w w2.drew := (s10.trans k2 fun _ _ h => h).trans kd fun _ _ h => h
  have HCN : Hid (¬ Ch.MayL lls → Calls Tryz.prog 53 #[ptr cb2, .slice la N lc] w2.drew fun r w' => r = .returned (.int .i64 71) ∧ w' = w2.drew) := fun hm => by rw [s8]; exact Ch.restoreR_not cb2 la lls lc w2.drew (s4.kept k02) hm
  have HCY : Hid (Ch.MayL lls → Calls Tryz.prog 53 #[ptr cb2, .slice la N lc] w2.drew fun r w' => r = .returned (.int .i64 0) ∧ Ch.NowR w2.drew w' cb2 lls.flatten FC2) := fun hm => by rw [s8]; exact Ch.restoreR_may cb2 [] u2 FC2 la lls lc w2.drew (hU2.kept kd fun _ _ h => h) (s4.kept k02) hm
  have HK2 : Hid (RefAt w2 c2 tb2 cb2 (List.replicate 16 0) 0 [] [] FT2 FC2 ∧ (∀ k, (k = c2 ∨ FT2 k ∨ FC2 k) → W1.heap.size ≤ k) ∧ Keeps (fun _ => False) w w2.drew ∧ Keeps (fun _ => False) w2 w2.drew ∧ Keeps (fun _ => False) W1 w2) := ⟨hC2, hlo2, k02, kd, k2⟩
  have hg17 : ∀ w' : World, Blk w' c2 (coreCells (List.replicate 16 0) 0 tb2 cb2) 98 → w'.cell? ⟨c2, 17, none⟩ = some (ptr tb2) ∧ w'.cell? ⟨c2, 18, none⟩ = some (ptr cb2) := fun w' hb => ⟨hb.cell rfl, hb.cell rfl⟩
  have hx17 : ∀ w' : World, Blk w' bh VX 44 → w'.cell? ⟨bh, 17, none⟩ = some (.slice la N lc) ∧ w'.cell? ⟨bh, 18, none⟩ = some (.slice va n vc) := fun w' hb => ⟨hb.cell (by rw [s12]; exact (heldL_get rg pc _ _ s2).1), hb.cell (by rw [s12]; exact (heldL_get rg pc _ _ s2).2)⟩
  have HG : Hid ((∀ w' : World, Blk w' c2 (coreCells (List.replicate 16 0) 0 tb2 cb2) 98 → w'.cell? ⟨c2, 17, none⟩ = some (ptr tb2) ∧ w'.cell? ⟨c2, 18, none⟩ = some (ptr cb2)) ∧ (∀ w' : World, Blk w' bh VX 44 → w'.cell? ⟨bh, 17, none⟩ = some (.slice la N lc) ∧ w'.cell? ⟨bh, 18, none⟩ = some (.slice va n vc))) := ⟨hg17, hx17⟩
  clear s1 s2 s3 s4 s6 s7 s8 s9 s10 s11 s12 s13 s14 s15 hB2 kd k02 hC2 hlo2 k2 hg17 hx17 HNC hU2
  go_upto_region 2 with fail
  refine wp_region_held_drew (S := (fun w' : World => Blk w' c2 (coreCells (List.replicate 16 0) 0 tb2 cb2) 98 ∧ Blk w' bh VX 44)) (by kernel_rfl) hSr (fun hHeld => ?_)
  simp only [List.size_toArray, List.length_cons, List.length_nil, Nat.reduceAdd, Array.replicate_succ, Array.replicate_zero, List.push_toArray, List.append_toArray, List.nil_append, List.cons_append]
  refine tk 0 (ptr c2) hHeld ?_
  simp only [Act.put, List.setIfInBounds_toArray, List.set_cons_zero, List.set_cons_succ]
  refine tk 1 (ptr c2) hHeld ?_
  simp only [Act.put, List.setIfInBounds_toArray, List.set_cons_zero, List.set_cons_succ]
  refine tk 2 (.pointer (some ⟨c2, 18, none⟩)) hHeld ?_
  simp only [Act.put, List.setIfInBounds_toArray, List.set_cons_zero, List.set_cons_succ]
  refine tk 3 (ptr cb2) hHeld ?_ (hr := by
    intro w' hSw
    have hq := (HG.out.1 w' hSw.1).2
    go_simp)
  simp only [Act.put, List.setIfInBounds_toArray, List.set_cons_zero, List.set_cons_succ]
  refine tk 4 (.pointer (some ⟨bh, 17, none⟩)) hHeld ?_
  simp only [Act.put, List.setIfInBounds_toArray, List.set_cons_zero, List.set_cons_succ]
  refine tk 5 (.slice la N lc) hHeld ?_ (hr := by
    intro w' hSw
    have hq := (HG.out.2 w' hSw.2).1
    go_simp)
  simp only [Act.put, List.setIfInBounds_toArray, List.set_cons_zero, List.set_cons_succ]
  refine wpAnyH_ready (rs := [6]) (by kernel_rfl) (by simp) ?_
  refine AllReadyH.cons rfl (fun Kq hK => ?_) AllReadyH.nil
  go_simp
  by_cases hm : Ch.MayL lls
  case neg =>
    refine (HCN.out hm).mono ?_
    rintro e w3 ⟨rfl, rfl⟩
    refine hK.out _ _ hSr (fun hHeld => ?_)
    simp only [Act.put, List.setIfInBounds_toArray, List.set_cons_zero, List.set_cons_succ]
    refine tk 7 (.bool true) hHeld ?_
    simp only [Act.put, List.setIfInBounds_toArray, List.set_cons_zero, List.set_cons_succ]
    refine tk 8 (.bool true) hHeld ?_
    simp only [Act.put, List.setIfInBounds_toArray, List.set_cons_zero, List.set_cons_succ]
    refine tn 9 hHeld ?_
    simp only [Act.put, List.setIfInBounds_toArray, List.set_cons_zero, List.set_cons_succ]
    refine tn 10 hHeld ?_
    simp only [Act.put, List.setIfInBounds_toArray, List.set_cons_zero, List.set_cons_succ]
    refine tn 11 hHeld ?_
    simp only [Act.put, List.setIfInBounds_toArray, List.set_cons_zero, List.set_cons_succ]
    refine tn 12 hHeld ?_
    simp only [Act.put, List.setIfInBounds_toArray, List.set_cons_zero, List.set_cons_succ]
    refine tn 13 hHeld ?_
    simp only [Act.put, List.setIfInBounds_toArray, List.set_cons_zero, List.set_cons_succ]
    refine tn 14 hHeld ?_
    simp only [Act.put, List.setIfInBounds_toArray, List.set_cons_zero, List.set_cons_succ]
    refine tn 15 hHeld ?_
    simp only [Act.put, List.setIfInBounds_toArray, List.set_cons_zero, List.set_cons_succ]
    refine tn 16 hHeld ?_
    simp only [Act.put, List.setIfInBounds_toArray, List.set_cons_zero, List.set_cons_succ]
    refine tk 17 (.bool true) hHeld ?_
    simp only [Act.put, List.setIfInBounds_toArray, List.set_cons_zero, List.set_cons_succ]
    refine wpAnyH_done (by kernel_rfl) ?_ _
    have HE : Hid (¬ (Ch.MayL lls ∧ Tl.heldB ls = true) ∧ Keeps (fun _ => False) w w2.drew) := ⟨fun h => hm h.1, HK2.out.2.2.1⟩
    clear hHeld hK hSr hm HCN HCY
    go_wp2
    go_ret
    exact .inl ⟨HE.out.1, rfl, HE.out.2⟩
  case pos =>
    refine (HCY.out hm).mono ?_
    rintro e w3 ⟨rfl, ⟨u3, FC3, hCa3, hF3⟩, k3⟩
    obtain ⟨q1, q2, q3, q4, q5⟩ := HK2.out
    obtain ⟨s1, s2, s3, s4, s6, s7, s8, s9, s10, s11, s12, s13, s14, s15⟩ := HS.out
    have hS3 : (fun w' : World => Blk w' c2 (coreCells (List.replicate 16 0) 0 tb2 cb2) 98 ∧ Blk w' bh VX 44) w3 := ⟨hSr.1.kept k3 fun hb => q1.gc _ hb rfl, hSr.2.kept k3 fun hb => by have := q2 _ (.inr (.inr hb)); omega⟩
    have kw3 : Keeps (fun _ => False) w w3 := q3.trans k3 fun b hb h => by have := q2 b (.inr (.inr h)); omega
    have hT3 : Tl.Rf w3 tb2 [] FT2 := (q1.tl.kept q4 fun _ _ h => h).kept k3 fun b hb => (q1.gt b hb).2
    have HTT : Hid (Calls _ _ _ _ _) := Tl.restoreR_any tb2 [] FT2 va ls vc w3 hT3 s7 (s6.kept kw3 fun _ _ h => h)
    rw [← s9] at HTT
    have HK3 : Hid (Ch.Rc w3 cb2 lls.flatten u3 FC3 ∧ (∀ b, FC3 b → FC2 b ∨ w2.heap.size ≤ b) ∧ Keeps (fun _ => False) w w3 ∧ Keeps FC2 w2.drew w3 ∧ Ch.MayL lls) := ⟨hCa3, hF3, kw3, k3, hm⟩
    clear hCa3 hF3 k3 q1 q2 q3 q4 q5 s1 s2 s3 s4 s6 s7 s8 s9 s10 s11 s12 s13 s14 s15 hm kw3 hT3 HCN HCY hSr
    refine hK.out _ _ hS3 (fun hHeld => ?_)
    simp only [Act.put, List.setIfInBounds_toArray, List.set_cons_zero, List.set_cons_succ]
    refine tk 7 (.bool false) hHeld ?_
    simp only [Act.put, List.setIfInBounds_toArray, List.set_cons_zero, List.set_cons_succ]
    refine tk 8 (.bool false) hHeld ?_
    simp only [Act.put, List.setIfInBounds_toArray, List.set_cons_zero, List.set_cons_succ]
    refine tk 9 (ptr c2) hHeld ?_
    simp only [Act.put, List.setIfInBounds_toArray, List.set_cons_zero, List.set_cons_succ]
    refine tk 10 (ptr c2) hHeld ?_
    simp only [Act.put, List.setIfInBounds_toArray, List.set_cons_zero, List.set_cons_succ]
    refine tk 11 (.pointer (some ⟨c2, 17, none⟩)) hHeld ?_
    simp only [Act.put, List.setIfInBounds_toArray, List.set_cons_zero, List.set_cons_succ]
    refine tk 12 (ptr tb2) hHeld ?_ (hr := by
      intro w' hSw
      have hq := (HG.out.1 w' hSw.1).1
      go_simp)
    simp only [Act.put, List.setIfInBounds_toArray, List.set_cons_zero, List.set_cons_succ]
    refine tk 13 (.pointer (some ⟨bh, 18, none⟩)) hHeld ?_
    simp only [Act.put, List.setIfInBounds_toArray, List.set_cons_zero, List.set_cons_succ]
    refine tk 14 (.slice va n vc) hHeld ?_ (hr := by
      intro w' hSw
      have hq := (HG.out.2 w' hSw.2).2
      go_simp)
    simp only [Act.put, List.setIfInBounds_toArray, List.set_cons_zero, List.set_cons_succ]
    refine wpAnyH_ready (rs := [15]) (by kernel_rfl) (by simp) ?_
    refine AllReadyH.cons rfl (fun Kq hK => ?_) AllReadyH.nil
    go_simp
    refine HTT.out.mono ?_
    rintro e w4 hR
    have hcc : ∃ m : Int, e = .returned (.int .i64 m) ∧ ((Tl.heldB ls = false ∧ m = 81 ∧ Tl.NowR w3 w4 tb2 [] FT2) ∨ (Tl.heldB ls = true ∧ m = 0 ∧ Tl.NowR w3 w4 tb2 ls FT2)) := by
      rcases hR with ⟨h1, h2, h3⟩ | ⟨h1, h2, h3⟩
      · exact ⟨81, h2, .inl ⟨h1, rfl, h3⟩⟩
      · exact ⟨0, h2, .inr ⟨h1, rfl, h3⟩⟩
    clear hR
    obtain ⟨m, rfl, hcc⟩ := hcc
    obtain ⟨q1, q2, q3, q4, q5⟩ := HK2.out
    obtain ⟨s1, s2, s3, s4, s6, s7, s8, s9, s10, s11, s12, s13, s14, s15⟩ := HS.out
    have k4 : Keeps FT2 w3 w4 := by rcases hcc with ⟨_, _, h⟩ | ⟨_, _, h⟩ <;> exact h.2
    have hS4 : (fun w' : World => Blk w' c2 (coreCells (List.replicate 16 0) 0 tb2 cb2) 98 ∧ Blk w' bh VX 44) w4 := ⟨hS3.1.kept k4 fun hb => (q1.gt _ hb).1 rfl, hS3.2.kept k4 fun hb => by have := q2 _ (.inr (.inl hb)); omega⟩
    have kw4 : Keeps (fun _ => False) w w4 := HK3.out.2.2.1.trans k4 fun b hb h => by have := q2 b (.inr (.inl h)); omega
    have HW4 : Hid (Keeps (fun _ => False) w w4 ∧ Keeps FT2 w3 w4) := ⟨kw4, k4⟩
    clear k4 kw4 q1 q2 q3 q4 q5 s1 s2 s3 s4 s6 s7 s8 s9 s10 s11 s12 s13 s14 s15 HTT
    rcases hcc with ⟨hno, rfl, hnt⟩ | ⟨hyes, rfl, hnt⟩
    · refine hK.out _ _ hS4 (fun hHeld => ?_)
      simp only [Act.put, List.setIfInBounds_toArray, List.set_cons_zero, List.set_cons_succ]
      refine tk 16 (.bool true) hHeld ?_
      simp only [Act.put, List.setIfInBounds_toArray, List.set_cons_zero, List.set_cons_succ]
      refine tk 17 (.bool true) hHeld ?_
      simp only [Act.put, List.setIfInBounds_toArray, List.set_cons_zero, List.set_cons_succ]
      refine wpAnyH_done (by kernel_rfl) ?_ _
      have HE : Hid (¬ (Ch.MayL lls ∧ Tl.heldB ls = true) ∧ Keeps (fun _ => False) w w4) := ⟨fun h => by rw [hno] at h; exact absurd h.2 (by decide), HW4.out.1⟩
      clear hHeld hK hS3 hS4 hno hnt
      go_wp2
      go_ret
      exact .inl ⟨HE.out.1, rfl, HE.out.2⟩
    · refine hK.out _ _ hS4 (fun hHeld => ?_)
      simp only [Act.put, List.setIfInBounds_toArray, List.set_cons_zero, List.set_cons_succ]
      refine tk 16 (.bool false) hHeld ?_
      simp only [Act.put, List.setIfInBounds_toArray, List.set_cons_zero, List.set_cons_succ]
      refine tk 17 (.bool false) hHeld ?_
      simp only [Act.put, List.setIfInBounds_toArray, List.set_cons_zero, List.set_cons_succ]
      refine wpAnyH_done (by kernel_rfl) ?_ _
      obtain ⟨⟨FT4, hT4, hF4⟩, _⟩ := hnt
      obtain ⟨q1, q2, q3, q4, q5⟩ := HK2.out
      obtain ⟨p1, p2, p3, p4, p5⟩ := HK3.out
      obtain ⟨s1, s2, s3, s4, s6, s7, s8, s9, s10, s11, s12, s13, s14, s15⟩ := HS.out
      have z12 := q5.size
      have z23 : w2.heap.size ≤ w3.heap.size := p4.size
      have z34 := HW4.out.2.size
      have lT2 := q1.tl.lt
      have lC3 := p1.lt
      have hlo4 : ∀ k, (FT4 k ∨ FC3 k) → w.heap.size < k := by
        rintro k (h | h)
        · rcases hF4 k h with h2 | h2
          · have := q2 k (.inr (.inl h2)); omega
          · omega
        · rcases p2 k h with h2 | h2
          · have := q2 k (.inr (.inr h2)); omega
          · omega
      have hap : ∀ k, FT4 k → ¬ FC3 k := by
        intro k hk hk2
        rcases hF4 k hk with h | h
        · rcases p2 k hk2 with h2 | h2
          · exact (q1.gt k h).2 h2
          · have := lT2 k h; omega
        · have := lC3 k hk2; omega
      have hCa4 : Ch.Rc w4 cb2 lls.flatten u3 FC3 := p1.kept HW4.out.2 fun b hb hb2 => by
        rcases p2 b hb with h | h
        · exact (q1.gt b hb2).2 h
        · have := lT2 b hb2; omega
      have hc2lo : w.heap.size < c2 := by have := q2 c2 (.inl rfl); omega
      have HRx : Hid (w4.rangeAt bh 0 (ctx rg pc) ∧ (Tryz.prog.info? 40).map (·.size) = some (ctx rg pc).length) := ⟨fun j v hv => by rw [Nat.zero_add]; exact hS4.2.cell (by rw [s12]; exact heldL_ctx rg pc _ _ hv), info40 s2 pc⟩
      have hBr := s1.blk.kept HW4.out.1 fun h => h
      have lc17 : (ctx rg pc).length = 17 := ctx_len s2 pc
      have lo17 : (ctx rg0 pc0).length = 17 := ctx_len s1.len pc0
      have hBr2 : Blk w4 r ([] ++ (ctx rg0 pc0 ++ [ptr tr, ptr cr])) 98 := by simpa [coreCells] using hBr
      have HTh : Hid (w4.there r 0 (ctx rg pc).toArray.size ∧ (Tryz.prog.info? 40).map (·.size) = some (ctx rg pc).toArray.size ∧ (ctx rg pc).toArray.all (·.oneCell') = true) := by
        refine ⟨fun j hj => ⟨?_, hBr.frozen _⟩, by rw [List.size_toArray]; exact info40 s2 pc, all_oneCell_toArray (ctx_one _ _)⟩
        have hj' : j < 17 := by simpa [lc17] using hj
        rw [hBr.cell (List.getElem?_eq_getElem (by rw [(cs17 rg0 pc0 tr cr s1.len).2.2.2]; omega))]
        rfl
      have hks := keeps_setCells r (ctx rg pc).toArray.toList 0 w4
      have hB5 := blk_setCells (b := r) (t := 98) (ctx rg pc) (ctx rg0 pc0) [] [ptr tr, ptr cr] w4 hBr2 (by rw [lc17, lo17])
      obtain ⟨W5, hW5⟩ : ∃ W5, W5 = w4.setCells r 0 (ctx rg pc).toArray.toList := ⟨_, rfl⟩
      have HW5 : Hid (W5 = w4.setCells r 0 (ctx rg pc).toArray.toList) := hW5
      have hB5' : Blk W5 r (coreCells rg pc tr cr) 98 := by rw [hW5]; simpa [coreCells] using hB5
      rw [← hW5] at hks
      have t1 := hB5'.cell (cs17 rg pc tr cr s2).1
      have t2 := hB5'.cell (cs17 rg pc tr cr s2).2.1
      have f1 := hB5'.frozen 17
      have f2 := hB5'.frozen 18
      have hcr : ¬ c2 = r := by omega
      have hBc5 := hS4.1.kept hks hcr
      have u1 := (HG.out.1 W5 hBc5).1
      have hBc6 : Blk (W5.setCell ⟨r, 17, none⟩ (ptr tb2)) c2 (coreCells (List.replicate 16 0) 0 tb2 cb2) 98 := hBc5.setCell_ne hcr _
      have u2' := (HG.out.1 _ hBc6).2
      have HE : Hid (RestR w ((W5.setCell ⟨r, 17, none⟩ (ptr tb2)).setCell ⟨r, 18, none⟩ (ptr cb2)) r rg pc lls ls ∧ hyes_ ls lls) := by
        have k6 : Keeps (fun k => k = r) W5 (W5.setCell ⟨r, 17, none⟩ (ptr tb2)) := (Keeps.refl _ _).setCell _ _ fun _ => rfl
        have k7 : Keeps (fun k => k = r) (W5.setCell ⟨r, 17, none⟩ (ptr tb2)) ((W5.setCell ⟨r, 17, none⟩ (ptr tb2)).setCell ⟨r, 18, none⟩ (ptr cb2)) := (Keeps.refl _ _).setCell _ _ fun _ => rfl
        have k47 : Keeps (fun k => k = r) w4 ((W5.setCell ⟨r, 17, none⟩ (ptr tb2)).setCell ⟨r, 18, none⟩ (ptr cb2)) := (hks.trans k6 fun b _ h => h).trans k7 fun b _ h => h
        have hb7 := (hB5'.setCell 17 (ptr tb2)).setCell 18 (ptr cb2)
        have e7 : ((coreCells rg pc tr cr).set 17 (ptr tb2)).set 18 (ptr cb2) = coreCells rg pc tb2 cb2 := by
          obtain ⟨r0, r1, r2, r3, r4, r5, r6, r7, r8, r9, r10, r11, r12, r13, r14, r15, rfl⟩ := sixteen s2
          rfl
        rw [e7] at hb7
        refine ⟨⟨tb2, cb2, FT4, FC3, ⟨hb7, s2, hT4.kept k47 fun b hb h => ?_, ⟨u3, hCa4.kept k47 fun b hb h => ?_⟩, (rel_may p5).pos, fun k hk => ⟨fun e => ?_, hap k hk⟩, fun k hk e => ?_, s3⟩, fun k hk => by have := hlo4 k hk; omega, (HW4.out.1.mono fun _ _ h => h.elim).trans k47 fun b _ h => h⟩, p5, hyes⟩
        · have := hlo4 b (.inl hb); have h' : b = r := h; omega
        · have := hlo4 b (.inr hb); have h' : b = r := h; omega
        · have := hlo4 k (.inl hk); omega
        · have := hlo4 k (.inr hk); omega
      clear hHeld hK hS3 hS4 hT4 hF4 q1 q2 q3 q4 q5 p1 p2 p3 p4 p5 s1 s2 s3 s4 s6 s7 s8 s9 s10 s11 s12 s13 s14 s15 z12 z23 z34 lT2 lC3 hlo4 hap hCa4 hc2lo hyes HK3 HK2 HG hBr hBr2 lc17 lo17 hks hB5 hB5' hW5 hcr hBc5 hBc6
      go_wp2_with (refine wpList_load_mid rfl 40 (.tmp 26) rfl bh 0 rfl (ctx rg pc) _ HRx.out.1 Tryz.underlying40 rfl HRx.out.2 ?_; refine Hid.out ?_)
      unfold Hid
      clear HRx
      go_wp2_with (refine wpList_store_mid rfl 40 (.tmp 29) (.tmp 27) rfl r 0 (ctx rg pc).toArray rfl rfl HTh.out.1 HTh.out.2.1 HTh.out.2.2 ?_; refine Hid.out ?_)
      unfold Hid
      rw [← HW5.out]
      go_wp2
      go_ret
      exact .inr ⟨HE.out.2, rfl, HE.out.1⟩

end Go.Proofs.YtipejahmjdamjaaGreatDoor
namespace Go.Proofs.YtipejahmjdamjaaGreatDoor
open Go.RowKit Go.Shelf
set_option linter.unusedVariables false
set_option linter.unusedSimpArgs false
set_option maxRecDepth 20000

theorem flush_nil (w : World) : Calls Tryz.prog 28 #[.pointer none] w fun e w' => e = .returned (.tuple #[]) ∧ w' = w := by
  go_enter Tryz.func28, Tryz.ntmps28
  go_wp2
  refine bodyPost_ret (results_none rfl _ _ _) rfl ?_
  exact ⟨rfl, rfl⟩
theorem set_nil (cs : Array Value) (w : World) : Calls Tryz.prog 27 #[.pointer none, .agg cs] w fun e w' => e = .returned (.tuple #[]) ∧ Keeps (fun _ => False) w w' := by
  go_enter Tryz.func27, Tryz.ntmps27
  go_wp2
  refine bodyPost_ret (results_none rfl _ _ _) rfl ?_
  exact ⟨rfl, (Keeps.refl _ w).alloc _⟩
theorem restore_nil (cs : Array Value) (w : World) : Calls Tryz.prog 23 #[.pointer none, .agg cs] w fun e w' => e = .returned (.int .i64 3) ∧ Keeps (fun _ => False) w w' := by
  go_enter Tryz.func23, Tryz.ntmps23
  go_wp2
  go_ret
  exact ⟨rfl, (Keeps.refl _ w).alloc _⟩
theorem act_run (w : World) : (loadVar 58 ⟨w.heap.size, 0, none⟩).run Tryz.prog (w.alloc (.cells #[.int .i64 0, .int .i64 0, .int .i64 0, .int .u32 0, .int .u32 0, .bool false, .int .u32 0, .int .u32 0] 58)) = .ok (.agg #[.int .i64 0, .int .i64 0, .int .i64 0, .int .u32 0, .int .u32 0, .bool false, .int .u32 0, .int .u32 0]) (w.alloc (.cells #[.int .i64 0, .int .i64 0, .int .i64 0, .int .u32 0, .int .u32 0, .bool false, .int .u32 0, .int .u32 0] 58)) :=
  load_act (l := [.int .i64 0, .int .i64 0, .int .i64 0, .int .u32 0, .int .u32 0, .bool false, .int .u32 0, .int .u32 0]) (Blk.new w _ 58) rfl
theorem step_nil (w : World) : Calls Tryz.prog 26 #[.pointer none, .pointer none, .int .i64 0, .int .u32 0] w fun e w' => e = .returned (.tuple #[.agg #[.int .i64 0, .int .i64 0, .int .i64 0, .int .u32 0, .int .u32 0, .bool false, .int .u32 0, .int .u32 0], .int .i64 3]) ∧ Keeps (fun _ => False) w w' := by
  go_enter Tryz.func26, Tryz.ntmps26
  go_wp2
  refine bodyPost_ret (results_cell_tmp (p := 8) (u := 9) (ty := 58) rfl _ _ ⟨w.heap.size, 0, none⟩ _ rfl (act_run w)) rfl ?_
  exact ⟨rfl, (Keeps.refl _ w).alloc _⟩
theorem ctx0 : ctx (List.replicate 16 0) 0 = [.int .u32 0, .int .u32 0, .int .u32 0, .int .u32 0, .int .u32 0, .int .u32 0, .int .u32 0, .int .u32 0, .int .u32 0, .int .u32 0, .int .u32 0, .int .u32 0, .int .u32 0, .int .u32 0, .int .u32 0, .int .u32 0, .int .u32 0] := rfl
def c0 : List Value := ctx (List.replicate 16 0) 0
theorem context_nil (w : World) : Calls Tryz.prog 19 #[.pointer none] w fun e w' => e = .returned (.agg c0.toArray) ∧ Keeps (fun _ => False) w w' := by
  have HB : Hid (Blk (w.alloc (.cells #[.int .u32 0, .int .u32 0, .int .u32 0, .int .u32 0, .int .u32 0, .int .u32 0, .int .u32 0, .int .u32 0, .int .u32 0, .int .u32 0, .int .u32 0, .int .u32 0, .int .u32 0, .int .u32 0, .int .u32 0, .int .u32 0, .int .u32 0] 40)) w.heap.size (ctx (List.replicate 16 0) 0) 40) := Blk.new w _ 40
  go_enter Tryz.func19, Tryz.ntmps19
  go_wp2
  refine bodyPost_ret (results_cell_one (p := 2) (ty := 40) rfl _ _ ⟨w.heap.size, 0, none⟩ _ rfl (load_blk HB.out 40 _ Tryz.underlying40 rfl (info40 rfl 0))) rfl ?_
  exact ⟨rfl, (Keeps.refl _ w).alloc _⟩
theorem heldZ_eq : heldL (List.replicate 16 0) 0 (.slice none 0 0) (.slice none 0 0) = heldZ := rfl
theorem built44e : Tryz.prog.built 44 [] = some heldZ.toArray := by kernel_rfl
set_option maxHeartbeats 400000 in
theorem held_nil (w : World) : Calls Tryz.prog 30 #[.pointer none] w fun e w' => e = .returned (.agg heldZ.toArray) ∧ Keeps (fun _ => False) w w' := by
  obtain ⟨V, eV⟩ : ∃ V, V = heldZ := ⟨_, rfl⟩
  have lV : V.length = 19 := by rw [eV]; rfl
  have p1 := put_held w V lV (by rw [eV]; exact heldL_oneg (List.replicate 16 0) 0 none none 0 0 0 0)
  obtain ⟨W', hW⟩ : ∃ w2, w2 = (w.alloc (.cells heldZ.toArray 44)).setCells w.heap.size 0 V.toArray.toList := ⟨_, rfl⟩
  rw [← hW] at p1
  have HP : Hid ((w.alloc (.cells heldZ.toArray 44)).there w.heap.size 0 V.toArray.size ∧ (Tryz.prog.info? 44).map (·.size) = some V.toArray.size ∧ V.toArray.all (·.oneCell') = true) := p1.1
  have HW : Hid (W' = (w.alloc (.cells heldZ.toArray 44)).setCells w.heap.size 0 V.toArray.toList) := hW
  have HE : Hid (Blk W' w.heap.size V 44 ∧ Keeps (fun _ => False) w W' ∧ V.length = 19) := ⟨p1.2.1, p1.2.2.1, lV⟩
  have HBu : Hid (Tryz.prog.built 44 [] = some V.toArray) := by rw [eV]; exact built44e
  rw [← eV]
  clear p1 hW lV eV
  simp only [heldZ] at HP HW
  go_enter Tryz.func30, Tryz.ntmps30
  go_upto_region 2 with fail
  go_wp2_with (refine wpList_build_to rfl 44 #[] rfl V.toArray (by go_simp; exact HBu.out) ?_; refine Hid.out ?_)
  unfold Hid
  go_wp2_with (refine wpList_store_mid rfl 44 (.tmp 2) (.tmp 5) rfl w.heap.size 0 V.toArray rfl rfl HP.out.1 HP.out.2.1 HP.out.2.2 ?_; refine Hid.out ?_)
  unfold Hid
  rw [← HW.out]
  go_wp2
  refine bodyPost_ret (results_cell_one (p := 2) (ty := 44) rfl _ _ ⟨w.heap.size, 0, none⟩ _ rfl (load_blk HE.out.1 44 _ Tryz.underlying44 rfl (info44 HE.out.2.2))) rfl ?_
  exact ⟨rfl, HE.out.2.1⟩

end Go.Proofs.YtipejahmjdamjaaGreatDoor
namespace Go.Proofs.YtipejahmjdamjaaGreatDoor
open Go.RowKit Go.Shelf
set_option linter.unusedVariables false
set_option linter.unusedSimpArgs false
set_option maxRecDepth 20000

def BeyP (lls : List (List Int)) (ls : List Tl.Lf) (r : Ending) : Prop := ∃ b : Bool, r = .returned (.bool b) ∧ (b = false → lls.length ≤ 2147483647 ∧ ls.length ≤ 2147483647 ∧ ∀ (j : Nat) (l : List Int), lls[j]? = some l → l.length ≤ 2147483647)
theorem one_tot {lls : List (List Int)} {j : Nat} {l : List Int} (h : lls[j]? = some l) : l.length ≤ Ch.tot lls lls.length := Ch.tot_one h

set_option maxHeartbeats 1000000 in
theorem beyond_any (rg : List UInt32) (pc : Nat) (la : Option Addr) (lls : List (List Int)) (lc : Nat) (va : Option Addr) (ls : List Tl.Lf) (vc : Nat) (w : World) (hl : rg.length = 16) (hs : Ch.SegL w la lls) (hN : lls.length ≤ 35184372088832) (hlen : ∀ (j : Nat) (l : List Int), lls[j]? = some l → l.length ≤ 35184372088832) (hLn : ls.length ≤ 35184372088832) :
    Calls Tryz.prog 13 #[.agg (heldL rg pc (.slice la lls.length lc) (.slice va ls.length vc)).toArray] w fun e w' => BeyP lls ls e ∧ Keeps (fun _ => False) w w' := by
  obtain ⟨N, eN⟩ : ∃ N, N = lls.length := ⟨_, rfl⟩
  obtain ⟨n, en⟩ : ∃ n, n = ls.length := ⟨_, rfl⟩
  obtain ⟨VX, eVX⟩ : ∃ V, V = heldL rg pc (.slice la N lc) (.slice va n vc) := ⟨_, rfl⟩
  obtain ⟨W1, eW1⟩ : ∃ W, W = w.alloc (.cells VX.toArray 44) := ⟨_, rfl⟩
  obtain ⟨b1, eb1⟩ : ∃ b, b = w.heap.size := ⟨_, rfl⟩
  rw [← eN, ← en, ← eVX]
  have kk : Keeps (fun _ => False) w W1 := by rw [eW1]; exact (Keeps.refl _ w).alloc _
  have hB1 : Blk W1 b1 VX 44 := by rw [eW1, eb1]; have := Blk.new w VX.toArray 44; simpa using this
  have HS : Hid (Ch.SegL W1 la lls ∧ N = lls.length ∧ n = ls.length ∧ Keeps (fun _ => False) w W1 ∧ (∀ (j : Nat) (l : List Int), lls[j]? = some l → l.length ≤ 35184372088832) ∧ N ≤ 35184372088832 ∧ n ≤ 35184372088832) := ⟨hs.kept kk, eN, en, kk, hlen, by omega, by omega⟩
  have c17 : W1.cell? ⟨b1, 17, none⟩ = some (.slice la N lc) := hB1.cell (by rw [eVX]; exact (heldL_get rg pc _ _ hl).1)
  have c18 : W1.cell? ⟨b1, 18, none⟩ = some (.slice va n vc) := hB1.cell (by rw [eVX]; exact (heldL_get rg pc _ _ hl).2)
  have HW : Hid (W1 = w.alloc (.cells VX.toArray 44) ∧ b1 = w.heap.size) := ⟨eW1, eb1⟩
  obtain ⟨m0, em0⟩ : ∃ m0, m0 = n + N := ⟨_, rfl⟩
  have hwm : IntKind.i64.wrap ((n : Int) + (N : Int)) = (m0 : Int) := by rw [IntKind.wrap_i64]; omega
  have HM : Hid (m0 = n + N) := em0
  have hNz : (N : Int) ≤ 35184372088832 := by omega
  clear hl hs hN hlen hLn eN en eVX eW1 eb1 kk hB1 em0
  go_enter Tryz.func13, Tryz.ntmps13
  go_upto_region 1 with fail
  rw [← HW.out.1, ← HW.out.2]
  clear HW
  go_wp2
  clear c18
  go_loopw [3, 4] (fun s i wr => ∃ (j m : Nat), j ≤ N ∧ i = .int .i64 j ∧ s = .int .i64 m ∧ m = n + N + Ch.tot lls j ∧ wr = W1 ∧ m ≤ 105553116266496) (fun _ i _ => N - (intOf i).toNat)
  case atStart => exact ⟨0, m0, by omega, rfl, rfl, by rw [HM.out]; simp [Ch.tot], rfl, by have := HM.out; have := HS.out; omega⟩
  case round =>
    obtain ⟨j, m, hj, rfl, rfl, hm, rfl, hmb⟩ := hrel
    have hmz : (m : Int) ≤ 105553116266496 := by omega
    by_cases hlt : j < N
    · have hjz : (j : Int) < N := by omega
      by_cases hmost : m ≤ 2147483647
      · have hmo : (m : Int) ≤ 2147483647 := by omega
        obtain ⟨l, hll⟩ : ∃ l, lls[j]? = some l := ⟨_, List.getElem?_eq_getElem (by have := HS.out.2.1; omega)⟩
        rcases HS.out.1 with h0 | ⟨g, o, rfl, hc⟩
        · rw [h0] at hll; simp at hll
        obtain ⟨x, c, cu, _, _, _⟩ := hc j l hll
        have hlb := HS.out.2.2.2.2.1 j l hll
        obtain ⟨q, hq⟩ : ∃ q, q = l.length := ⟨_, rfl⟩
        rw [← hq] at cu
        obtain ⟨m', em'⟩ : ∃ m', m' = m + q := ⟨_, rfl⟩
        have hw2 : IntKind.i64.wrap ((m : Int) + (q : Int)) = (m' : Int) := by rw [IntKind.wrap_i64]; omega
        have HE : Hid (j < N ∧ m' = n + N + Ch.tot lls (j + 1) ∧ m' ≤ 105553116266496) := ⟨hlt, by rw [Ch.tot_succ hll, em', hm, hq]; omega, by omega⟩
        clear hj hlt hm hmb hmost hll hc hlb hq em'
        go_wp2
        go_roundw
        case rel => exact ⟨j + 1, m', by have := HE.out.1; omega, by go_num, rfl, HE.out.2.1, trivial, HE.out.2.2⟩
        case measure => have := HE.out.1; simp [intOf]; omega
      · have hmo : ¬ (m : Int) ≤ 2147483647 := by omega
        have hmo2 : (2147483647 : Int) < m := by omega
        have HE : Hid (Keeps (fun _ => False) w wr) := HS.out.2.2.2.1
        clear hj hlt hm hmb hmost
        go_wp2
        go_ret
        exact ⟨⟨true, rfl, fun h => by cases h⟩, HE.out⟩
    · have hjz : ¬ (j : Int) < N := by omega
      have hjb : (j : Int) ≤ 35184372088832 := by omega
      have hjN : j = N := by omega
      by_cases hmost : m ≤ 2147483647
      · have hmo : ¬ (2147483647 : Int) < m := by omega
        have hmo2 : (m : Int) ≤ 2147483647 := by omega
        have HE : Hid (Keeps (fun _ => False) w wr ∧ lls.length ≤ 2147483647 ∧ ls.length ≤ 2147483647 ∧ ∀ (j : Nat) (l : List Int), lls[j]? = some l → l.length ≤ 2147483647) := by
          have h1 := HS.out.2.1
          have h2 := HS.out.2.2.1
          refine ⟨HS.out.2.2.2.1, by omega, by omega, fun i l hl => ?_⟩
          have := one_tot hl
          rw [← h1, ← hjN] at this
          omega
        clear hj hlt hm hmb hmost hjN
        go_wp2
        go_ret
        exact ⟨⟨false, rfl, fun _ => HE.out.2⟩, HE.out.1⟩
      · have hmo : (2147483647 : Int) < m := by omega
        have HE : Hid (Keeps (fun _ => False) w wr) := HS.out.2.2.2.1
        clear hj hlt hm hmb hmost hjN
        go_wp2
        go_ret
        exact ⟨⟨true, rfl, fun h => by cases h⟩, HE.out⟩

end Go.Proofs.YtipejahmjdamjaaGreatDoor
namespace Go.Proofs.YtipejahmjdamjaaGreatDoor
open Go.RowKit Go.Shelf
set_option linter.unusedVariables false
set_option linter.unusedSimpArgs false
set_option maxRecDepth 20000

/-- Both cores in the memory, their blocks among D, apart. -/
def St (w : World) (c r : Nat) (D : Nat → Prop) : Prop :=
  ∃ tb cb tr cr rg pc ls st us FT FC GT GC, Both w c tb cb r tr cr rg pc ls st us FT FC GT GC ∧ (∀ k, (k = r ∨ GT k ∨ GC k) → k ≠ c) ∧ (∀ k, (k = c ∨ FT k ∨ FC k) → k ≠ r) ∧ (∀ k, (k = c ∨ FT k ∨ FC k) → D k) ∧ (∀ k, (k = r ∨ GT k ∨ GC k) → D k)
theorem St.kept {S D : Nat → Prop} {w w' : World} {c r : Nat} (h : St w c r D) (hK : Keeps S w w') (hS : ∀ k, D k → ¬ S k) : St w' c r D := by
  obtain ⟨tb, cb, tr, cr, rg, pc, ls, st, us, FT, FC, GT, GC, h1, h2, h3, h4, h5⟩ := h
  exact ⟨tb, cb, tr, cr, rg, pc, ls, st, us, FT, FC, GT, GC, h1.kept hK (fun k hk => hS k (h4 k hk)) (fun k hk => hS k (h5 k hk)), h2, h3, h4, h5⟩
theorem St.mono {D D' : Nat → Prop} {w : World} {c r : Nat} (h : St w c r D) (hD : ∀ k, k < w.heap.size → D k → D' k) : St w c r D' := by
  obtain ⟨tb, cb, tr, cr, rg, pc, ls, st, us, FT, FC, GT, GC, h1, h2, h3, h4, h5⟩ := h
  refine ⟨tb, cb, tr, cr, rg, pc, ls, st, us, FT, FC, GT, GC, h1, h2, h3, fun k hk => hD k ?_ (h4 k hk), fun k hk => hD k (h1.ref.lt k hk) (h5 k hk)⟩
  rcases hk with e | e | e
  · rw [e]; exact h1.core.blk.lt
  · exact h1.core.tl.lt k e
  · exact h1.core.ca.lt k e
theorem St.held {D : Nat → Prop} {w : World} {c r : Nat} (h : St w c r D) : Calls Tryz.prog 21 #[ptr c, ptr r] w fun e w' => e = .returned (.bool true) ∧ Keeps (fun _ => False) w w' := by
  obtain ⟨tb, cb, tr, cr, rg, pc, ls, st, us, FT, FC, GT, GC, h1, _⟩ := h
  exact held_both c tb cb r tr cr rg pc ls st us FT FC GT GC w h1
theorem St.d {D : Nat → Prop} {w : World} {c r : Nat} (h : St w c r D) : D c ∧ D r ∧ c < w.heap.size ∧ r < w.heap.size ∧ c ≠ r ∧ 2 ≤ c := by
  obtain ⟨tb, cb, tr, cr, rg, pc, ls, st, us, FT, FC, GT, GC, h1, h2, h3, h4, h5⟩ := h
  exact ⟨h4 c (.inl rfl), h5 r (.inl rfl), h1.core.blk.lt, h1.ref.blk.lt, h3 c (.inl rfl), h1.core.two c (.inl rfl)⟩

/-- Behind the first of two Restores. -/
def StH (w : World) (c r : Nat) (D : Nat → Prop) (hi : Nat) (rg : List UInt32) (pc : Nat) (lls : List (List Int)) (ls : List Tl.Lf) (m : Int) : Prop :=
  (¬ (Ch.MayL lls ∧ Tl.heldB ls = true) ∧ m = 100 ∧ St w c r D) ∨
  ((Ch.MayL lls ∧ Tl.heldB ls = true) ∧ m = 0 ∧ D c ∧ c ≠ r ∧ r < hi ∧ c < hi ∧ (∃ tb cb FT FC, CoreAt w c tb cb rg pc ls (Ch.nth lls) FT FC ∧ ∀ k, (FT k ∨ FC k) → hi ≤ k) ∧
    ∃ tr cr rg0 pc0 ls0 us0 GT GC, RefAt w r tr cr rg0 pc0 ls0 us0 GT GC ∧ ∀ k, (k = r ∨ GT k ∨ GC k) → D k ∧ k ≠ c)

theorem St.restC {D : Nat → Prop} {w : World} {c r hi : Nat} (h : St w c r D) (hhi : hi = w.heap.size) (rg : List UInt32) (pc : Nat) (la : Option Addr) (lls : List (List Int)) (lc : Nat) (va : Option Addr) (ls : List Tl.Lf) (vc : Nat) (hl : rg.length = 16) (hp : pc < 4294967296)
    (hs : Ch.SegL w la lls) (hla : lls.length = 4 → ∃ G, la = some ⟨G, 0, none⟩) (hL : Tl.SegL w va ls) (hLc : ls.length ≤ vc ∧ vc ≤ maxLen) :
    Calls Tryz.prog 23 #[ptr c, .agg (heldL rg pc (.slice la lls.length lc) (.slice va ls.length vc)).toArray] w fun e w' => ∃ m : Int, e = .returned (.int .i64 m) ∧ StH w' c r D hi rg pc lls ls m ∧ Keeps (fun k => k = c) w w' := by
  obtain ⟨tb, cb, tr, cr, rg0, pc0, ls0, st, us, FT, FC, GT, GC, h1, h2, h3, h4, h5⟩ := h
  refine (restore_core c tb cb rg0 pc0 ls0 st FT FC rg pc la lls lc va ls vc w h1.core hl hp hs hla hL hLc).mono ?_
  rintro e w' (⟨n1, rfl, n2⟩ | ⟨n1, rfl, tb2, cb2, FT2, FC2, n2, n3, n4⟩)
  · exact ⟨100, rfl, .inl ⟨n1, rfl, tb, cb, tr, cr, rg0, pc0, ls0, st, us, FT, FC, GT, GC, h1.kept n2 (fun _ _ h => h) (fun _ _ h => h), h2, h3, h4, h5⟩, n2.mono fun _ _ h => h.elim⟩
  · refine ⟨0, rfl, .inr ⟨n1, rfl, h4 c (.inl rfl), h3 c (.inl rfl), by have := h1.ref.blk.lt; omega, by have := h1.core.blk.lt; omega, ⟨tb2, cb2, FT2, FC2, n2, fun k hk => by have := n3 k hk; omega⟩, tr, cr, rg0, pc0, ls0, us, GT, GC, h1.ref.kept n4 fun k hk e => h2 k hk e, fun k hk => ⟨h5 k hk, h2 k hk⟩⟩, n4⟩

theorem StH.restR {D : Nat → Prop} {w : World} {c r hi : Nat} {rg : List UInt32} {pc : Nat} {lls : List (List Int)} {ls : List Tl.Lf} {m : Int} (h : StH w c r D hi rg pc lls ls m) (hhi : hi ≤ w.heap.size) (la : Option Addr) (lc : Nat) (va : Option Addr) (vc : Nat) (hl : rg.length = 16) (hp : pc < 4294967296)
    (hs : Ch.SegL w la lls) (hL : Tl.SegL w va ls) (hLc : ls.length ≤ vc ∧ vc ≤ maxLen) :
    Calls Tryz.prog 24 #[ptr r, .agg (heldL rg pc (.slice la lls.length lc) (.slice va ls.length vc)).toArray] w fun e w' => e = .returned (.int .i64 m) ∧ St w' c r (fun k => D k ∨ hi ≤ k) ∧ Keeps (fun k => k = r) w w' := by
  rcases h with ⟨n0, rfl, tb, cb, tr, cr, rg0, pc0, ls0, st, us, FT, FC, GT, GC, h1, h2, h3, h4, h5⟩ | ⟨n0, rfl, dc, cr0, hr, hc, ⟨tb, cb, FT, FC, hC, hCh⟩, tr, cr, rg0, pc0, ls0, us0, GT, GC, hR, hRd⟩
  · refine (restore_ref r tr cr rg0 pc0 ls0 us GT GC rg pc la lls lc va ls vc w h1.ref hl hp hs hL hLc).mono ?_
    rintro e w' (⟨n1, rfl, n2⟩ | ⟨n1, _⟩)
    · exact ⟨rfl, ⟨tb, cb, tr, cr, rg0, pc0, ls0, st, us, FT, FC, GT, GC, h1.kept n2 (fun _ _ h => h) (fun _ _ h => h), h2, h3, fun k hk => .inl (h4 k hk), fun k hk => .inl (h5 k hk)⟩, n2.mono fun _ _ h => h.elim⟩
    · exact absurd n1 n0
  · refine (restore_ref r tr cr rg0 pc0 ls0 us0 GT GC rg pc la lls lc va ls vc w hR hl hp hs hL hLc).mono ?_
    rintro e w' (⟨n1, _⟩ | ⟨n1, rfl, tr2, cr2, GT2, GC2, n2, n3, n4⟩)
    · exact absurd n0 n1
    · have hcr : ∀ k, (k = c ∨ FT k ∨ FC k) → k ≠ r := by
        rintro k (e | e) e2
        · exact cr0 (by rw [← e, e2])
        · have := hCh k e; omega
      have dr := (hRd r (.inl rfl)).1
      refine ⟨rfl, ⟨tb, cb, tr2, cr2, rg, pc, ls, Ch.nth lls, lls.flatten, FT, FC, GT2, GC2, ⟨hC.kept n4 hcr, n2, rel_may n0.1⟩, ?_, hcr, ?_, ?_⟩, n4⟩
      · rintro k (e | e) e2
        · exact cr0 (by rw [← e2, e])
        · have := n3 k e; omega
      · rintro k (e | e)
        · exact .inl (by rw [e]; exact dc)
        · exact .inr (hCh k e)
      · rintro k (e | e)
        · exact .inl (by rw [e]; exact dr)
        · exact .inr (by have := n3 k e; omega)

/-- Two new cores. -/
theorem St.new {w w1 w2 : World} {c tb cb r tr cr : Nat} {FT FC GT GC : Nat → Prop} (h1 : CoreAt w1 c tb cb (List.replicate 16 0) 0 [] (fun _ => []) FT FC) (h2 : ∀ k, (k = c ∨ FT k ∨ FC k) → w.heap.size ≤ k) (h3 : RefAt w2 r tr cr (List.replicate 16 0) 0 [] [] GT GC) (h4 : ∀ k, (k = r ∨ GT k ∨ GC k) → w1.heap.size ≤ k) (hK : Keeps (fun _ => False) w1 w2) : St w2 c r (fun k => w.heap.size ≤ k ∨ w1.heap.size ≤ k) := by
  have hlt : ∀ k, (k = c ∨ FT k ∨ FC k) → k < w1.heap.size := by
    rintro k (e | e | e)
    · rw [e]; exact h1.blk.lt
    · exact h1.tl.lt k e
    · exact h1.ca.lt k e
  refine ⟨tb, cb, tr, cr, _, _, _, _, _, FT, FC, GT, GC, ⟨h1.kept hK fun _ _ h => h, h3, Ch.rel_none⟩, fun k hk e => ?_, fun k hk e => ?_, fun k hk => .inl (h2 k hk), fun k hk => .inr (h4 k hk)⟩
  · have := h4 k hk
    have := hlt c (.inl rfl)
    omega
  · have := h4 r (.inl rfl)
    have := hlt k hk
    omega

end Go.Proofs.YtipejahmjdamjaaGreatDoor
