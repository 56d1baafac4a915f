import Derived.Test.YtipejahmjdamjaaGreatDoorNq
namespace Go.Proofs.YtipejahmjdamjaaGreatDoor
open Go.RowKit Go.Shelf
set_option linter.unusedVariables false
set_option linter.unusedSimpArgs false
set_option maxRecDepth 20000

theorem MayL.len {lls : List (List Int)} (h : Ch.MayL lls) : lls.length = 0 ∨ lls.length = 4 := h.1
theorem nth_nil {lls : List (List Int)} (h : lls.length = 0) : Ch.nth lls = fun _ => [] := by
  obtain rfl := List.length_eq_zero_iff.1 h
  funext i
  rfl

/-- The cache is made to hold such lines. -/
theorem restoreC_any (c : Nat) (st : Nat → List Int) (F : Nat → Prop) (a : Option Addr) (lls : List (List Int)) (cap : Nat) (w0 w : World) (h : Ch.Ca w c st F) (k0 : Keeps (fun _ => False) w0 w) (hF : ∀ b, F b → w0.heap.size ≤ b) (hs : Ch.SegL w0 a lls) (ha : lls.length = 4 → ∃ G, a = some ⟨G, 0, none⟩) :
    Calls Tryz.prog 51 #[ptr c, .slice a lls.length cap] w fun e w' => (¬ Ch.MayL lls ∧ e = .returned (.int .i64 71) ∧ w' = w) ∨ (Ch.MayL lls ∧ e = .returned (.int .i64 0) ∧ Ch.NowC w w' c (Ch.nth lls) F) := by
  by_cases hm : Ch.MayL lls
  · rcases hm.1 with h0 | h4
    · rw [h0]
      refine (Ch.restore_none c st F a cap w h).mono ?_
      rintro e w' ⟨rfl, hn⟩
      exact .inr ⟨hm, rfl, by rw [nth_nil h0]; exact hn⟩
    · obtain ⟨G, rfl⟩ := ha h4
      rw [h4]
      obtain ⟨vs, hv⟩ := hs.lst h4
      have hl := hv w0 (fun _ _ => trivial) rfl
      obtain ⟨hg, h2⟩ := hm.good h4
      refine (Ch.restore_any c st F G vs (Ch.nth lls) cap w h (fun w' hK => hl.kept (k0.trans hK fun b hb hb2 => by have := hF b hb2; omega)) h2 hg).mono ?_
      rintro e w' ⟨rfl, hn⟩
      exact .inr ⟨hm, rfl, hn⟩
  · refine (Ch.restore_not c a lls cap w (hs.kept k0) hm).mono ?_
    rintro e w' ⟨rfl, rfl⟩
    exact .inl ⟨hm, rfl, rfl⟩

def hyes_ (ls : List Tl.Lf) (lls : List (List Int)) : Prop := Ch.MayL lls ∧ Tl.heldB ls = true
theorem core_one (rg : List UInt32) (pc tb cb : Nat) : ∀ v ∈ coreCells rg pc tb cb, v.oneCell' = true := by
  intro v hv
  simp only [coreCells, List.mem_append, List.mem_cons, List.not_mem_nil, or_false] at hv
  rcases hv with h | rfl | rfl
  · exact ctx_one rg pc v h
  · rfl
  · rfl
/-- A core behind Restore. -/
def RestC (w w' : World) (c : Nat) (rg : List UInt32) (pc : Nat) (lls : List (List Int)) (ls : List Tl.Lf) : Prop :=
  ∃ tb cb FT FC, CoreAt w' c tb cb rg pc ls (Ch.nth lls) FT FC ∧ (∀ k, (FT k ∨ FC k) → w.heap.size ≤ k) ∧ Keeps (fun k => k = c) w w'
theorem held_good {ls : List Tl.Lf} (h : Tl.heldB ls = true) : ∀ l ∈ ls, Tl.mayB l = true := by
  unfold Tl.heldB Tl.preB at h
  simp at h
  intro l hl
  exact h.2.1 l hl

set_option maxHeartbeats 8000000 in
theorem restore_core (c tb cb : Nat) (rg0 : List UInt32) (pc0 : Nat) (ls0 : List Tl.Lf) (st0 : Nat → List Int) (FT FC : Nat → Prop) (rg : List UInt32) (pc : Nat) (la : Option Addr) (lls : List (List Int)) (lc : Nat) (va : Option Addr) (ls : List Tl.Lf) (vc : Nat) (w : World) (h : CoreAt w c tb cb rg0 pc0 ls0 st0 FT FC) (hl : rg.length = 16) (hp : pc < 4294967296)
    (hs : Ch.SegL w la lls) (hla : lls.length = 4 → ∃ G, la = some ⟨G, 0, none⟩) (hL : Tl.SegL w va ls) (hLc : ls.length ≤ vc ∧ vc ≤ maxLen) :
    Calls Tryz.prog 23 #[ptr c, .agg (heldL rg pc (.slice la lls.length lc) (.slice va ls.length vc)).toArray] w fun e w' =>
      (¬ (Ch.MayL lls ∧ Tl.heldB ls = true) ∧ e = .returned (.int .i64 100) ∧ Keeps (fun _ => False) w w') ∨ ((Ch.MayL lls ∧ Tl.heldB ls = true) ∧ e = .returned (.int .i64 0) ∧ RestC w w' c rg pc lls ls) := by
  obtain ⟨N, eN⟩ : ∃ N, N = lls.length := ⟨_, rfl⟩
  obtain ⟨n, en⟩ : ∃ n, n = ls.length := ⟨_, rfl⟩
  obtain ⟨VX, eVX⟩ : ∃ V, V = heldL rg pc (.slice la N lc) (.slice va n vc) := ⟨_, rfl⟩
  obtain ⟨W1, eW1⟩ : ∃ W, W = w.alloc (.cells VX.toArray 44) := ⟨_, rfl⟩
  obtain ⟨bh, ebh⟩ : ∃ b, b = w.heap.size := ⟨_, rfl⟩
  have kk : Keeps (fun _ => False) w W1 := by rw [eW1]; exact (Keeps.refl _ w).alloc _
  have hB1 : Blk W1 bh VX 44 := by rw [eW1, ebh]; have := Blk.new w VX.toArray 44; simpa using this
  have hsz : W1.heap.size = w.heap.size + 1 := by rw [eW1]; simp
  have hc2 : 2 ≤ c := h.two c (.inl rfl)
  have hclt : c < w.heap.size := h.blk.lt
  have HNC : Hid (Calls _ _ _ _ _) := new_core W1 (by omega)
  have HW : Hid (W1 = w.alloc (.cells VX.toArray 44) ∧ bh = w.heap.size) := ⟨eW1, ebh⟩
  have HS : Hid (CoreAt w c tb cb rg0 pc0 ls0 st0 FT FC ∧ rg.length = 16 ∧ pc < 4294967296 ∧ Ch.SegL w la lls ∧ (lls.length = 4 → ∃ G, la = some ⟨G, 0, none⟩) ∧ Tl.SegL w va ls ∧ (ls.length ≤ vc ∧ vc ≤ maxLen) ∧ N = lls.length ∧ n = ls.length ∧ Keeps (fun _ => False) w W1 ∧ Blk W1 bh VX 44 ∧ VX = heldL rg pc (.slice la N lc) (.slice va n vc) ∧ W1.heap.size = w.heap.size + 1 ∧ bh = w.heap.size ∧ c < w.heap.size ∧ 2 ≤ c) := ⟨h, hl, hp, hs, hla, hL, hLc, eN, en, kk, hB1, eVX, hsz, ebh, hclt, hc2⟩
  rw [← eN, ← en, ← eVX]
  clear h hl hp hs hla hL hLc eN en eVX eW1 ebh kk hB1 hsz hc2 hclt
  go_enter Tryz.func23, Tryz.ntmps23
  go_upto_region 1 with fail
  rw [← HW.out.1, ← HW.out.2]
  clear HW
  go_wp2_with fail
  refine HNC.out.mono ?_
  rintro e w2 ⟨c2, tb2, cb2, FT2, FC2, rfl, hC2, hlo2, k2⟩
  obtain ⟨s1, s2, s3, s4, s5, s6, s7, s8, s9, s10, s11, s12, s13, s14, s15, s16⟩ := HS.out
  have hB2 := s11.kept k2 fun h => h
  have hSr : (fun w' : World => Blk w' c2 (coreCells (List.replicate 16 0) 0 tb2 cb2) 91 ∧ Blk w' bh VX 44) w2.drew := ⟨hC2.blk.kept ((Keeps.refl (fun _ => False) w2).drew) fun h => h, hB2.kept ((Keeps.refl (fun _ => False) w2).drew) fun h => h⟩
  have kd : Keeps (fun _ => False) w2 w2.drew := (Keeps.refl (fun _ => False) w2).drew
  have k02 : Keeps (fun _ => False) w w2.drew := (s10.trans k2 fun _ _ h => h).trans kd fun _ _ h => h
  have HCC : Hid (Calls _ _ _ _ _) := restoreC_any cb2 (fun _ => []) FC2 la lls lc w w2.drew (hC2.ca.kept kd fun _ _ h => h) k02 (fun b hb => by have := hlo2 b (.inr (.inr hb)); omega) s4 s5
  rw [← s8] at HCC
  have HK2 : Hid (CoreAt w2 c2 tb2 cb2 (List.replicate 16 0) 0 [] (fun _ => []) FT2 FC2 ∧ (∀ k, (k = c2 ∨ FT2 k ∨ FC2 k) → W1.heap.size ≤ k) ∧ Keeps (fun _ => False) w w2.drew ∧ Keeps (fun _ => False) w2 w2.drew ∧ Keeps (fun _ => False) W1 w2) := ⟨hC2, hlo2, k02, kd, k2⟩
  have hg17 : ∀ w' : World, Blk w' c2 (coreCells (List.replicate 16 0) 0 tb2 cb2) 91 → w'.cell? ⟨c2, 17, none⟩ = some (ptr tb2) ∧ w'.cell? ⟨c2, 18, none⟩ = some (ptr cb2) := fun w' hb => ⟨hb.cell rfl, hb.cell rfl⟩
  have hx17 : ∀ w' : World, Blk w' bh VX 44 → w'.cell? ⟨bh, 17, none⟩ = some (.slice la N lc) ∧ w'.cell? ⟨bh, 18, none⟩ = some (.slice va n vc) := fun w' hb => ⟨hb.cell (by rw [s12]; exact (heldL_get rg pc _ _ s2).1), hb.cell (by rw [s12]; exact (heldL_get rg pc _ _ s2).2)⟩
  have HG : Hid ((∀ w' : World, Blk w' c2 (coreCells (List.replicate 16 0) 0 tb2 cb2) 91 → w'.cell? ⟨c2, 17, none⟩ = some (ptr tb2) ∧ w'.cell? ⟨c2, 18, none⟩ = some (ptr cb2)) ∧ (∀ w' : World, Blk w' bh VX 44 → w'.cell? ⟨bh, 17, none⟩ = some (.slice la N lc) ∧ w'.cell? ⟨bh, 18, none⟩ = some (.slice va n vc))) := ⟨hg17, hx17⟩
  clear s1 s2 s3 s4 s5 s6 s7 s8 s9 s10 s11 s12 s13 s14 s15 s16 hB2 kd k02 hC2 hlo2 k2 hg17 hx17 HNC
  go_upto_region 4 with fail
  refine wp_region_held_drew (S := (fun w' : World => Blk w' c2 (coreCells (List.replicate 16 0) 0 tb2 cb2) 91 ∧ Blk w' bh VX 44)) (by kernel_rfl) hSr (fun hHeld => ?_)
  simp only [List.size_toArray, List.length_cons, List.length_nil, Nat.reduceAdd, Array.replicate_succ, Array.replicate_zero, List.push_toArray, List.append_toArray, List.nil_append, List.cons_append]
  refine tk 0 (ptr c2) hHeld ?_
  simp only [Act.put, List.setIfInBounds_toArray, List.set_cons_zero, List.set_cons_succ]
  refine tk 1 (ptr c2) hHeld ?_
  simp only [Act.put, List.setIfInBounds_toArray, List.set_cons_zero, List.set_cons_succ]
  refine tk 2 (.pointer (some ⟨c2, 18, none⟩)) hHeld ?_
  simp only [Act.put, List.setIfInBounds_toArray, List.set_cons_zero, List.set_cons_succ]
  refine tk 3 (ptr cb2) hHeld ?_ (hr := by
    intro w' hSw
    have hq := (HG.out.1 w' hSw.1).2
    go_simp)
  simp only [Act.put, List.setIfInBounds_toArray, List.set_cons_zero, List.set_cons_succ]
  refine tk 4 (.pointer (some ⟨bh, 17, none⟩)) hHeld ?_
  simp only [Act.put, List.setIfInBounds_toArray, List.set_cons_zero, List.set_cons_succ]
  refine tk 5 (.slice la N lc) hHeld ?_ (hr := by
    intro w' hSw
    have hq := (HG.out.2 w' hSw.2).1
    go_simp)
  simp only [Act.put, List.setIfInBounds_toArray, List.set_cons_zero, List.set_cons_succ]
  refine wpAnyH_ready (rs := [6]) (by kernel_rfl) (by simp) ?_
  refine AllReadyH.cons rfl (fun Kq hK => ?_) AllReadyH.nil
  go_simp
  refine HCC.out.mono ?_
  rintro e w3 hR
  have hcc : (∃ m : Int, e = .returned (.int .i64 m) ∧ ((¬ Ch.MayL lls ∧ m = 71 ∧ w3 = w2.drew) ∨ (Ch.MayL lls ∧ m = 0 ∧ Ch.NowC w2.drew w3 cb2 (Ch.nth lls) FC2))) := by
    rcases hR with ⟨h1, h2, h3⟩ | ⟨h1, h2, h3⟩
    · exact ⟨71, h2, .inl ⟨h1, rfl, h3⟩⟩
    · exact ⟨0, h2, .inr ⟨h1, rfl, h3⟩⟩
  clear hR
  obtain ⟨m, rfl, hcc⟩ := hcc
  rcases hcc with ⟨hno, rfl, rfl⟩ | ⟨hyes, rfl, hnc⟩
  · refine hK.out _ _ hSr (fun hHeld => ?_)
    simp only [Act.put, List.setIfInBounds_toArray, List.set_cons_zero, List.set_cons_succ]
    refine tk 7 (.bool true) hHeld ?_
    simp only [Act.put, List.setIfInBounds_toArray, List.set_cons_zero, List.set_cons_succ]
    refine tk 8 (.bool true) hHeld ?_
    simp only [Act.put, List.setIfInBounds_toArray, List.set_cons_zero, List.set_cons_succ]
    refine tn 9 hHeld ?_
    simp only [Act.put, List.setIfInBounds_toArray, List.set_cons_zero, List.set_cons_succ]
    refine tn 10 hHeld ?_
    simp only [Act.put, List.setIfInBounds_toArray, List.set_cons_zero, List.set_cons_succ]
    refine tn 11 hHeld ?_
    simp only [Act.put, List.setIfInBounds_toArray, List.set_cons_zero, List.set_cons_succ]
    refine tn 12 hHeld ?_
    simp only [Act.put, List.setIfInBounds_toArray, List.set_cons_zero, List.set_cons_succ]
    refine tn 13 hHeld ?_
    simp only [Act.put, List.setIfInBounds_toArray, List.set_cons_zero, List.set_cons_succ]
    refine tn 14 hHeld ?_
    simp only [Act.put, List.setIfInBounds_toArray, List.set_cons_zero, List.set_cons_succ]
    refine tn 15 hHeld ?_
    simp only [Act.put, List.setIfInBounds_toArray, List.set_cons_zero, List.set_cons_succ]
    refine tn 16 hHeld ?_
    simp only [Act.put, List.setIfInBounds_toArray, List.set_cons_zero, List.set_cons_succ]
    refine tk 17 (.bool true) hHeld ?_
    simp only [Act.put, List.setIfInBounds_toArray, List.set_cons_zero, List.set_cons_succ]
    refine wpAnyH_done (by kernel_rfl) ?_ _
    have HE : Hid (¬ (Ch.MayL lls ∧ Tl.heldB ls = true) ∧ Keeps (fun _ => False) w w2.drew) := ⟨fun h => hno h.1, HK2.out.2.2.1⟩
    clear hHeld hK hSr hno HCC
    go_wp2
    go_ret
    exact .inl ⟨HE.out.1, rfl, HE.out.2⟩
  · obtain ⟨⟨FC3, hCa3, hF3⟩, k3⟩ := hnc
    obtain ⟨q1, q2, q3, q4, q5⟩ := HK2.out
    obtain ⟨s1, s2, s3, s4, s5, s6, s7, s8, s9, s10, s11, s12, s13, s14, s15, s16⟩ := HS.out
    have hS3 : (fun w' : World => Blk w' c2 (coreCells (List.replicate 16 0) 0 tb2 cb2) 91 ∧ Blk w' bh VX 44) w3 := ⟨hSr.1.kept k3 fun hb => q1.fc _ hb rfl, hSr.2.kept k3 fun hb => by have := q2 _ (.inr (.inr hb)); omega⟩
    have kw3 : Keeps (fun _ => False) w w3 := q3.trans k3 fun b hb h => by have := q2 b (.inr (.inr h)); omega
    have hT3 : Tl.Tl w3 tb2 [] FT2 := (q1.tl.kept q4 fun _ _ h => h).kept k3 fun b hb => (q1.ft b hb).2
    have HTT : Hid (Calls _ _ _ _ _) := Tl.restoreT_any tb2 [] FT2 va ls vc w3 hT3 s7 (s6.kept kw3 fun _ _ h => h) (fun hne x hx hF => by
      have := q2 _ (.inr (.inl hF))
      rcases s6 with h0 | ⟨g, o, e, hc⟩
      · exact hne h0
      · rw [hx] at e
        injection e with e
        obtain ⟨l, hl⟩ : ∃ l, ls[0]? = some l := ⟨_, List.getElem?_eq_getElem (List.length_pos_iff.2 hne)⟩
        have hlt := (hc 0 l hl).lt
        rw [e] at this
        simp at this
        omega)
    rw [← s9] at HTT
    have HK3 : Hid (Ch.Ca w3 cb2 (Ch.nth lls) FC3 ∧ (∀ b, FC3 b → FC2 b ∨ w2.heap.size ≤ b) ∧ Keeps (fun _ => False) w w3 ∧ Keeps FC2 w2.drew w3 ∧ Ch.MayL lls) := ⟨hCa3, hF3, kw3, k3, hyes⟩
    clear hCa3 hF3 k3 q1 q2 q3 q4 q5 s1 s2 s3 s4 s5 s6 s7 s8 s9 s10 s11 s12 s13 s14 s15 s16 hyes kw3 hT3 HCC hSr
    refine hK.out _ _ hS3 (fun hHeld => ?_)
    simp only [Act.put, List.setIfInBounds_toArray, List.set_cons_zero, List.set_cons_succ]
    refine tk 7 (.bool false) hHeld ?_
    simp only [Act.put, List.setIfInBounds_toArray, List.set_cons_zero, List.set_cons_succ]
    refine tk 8 (.bool false) hHeld ?_
    simp only [Act.put, List.setIfInBounds_toArray, List.set_cons_zero, List.set_cons_succ]
    refine tk 9 (ptr c2) hHeld ?_
    simp only [Act.put, List.setIfInBounds_toArray, List.set_cons_zero, List.set_cons_succ]
    refine tk 10 (ptr c2) hHeld ?_
    simp only [Act.put, List.setIfInBounds_toArray, List.set_cons_zero, List.set_cons_succ]
    refine tk 11 (.pointer (some ⟨c2, 17, none⟩)) hHeld ?_
    simp only [Act.put, List.setIfInBounds_toArray, List.set_cons_zero, List.set_cons_succ]
    refine tk 12 (ptr tb2) hHeld ?_ (hr := by
      intro w' hSw
      have hq := (HG.out.1 w' hSw.1).1
      go_simp)
    simp only [Act.put, List.setIfInBounds_toArray, List.set_cons_zero, List.set_cons_succ]
    refine tk 13 (.pointer (some ⟨bh, 18, none⟩)) hHeld ?_
    simp only [Act.put, List.setIfInBounds_toArray, List.set_cons_zero, List.set_cons_succ]
    refine tk 14 (.slice va n vc) hHeld ?_ (hr := by
      intro w' hSw
      have hq := (HG.out.2 w' hSw.2).2
      go_simp)
    simp only [Act.put, List.setIfInBounds_toArray, List.set_cons_zero, List.set_cons_succ]
    refine wpAnyH_ready (rs := [15]) (by kernel_rfl) (by simp) ?_
    refine AllReadyH.cons rfl (fun Kq hK => ?_) AllReadyH.nil
    go_simp
    refine HTT.out.mono ?_
    rintro e w4 hR
    have hcc : ∃ m : Int, e = .returned (.int .i64 m) ∧ ((Tl.heldB ls = false ∧ m = 81 ∧ Tl.NowT w3 w4 tb2 [] FT2) ∨ (Tl.heldB ls = true ∧ m = 0 ∧ Tl.NowT w3 w4 tb2 ls FT2)) := by
      rcases hR with ⟨h1, h2, h3⟩ | ⟨h1, h2, h3⟩
      · exact ⟨81, h2, .inl ⟨h1, rfl, h3⟩⟩
      · exact ⟨0, h2, .inr ⟨h1, rfl, h3⟩⟩
    clear hR
    obtain ⟨m, rfl, hcc⟩ := hcc
    obtain ⟨q1, q2, q3, q4, q5⟩ := HK2.out
    obtain ⟨s1, s2, s3, s4, s5, s6, s7, s8, s9, s10, s11, s12, s13, s14, s15, s16⟩ := HS.out
    have k4 : Keeps FT2 w3 w4 := by rcases hcc with ⟨_, _, h⟩ | ⟨_, _, h⟩ <;> exact h.2
    have hS4 : (fun w' : World => Blk w' c2 (coreCells (List.replicate 16 0) 0 tb2 cb2) 91 ∧ Blk w' bh VX 44) w4 := ⟨hS3.1.kept k4 fun hb => (q1.ft _ hb).1 rfl, hS3.2.kept k4 fun hb => by have := q2 _ (.inr (.inl hb)); omega⟩
    have kw4 : Keeps (fun _ => False) w w4 := HK3.out.2.2.1.trans k4 fun b hb h => by have := q2 b (.inr (.inl h)); omega
    have HW4 : Hid (Keeps (fun _ => False) w w4 ∧ Keeps FT2 w3 w4) := ⟨kw4, k4⟩
    clear k4 kw4 q1 q2 q3 q4 q5 s1 s2 s3 s4 s5 s6 s7 s8 s9 s10 s11 s12 s13 s14 s15 s16 HTT
    rcases hcc with ⟨hno, rfl, hnt⟩ | ⟨hyes, rfl, hnt⟩
    · refine hK.out _ _ hS4 (fun hHeld => ?_)
      simp only [Act.put, List.setIfInBounds_toArray, List.set_cons_zero, List.set_cons_succ]
      refine tk 16 (.bool true) hHeld ?_
      simp only [Act.put, List.setIfInBounds_toArray, List.set_cons_zero, List.set_cons_succ]
      refine tk 17 (.bool true) hHeld ?_
      simp only [Act.put, List.setIfInBounds_toArray, List.set_cons_zero, List.set_cons_succ]
      refine wpAnyH_done (by kernel_rfl) ?_ _
      have HE : Hid (¬ (Ch.MayL lls ∧ Tl.heldB ls = true) ∧ Keeps (fun _ => False) w w4) := ⟨fun h => by rw [hno] at h; exact absurd h.2 (by decide), HW4.out.1⟩
      clear hHeld hK hS3 hS4 hno hnt
      go_wp2
      go_ret
      exact .inl ⟨HE.out.1, rfl, HE.out.2⟩
    · refine hK.out _ _ hS4 (fun hHeld => ?_)
      simp only [Act.put, List.setIfInBounds_toArray, List.set_cons_zero, List.set_cons_succ]
      refine tk 16 (.bool false) hHeld ?_
      simp only [Act.put, List.setIfInBounds_toArray, List.set_cons_zero, List.set_cons_succ]
      refine tk 17 (.bool false) hHeld ?_
      simp only [Act.put, List.setIfInBounds_toArray, List.set_cons_zero, List.set_cons_succ]
      refine wpAnyH_done (by kernel_rfl) ?_ _
      obtain ⟨⟨FT4, hT4, hF4⟩, _⟩ := hnt
      obtain ⟨q1, q2, q3, q4, q5⟩ := HK2.out
      obtain ⟨p1, p2, p3, p4, p5⟩ := HK3.out
      obtain ⟨s1, s2, s3, s4, s5, s6, s7, s8, s9, s10, s11, s12, s13, s14, s15, s16⟩ := HS.out
      have z12 := q5.size
      have z23 : w2.heap.size ≤ w3.heap.size := p4.size
      have z34 := HW4.out.2.size
      have lT2 := q1.tl.lt
      have lC2 := q1.ca.lt
      have lC3 := p1.lt
      have hC4 : CoreAt w4 c2 tb2 cb2 (List.replicate 16 0) 0 ls (Ch.nth lls) FT4 FC3 := by
        refine ⟨hS4.1, by simp, hT4, p1.kept HW4.out.2 fun b hb hb2 => ?_, fun k hk => ⟨fun e => ?_, fun hk2 => ?_⟩, fun k hk e => ?_, held_good hyes, by omega, fun k hk => ?_⟩
        · rcases p2 b hb with h | h
          · exact (q1.ft b hb2).2 h
          · have := lT2 b hb2; omega
        · rcases hF4 k hk with h | h
          · exact (q1.ft k h).1 e
          · have := q1.blk.lt; omega
        · rcases hF4 k hk with h | h
          · rcases p2 k hk2 with h2 | h2
            · exact (q1.ft k h).2 h2
            · have := lT2 k h; omega
          · have := lC3 k hk2; omega
        · rcases p2 k hk with h | h
          · exact q1.fc k h e
          · have := q1.blk.lt; omega
        · rcases hk with h | h | h
          · have := q2 k (.inl h); omega
          · rcases hF4 k h with h2 | h2
            · have := q2 k (.inr (.inl h2)); omega
            · omega
          · rcases p2 k h with h2 | h2
            · have := q2 k (.inr (.inr h2)); omega
            · omega
      have hlo4 : ∀ k, (FT4 k ∨ FC3 k) → w.heap.size < k := by
        rintro k (h | h)
        · rcases hF4 k h with h2 | h2
          · have := q2 k (.inr (.inl h2)); omega
          · omega
        · rcases p2 k h with h2 | h2
          · have := q2 k (.inr (.inr h2)); omega
          · omega
      have hc2lo : w.heap.size < c2 := by have := q2 c2 (.inl rfl); omega
      have HSet : Hid (Calls _ _ _ _ _) := set_any c2 tb2 cb2 (List.replicate 16 0) rg 0 pc ls (Ch.nth lls) FT4 FC3 w4 hC4 s2 s3
      have HRx : Hid (w4.rangeAt bh 0 (ctx rg pc) ∧ (Tryz.prog.info? 40).map (·.size) = some (ctx rg pc).length) := ⟨fun j v hv => by rw [Nat.zero_add]; exact hS4.2.cell (by rw [s12]; exact heldL_ctx rg pc _ _ hv), info40 s2 pc⟩
      have HC4 : Hid (hyes_ ls lls ∧ (∀ k, (FT4 k ∨ FC3 k) → w.heap.size < k) ∧ w.heap.size < c2) := ⟨⟨p5, hyes⟩, hlo4, hc2lo⟩
      clear hHeld hK hS3 hS4 hT4 hF4 q1 q2 q3 q4 q5 p1 p2 p3 p4 p5 s1 s2 s3 s4 s5 s6 s7 s8 s9 s10 s11 s12 s13 s14 s15 s16 z12 z23 z34 lT2 lC2 lC3 hC4 hlo4 hc2lo hyes HK3 HK2 HG
      go_wp2_with (refine wpList_load_mid rfl 40 (.tmp 28) rfl bh 0 rfl (ctx rg pc) _ HRx.out.1 Tryz.underlying40 rfl HRx.out.2 ?_; refine Hid.out ?_)
      unfold Hid
      clear HRx
      go_wp2_with fail
      refine HSet.out.mono ?_
      rintro e w5 ⟨rfl, hC5, k5⟩
      obtain ⟨s1, s2, s3, s4, s5, s6, s7, s8, s9, s10, s11, s12, s13, s14, s15, s16⟩ := HS.out
      have kw5 : Keeps (fun _ => False) w w5 := HW4.out.1.trans k5 fun b hb h => by have := HC4.out.2.2; have h' : b = c2 := h; omega
      have hBc := s1.blk.kept kw5 fun h => h
      obtain ⟨V5, eV5⟩ : ∃ V, V = coreCells rg pc tb2 cb2 := ⟨_, rfl⟩
      have l5 : V5.length = 19 := by rw [eV5]; exact (cs17 rg pc tb2 cb2 s2).2.2.2
      have hB5 := hC5.blk
      rw [← eV5] at hB5
      have hol : (coreCells rg0 pc0 tb cb).length = 19 := (cs17 rg0 pc0 tb cb s1.len).2.2.2
      have HRy : Hid (w5.rangeAt c2 0 V5 ∧ (Tryz.prog.info? 91).map (·.size) = some V5.length) := ⟨hB5.range, by rw [l5]; kernel_rfl⟩
      have HTh : Hid (w5.there c 0 V5.toArray.size ∧ (Tryz.prog.info? 91).map (·.size) = some V5.toArray.size ∧ V5.toArray.all (·.oneCell') = true) := by
        refine ⟨fun j hj => ⟨?_, hBc.frozen _⟩, by rw [List.size_toArray, l5]; kernel_rfl, all_oneCell_toArray (by rw [eV5]; exact core_one rg pc tb2 cb2)⟩
        have hj' : j < 19 := by simpa [l5] using hj
        rw [hBc.cell (List.getElem?_eq_getElem (by rw [hol]; omega))]
        rfl
      obtain ⟨W6, hW6⟩ : ∃ W6, W6 = w5.setCells c 0 V5.toArray.toList := ⟨_, rfl⟩
      have HW6 : Hid (W6 = w5.setCells c 0 V5.toArray.toList) := hW6
      have HE : Hid (RestC w W6 c rg pc lls ls ∧ hyes_ ls lls) := by
        have hks := keeps_setCells c V5.toArray.toList 0 w5
        have hB6 := blk_setCells (b := c) (t := 91) V5 (coreCells rg0 pc0 tb cb) [] [] w5 (by simpa using hBc) (by rw [l5, hol])
        have hB7 : Blk (w5.setCells c 0 V5.toArray.toList) c V5 91 := by simpa using hB6
        rw [← hW6] at hks hB7
        refine ⟨⟨tb2, cb2, FT4, FC3, ⟨by rw [← eV5]; exact hB7, s2, hC5.tl.kept hks fun b hb h => ?_, hC5.ca.kept hks fun b hb h => ?_, fun k hk => ⟨fun e => ?_, (hC5.ft k hk).2⟩, fun k hk e => ?_, hC5.good, s3, fun k hk => ?_⟩, fun k hk => by have := HC4.out.2.1 k hk; omega, (kw5.mono fun _ _ h => h.elim).trans hks fun b _ h => h⟩, HC4.out.1⟩
        · have := HC4.out.2.1 b (.inl hb); have h' : b = c := h; omega
        · have := HC4.out.2.1 b (.inr hb); have h' : b = c := h; omega
        · have := HC4.out.2.1 k (.inl hk); omega
        · have := HC4.out.2.1 k (.inr hk); omega
        · rcases hk with h | h | h
          · omega
          · have := HC4.out.2.1 k (.inl h); omega
          · have := HC4.out.2.1 k (.inr h); omega
      clear hC5 k5 s1 s2 s3 s4 s5 s6 s7 s8 s9 s10 s11 s12 s13 s14 s15 s16 kw5 hBc eV5 l5 hB5 hol hW6 HSet HW4 HC4
      go_wp2_with (refine wpList_load_mid rfl 91 (.tmp 33) rfl c2 0 rfl V5 _ HRy.out.1 Tryz.underlying91 rfl HRy.out.2 ?_; refine Hid.out ?_)
      unfold Hid
      go_wp2_with (refine wpList_store_mid rfl 91 (.tmp 35) (.tmp 34) rfl c 0 V5.toArray rfl rfl HTh.out.1 HTh.out.2.1 HTh.out.2.2 ?_; refine Hid.out ?_)
      unfold Hid
      rw [← HW6.out]
      go_wp2
      go_ret
      exact .inr ⟨HE.out.2, rfl, HE.out.1⟩

end Go.Proofs.YtipejahmjdamjaaGreatDoor
namespace Go.Proofs.YtipejahmjdamjaaGreatDoor
open Go.RowKit Go.Shelf
set_option linter.unusedVariables false
set_option linter.unusedSimpArgs false
set_option maxRecDepth 20000

theorem rel_may {lls : List (List Int)} (h : Ch.MayL lls) : Ch.Rel (Ch.nth lls) lls.flatten := by
  rcases h.1 with h0 | h4
  · obtain rfl := List.length_eq_zero_iff.1 h0
    exact Ch.rel_none
  · exact Ch.rel_restore h h4

set_option maxHeartbeats 4000000 in
theorem refNew_any (w : World) : Calls Tryz.prog 11 #[] w fun e w' => ∃ r tr cr GT GC, e = .returned (ptr r) ∧ RefAt w' r tr cr (List.replicate 16 0) 0 [] [] GT GC ∧ (∀ k, (k = r ∨ GT k ∨ GC k) → w.heap.size ≤ k) ∧ Keeps (fun _ => False) w w' := by
  obtain ⟨W1, eW1⟩ : ∃ W, W = w.alloc (.cells #[.slice none 0 0] 94) := ⟨_, rfl⟩
  have kk : Keeps (fun _ => False) w W1 := by rw [eW1]; exact (Keeps.refl _ w).alloc _
  have hB : Blk W1 w.heap.size [.slice none 0 0] 94 := by rw [eW1]; exact Blk.new w _ 94
  have hsz : W1.heap.size = w.heap.size + 1 := by rw [eW1]; simp
  have HN : Hid (Calls _ _ _ _ _) := Ch.newR_any W1
  have HW : Hid (W1 = w.alloc (.cells #[.slice none 0 0] 94)) := eW1
  have HB : Hid (Keeps (fun _ => False) w W1 ∧ Blk W1 w.heap.size [.slice none 0 0] 94 ∧ W1.heap.size = w.heap.size + 1) := ⟨kk, hB, hsz⟩
  clear kk hB hsz eW1
  go_enter Tryz.func11, Tryz.ntmps11
  go_wp2_with fail
  rw [← HW.out]
  refine HN.out.mono ?_
  rintro e w2 ⟨rfl, ⟨u, F, hR, hF⟩, k2⟩
  have HR : Hid (Ch.Rc w2 W1.heap.size [] u F ∧ (∀ k, F k → W1.heap.size ≤ k) ∧ Keeps (fun _ => False) W1 w2) := ⟨hR, hF, k2⟩
  clear hR hF k2 HN HW
  go_wp2
  go_ret
  obtain ⟨h1, h2, h3⟩ := HB.out
  obtain ⟨g1, g2, g3⟩ := HR.out
  have z := g3.size
  have kA : Keeps (fun _ => False) w2 (w2.alloc (.cells #[.int .u32 0, .int .u32 0, .int .u32 0, .int .u32 0, .int .u32 0, .int .u32 0, .int .u32 0, .int .u32 0, .int .u32 0, .int .u32 0, .int .u32 0, .int .u32 0, .int .u32 0, .int .u32 0, .int .u32 0, .int .u32 0, .int .u32 0, ptr w.heap.size, ptr W1.heap.size] 98)) := (Keeps.refl _ _).alloc _
  refine ⟨w2.heap.size, w.heap.size, W1.heap.size, (· = w.heap.size), F, rfl, ⟨Blk.new w2 _ 98, by simp, ⟨none, 0, ((h2.kept g3 fun h => h).kept kA fun h => h), .inl rfl, ⟨by simp, by unfold maxLen; omega⟩, by simp, rfl, fun h => absurd rfl h, fun b hb => ?_⟩, ⟨u, g1.kept kA fun _ _ h => h⟩, by simp, fun k hk => ⟨?_, fun hk2 => ?_⟩, fun k hk e => ?_, by omega⟩, fun k hk => ?_, (h1.trans g3 fun _ _ h => h).trans kA fun _ _ h => h⟩
  · simp; omega
  · omega
  · have := g2 k hk2; omega
  · have := g1.lt k hk; omega
  · rcases hk with e | e | e
    · omega
    · omega
    · have := g2 k e; omega

end Go.Proofs.YtipejahmjdamjaaGreatDoor
