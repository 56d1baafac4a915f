import Derived.Test.YtakidbjkpbgmmaaSb
namespace Go.Proofs.Ytakidbjkpbgmmaa
open Go.RowKit Go.Shelf
set_option linter.unusedVariables false

/-- First the one, then the other, then a list of old. -/
theorem nowP_spoil {S : Nat → Prop} {w w0 w1 w1' w2 w3 : World} {t d : Nat} {ls L ls' L' : List Lf} {F G : Nat → Prop} (h : Pr w t d ls L F G) (h0 : Keeps (fun _ => False) w w0) (h1 : NowT w0 w1 t ls' F) (h1' : Keeps (fun _ => False) w1 w1') (h2 : NowR w1' w2 d L' G)
    (h3 : Keeps S w2 w3) (hS : ∀ b, S b → w.heap.size ≤ b ∧ b < w0.heap.size) : NowP w w3 t d ls' L' F G := by
  obtain ⟨⟨F', a1, a2⟩, a3⟩ := h1
  obtain ⟨⟨G', b1, b2⟩, b3⟩ := h2
  have hl := h.tl.lt
  have hr := h.rf.lt
  have z0 := h0.size
  have z1 := a3.size
  have z2 := h1'.size
  have hFG : ∀ b, F' b → ¬ G b := fun b hb hG => by
    rcases a2 b hb with h' | h'
    · exact h.apart b h' hG
    · have := hr b hG; omega
  have hP2 : Pr w2 t d ls' L' F' G' := ⟨(a1.kept h1' fun _ _ h => h).kept b3 hFG, b1, fun b hb hg => by
    rcases b2 b hg with h' | h'
    · exact hFG b hb h'
    · have := a1.lt b hb; omega⟩
  refine ⟨⟨F', G', hP2.kept h3 (fun b hb hs => ?_) (fun b hb hs => ?_), fun b hb => ?_, fun b hb => ?_⟩, ?_⟩
  · have := hS b hs
    rcases a2 b hb with h' | h'
    · have := hl b h'; omega
    · omega
  · have := hS b hs
    rcases b2 b hb with h' | h'
    · have := hr b h'; omega
    · omega
  · rcases a2 b hb with h' | h'
    · exact .inl h'
    · exact .inr (by omega)
  · rcases b2 b hb with h' | h'
    · exact .inl h'
    · exact .inr (by omega)
  · exact (((((h0.mono fun _ _ h => h.elim).trans a3 fun b _ hb => .inl hb).trans h1' fun _ _ h => h.elim).trans b3 fun b _ hb => .inr hb)).trans h3 fun b hb hs => by have := hS b hs; omega

set_option maxHeartbeats 4000000 in
theorem step_restore (t d : Nat) (ls L : List Lf) (F G : Nat → Prop) (which : Int) (l : Lf) (ad : Option Addr) (xs : List Lf) (cap : Nat) (w : World) (h : Pr w t d ls L F G)
    (hl : xs.length ≤ cap ∧ cap ≤ maxLen) (hb : xs.length ≤ 5864062014634) (hs : SegL w ad xs) (ha : xs ≠ [] → ∀ x, ad = some x → ¬ F x.block ∧ ¬ G x.block) :
    Calls Try.prog 8 #[ptr t, ptr d, oV which 4 l ad xs.length cap] w fun r w' => (∃ b, r = .returned (.bool b) ∧ (ls = L → b = true)) ∧ NowP w w' t d (if heldB xs then xs else ls) (if heldB xs then xs else L) F G := by
  obtain ⟨n, hn⟩ : ∃ n, n = xs.length := ⟨_, rfl⟩
  obtain ⟨W, hW⟩ : ∃ W, W = w.alloc (.cells #[.int .i64 which, .int .i64 4, .int .i64 l.p, .int .i64 l.f, .int .i64 l.r, .slice ad n cap] 30) := ⟨_, rfl⟩
  have hKW : Keeps (fun _ => False) w W := by rw [hW]; exact (Keeps.refl _ w).alloc _
  have hB : Blk W w.heap.size (oC which 4 l ad n cap) 30 := by rw [hW]; exact Blk.new w _ 30
  have HWi : Hid (Calls _ _ _ _ _) := wide_any ad xs cap W hl hb (hs.kept hKW fun _ _ h => h)
  have HW : Hid (W = _ ∧ Keeps (fun _ => False) w W ∧ Blk W w.heap.size (oC which 4 l ad n cap) 30 ∧ Pr w t d ls L F G ∧ SegL w ad xs ∧ (xs ≠ [] → ∀ x, ad = some x → ¬ F x.block ∧ ¬ G x.block) ∧ n = xs.length ∧ (xs.length ≤ cap ∧ cap ≤ maxLen) ∧ xs.length ≤ 5864062014634) := ⟨hW, hKW, hB, h, hs, ha, hn, hl, hb⟩
  rw [← hn] at HWi ⊢
  obtain ⟨e, he⟩ : ∃ e : Int, e = if heldB xs then 0 else 81 := ⟨_, rfl⟩
  obtain ⟨ls', hls'⟩ : ∃ ls', ls' = if heldB xs then xs else ls := ⟨_, rfl⟩
  obtain ⟨L', hL'⟩ : ∃ L', L' = if heldB xs then xs else L := ⟨_, rfl⟩
  rw [← hls', ← hL']
  have HE : Hid (e = (if heldB xs then 0 else 81) ∧ L' = (if heldB xs then xs else L) ∧ ls' = if heldB xs then xs else ls) := ⟨he, hL', hls'⟩
  clear hW hKW hB h hs ha hn hl hb he hls' hL'
  go_enter Try.func8, Try.ntmps8
  go_wp2_with fail
  rw [← HW.out.1]
  refine HWi.out.mono ?_
  rintro r w1 ⟨g1, rfl, hB1, hg1, hK1⟩
  have hKw1 : Keeps (fun _ => False) w w1 := HW.out.2.1.trans hK1 fun _ _ h => h
  have hP1 := HW.out.2.2.2.1.keep hKw1
  have hg1w : w.heap.size < g1 := by have := HW.out.2.2.1.lt; omega
  have hg1F : ¬ F g1 := fun hF => by have := HW.out.2.2.2.1.tl.lt _ hF; omega
  have hg1G : ¬ G g1 := fun hG => by have := HW.out.2.2.2.1.rf.lt _ hG; omega
  have HT : Hid (Calls Try.prog 14 #[ptr t, .slice (some ⟨g1, 0, none⟩) n (n + 40)] w1 fun r w' => r = .returned (.int .i64 e) ∧ NowT w1 w' t ls' F) := by
    unfold Hid
    rw [HE.out.1, HE.out.2.2]
    have h1 := restoreT_any t ls F (some ⟨g1, 0, none⟩) xs (n + 40) w1 hP1.tl ⟨by have := HW.out.2.2.2.2.2.2.1; omega, by have := HW.out.2.2.2.2.2.2; unfold maxLen; omega⟩ hB1.seg_append (fun _ x hx hF => by simp at hx; subst hx; exact hg1F hF)
    rw [← HW.out.2.2.2.2.2.2.1] at h1
    refine Calls.mono h1 ?_
    rintro r w' (⟨e1, e2, e3⟩ | ⟨e1, e2, e3⟩)
    · rw [e1]; exact ⟨by simpa using e2, by simpa using e3⟩
    · rw [e1]; exact ⟨by simpa using e2, by simpa using e3⟩
  have H1 : Hid (Blk w1 g1 (flatL (xs ++ tailM n)) 38 ∧ Keeps (fun _ => False) w w1 ∧ w.heap.size < g1 ∧ ¬ F g1 ∧ ¬ G g1 ∧ Blk w1 w.heap.size (oC which 4 l ad n cap) 30) := ⟨hB1, hKw1, hg1w, hg1F, hg1G, HW.out.2.2.1.kept hK1 fun h => h⟩
  clear hB1 hg1 hK1 hKw1 hP1 hg1w hg1F hg1G HWi
  go_wp2_with fail
  refine HT.out.mono ?_
  rintro r w2 ⟨rfl, hN2⟩
  have hlo : ¬ F w.heap.size := fun hF => by have := HW.out.2.2.2.1.tl.lt _ hF; omega
  have hloG : ¬ G w.heap.size := fun hF => by have := HW.out.2.2.2.1.rf.lt _ hF; omega
  have hB2o := H1.out.2.2.2.2.2.kept hN2.2 hlo
  have hB2g := H1.out.1.kept hN2.2 H1.out.2.2.2.1
  have hKw2 : Keeps F w w2 := (H1.out.2.1.mono fun _ _ h => h.elim).trans hN2.2 fun _ _ h => h
  have hs2 : SegL w2 ad xs := HW.out.2.2.2.2.1.kept2 hKw2 fun hx x hx' => (HW.out.2.2.2.2.2.1 hx x hx').1
  have HCo : Hid (Calls _ _ _ _ _) := copied_any ad xs cap w2 HW.out.2.2.2.2.2.2.2.1 (by have := HW.out.2.2.2.2.2.2.2.2; omega) hs2
  rw [← HW.out.2.2.2.2.2.2.1] at HCo
  have H2 : Hid (NowT w1 w2 t ls' F ∧ Blk w2 w.heap.size (oC which 4 l ad n cap) 30 ∧ Blk w2 g1 (flatL (xs ++ tailM n)) 38 ∧ Keeps F w w2 ∧ SegL w2 ad xs ∧ ¬ G w.heap.size) := ⟨hN2, hB2o, hB2g, hKw2, hs2, hloG⟩
  have o5 := hB2o.cell (i := 5) rfl
  clear hN2 hlo hloG hB2o hB2g hKw2 hs2 HT
  go_wp2_with fail
  refine HCo.out.mono ?_
  rintro r w3 ⟨g3, rfl, hB3, hg3, hK3⟩
  have hR3 : Rf w3 d L G := (HW.out.2.2.2.1.rfAt H2.out.2.2.2.1).kept hK3 fun _ _ h => h
  have HR : Hid (Calls Try.prog 23 #[ptr d, .slice (some ⟨g3, 0, none⟩) n n] w3 fun r w' => r = .returned (.int .i64 e) ∧ NowR w3 w' d L' G) := by
    have h1 := restoreR_any d L G (some ⟨g3, 0, none⟩) xs n w3 hR3 ⟨by have := HW.out.2.2.2.2.2.2.1; omega, by have := HW.out.2.2.2.2.2.2; unfold maxLen; omega⟩ hB3.seg
    rw [← HW.out.2.2.2.2.2.2.1] at h1
    refine Calls.mono h1 ?_
    rw [HE.out.1, HE.out.2.1]
    rintro r w' (⟨e1, e2, e3⟩ | ⟨e1, e2, e3⟩)
    · rw [e1]; exact ⟨by simpa using e2, by simpa using e3⟩
    · rw [e1]; exact ⟨by simpa using e2, by simpa using e3⟩
  have H3 : Hid (Keeps (fun _ => False) w2 w3) := hK3
  clear hB3 hg3 hK3 hR3 HCo o5
  go_wp2_with fail
  refine HR.out.mono ?_
  rintro r w4 ⟨rfl, hN4⟩
  have hB4o := (H2.out.2.1.kept H3.out fun h => h).kept hN4.2 H2.out.2.2.2.2.2
  have hB4g := (H2.out.2.2.1.kept H3.out fun h => h).kept hN4.2 H1.out.2.2.2.2.1
  have hs4 : SegL w4 ad xs := (H2.out.2.2.2.2.1.kept H3.out fun _ _ h => h).kept2 hN4.2 fun hx x hx' => (HW.out.2.2.2.2.2.1 hx x hx').2
  have HN4 : Hid (NowR w3 w4 d L' G) := hN4
  have HKe : Hid (Calls Try.prog 24 #[.slice (some ⟨g1, 0, none⟩) n (n + 40), .slice ad n cap] w4 fun r w' => r = .returned (.bool true) ∧ Keeps (fun _ => False) w4 w') := by
    have h1 := kept_any g1 ad xs cap w4 HW.out.2.2.2.2.2.2.2.1 HW.out.2.2.2.2.2.2.2.2 hs4 (by rw [← HW.out.2.2.2.2.2.2.1]; exact hB4g)
    rw [← HW.out.2.2.2.2.2.2.1] at h1
    exact h1
  have H4 : Hid (Blk w4 g1 (flatL (xs ++ tailM n)) 38) := hB4g
  have o5 := hB4o.cell (i := 5) rfl
  clear hN4 hB4o hB4g hs4 HR
  go_wp2_with fail
  refine HKe.out.mono ?_
  rintro r w5 ⟨rfl, hK5⟩
  have HSp : Hid (Calls _ _ _ _ _) := spoil_any g1 n (n + 40) 900 w5 ⟨_, H4.out.kept hK5 fun h => h, by rw [flatL_length, List.length_append, tailM_length, HW.out.2.2.2.2.2.2.1], by omega, by have := HW.out.2.2.2.2.2.2; unfold maxLen; omega⟩ (by have := HW.out.2.2.2.2.2.2; omega) (by omega)
  have H5 : Hid (Keeps (fun _ => False) w4 w5) := hK5
  clear hK5 HKe o5
  go_wp2_with fail
  refine HSp.out.mono ?_
  rintro r w6 ⟨rfl, hK6⟩
  have HP6 : Hid (NowP w w6 t d ls' L' F G) :=
    nowP_spoil HW.out.2.2.2.1 H1.out.2.1 H2.out.1 H3.out HN4.out ((H5.out.mono fun _ _ h => h.elim).trans hK6 fun _ _ h => h) fun b hb => by have := H1.out.1.lt; have := H1.out.2.2.1; subst hb; omega
  clear hK6 HSp
  go_wp2
  go_ret
  exact ⟨⟨_, rfl, fun _ => rfl⟩, HP6.out⟩

end Go.Proofs.Ytakidbjkpbgmmaa
