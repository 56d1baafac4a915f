import Derived.Test.YtakidbjkpbgmmaaCb
namespace Go.Proofs.Ytakidbjkpbgmmaa
open Go.RowKit Go.Shelf
set_option linter.unusedVariables false

theorem NowT.trans {w w1 w2 : World} {t : Nat} {ls2 : List Lf} {F F' : Nat → Prop} (h2 : NowT w1 w2 t ls2 F') (hsub : ∀ b, F' b → F b ∨ w.heap.size ≤ b) (hK : Keeps F w w1) : NowT w w2 t ls2 F := by
  obtain ⟨⟨F'', h3, h4⟩, h5⟩ := h2
  refine ⟨⟨F'', h3, fun b hb => ?_⟩, hK.trans h5 fun b hb hF => ?_⟩
  · rcases h4 b hb with h | h
    · exact hsub b h
    · exact .inr (by have := hK.size; omega)
  · rcases hsub b hF with h | h
    · exact h
    · omega

theorem putT_take {ls : List Lf} {j : Nat} {y : Lf} (hh : heldB ls = true) (hy : ls[j]? = some y) : putT y (ls.take j) = ls.take (j + 1) := by
  have h1 : ls.length ≤ 4 ∧ (ls.map Lf.p).Nodup := by
    unfold heldB preB at hh
    simp only [Bool.and_eq_true, decide_eq_true_eq] at hh
    exact ⟨hh.1, hh.2.2⟩
  have hlt := (List.getElem?_eq_some_iff.1 hy).1
  have hw : wo y.p (ls.take j) = ls.take j := by
    refine wo_absent ?_
    unfold findT
    rw [List.find?_eq_none]
    intro z hz
    have h2 := h1.2
    rw [take_split hy, List.map_append, List.map_cons, List.nodup_append] at h2
    have := h2.2.2 z.p (List.mem_map.2 ⟨z, hz, rfl⟩) y.p (by simp)
    simpa using this
  unfold putT
  rw [hw, if_neg (by simp; omega), List.take_add_one, hy]
  rfl
theorem held_len {ls : List Lf} (hh : heldB ls = true) : ls.length ≤ 4 := by
  unfold heldB at hh
  simp only [Bool.and_eq_true, decide_eq_true_eq] at hh
  exact hh.1
theorem held_page {ls : List Lf} (hh : heldB ls = true) {y : Lf} (hy : y ∈ ls) : I64 y.p := by
  unfold heldB preB at hh
  simp only [Bool.and_eq_true] at hh
  exact mayB_p (List.all_eq_true.1 hh.2.1 y hy)

set_option maxHeartbeats 2000000 in
theorem restoreT_any (t : Nat) (L : List Lf) (F : Nat → Prop) (a : Option Addr) (ls : List Lf) (c : Nat) (w : World) (h : Tl w t L F) (hl : ls.length ≤ c ∧ c ≤ maxLen) (hs : SegL w a ls) (ha : ls ≠ [] → ∀ x, a = some x → ¬ F x.block) :
    Calls Try.prog 14 #[ptr t, .slice a ls.length c] w fun r w' => (heldB ls = false ∧ r = .returned (.int .i64 81) ∧ NowT w w' t L F) ∨ (heldB ls = true ∧ r = .returned (.int .i64 0) ∧ NowT w w' t ls F) := by
  have HC : Hid (Calls _ _ _ _ _) := canBeHeld_any a ls c w hl hs
  obtain ⟨n, hn⟩ : ∃ n, n = ls.length := ⟨_, rfl⟩
  have HS : Hid (SegL w a ls ∧ n = ls.length ∧ (ls.length ≤ c ∧ c ≤ maxLen) ∧ Tl w t L F ∧ (ls ≠ [] → ∀ x, a = some x → ¬ F x.block)) := ⟨hs, hn, hl, h, ha⟩
  have hc2 : (n : Int) ≤ c := by omega
  have hc3 : (c : Int) ≤ 9223372036854775807 := by unfold maxLen at hl; omega
  rw [← hn] at HC ⊢
  clear hl hs hn h ha
  cases hh : heldB ls
  · rw [hh] at HC
    clear hh
    go_enter Try.func14, Try.ntmps14
    go_wp2_with fail
    refine HC.out.mono ?_
    rintro r w1 ⟨rfl, hK⟩
    have HK : Hid (Keeps (fun _ => False) w w1) := hK
    clear hK HC
    go_wp2
    go_ret
    exact .inl ⟨trivial, rfl, nowT_same HS.out.2.2.2.1 HK.out⟩
  · rw [hh] at HC
    have HB : Hid (heldB ls = true) := hh
    clear hh
    go_enter Try.func14, Try.ntmps14
    go_wp2_with fail
    refine HC.out.mono ?_
    rintro r w1 ⟨rfl, hK⟩
    have HK : Hid (Keeps (fun _ => False) w w1) := hK
    have HF : Hid (Calls _ _ _ _ _) := flush_any t L F w1 (HS.out.2.2.2.1.kept hK fun _ _ h => h)
    clear hK HC
    go_wp2_with fail
    refine HF.out.mono ?_
    rintro r w2 ⟨rfl, hN⟩
    have H2 : Hid (NowT w w2 t [] F) := hN.first HK.out HS.out.2.2.2.1.lt
    clear hN HF
    go_wp2
    go_loopw [16] (fun i wr => ∃ j : Nat, j ≤ n ∧ i = .int .i64 j ∧ NowT w wr t (ls.take j) F) (fun i _ => n - (intOf i).toNat)
    case atStart => exact ⟨0, by omega, rfl, H2.out⟩
    case round =>
      obtain ⟨j, hj, rfl, hN⟩ := hrel
      by_cases hlt : j < n
      · obtain ⟨y, hy⟩ : ∃ y, ls[j]? = some y := ⟨_, List.getElem?_eq_getElem (by have := HS.out.2.1; omega)⟩
        obtain ⟨g, o, rfl, hy3⟩ : ∃ g o, a = some ⟨g, o, none⟩ ∧ LeafAt w g (o + j * 3) y := by
          rcases HS.out.1 with h | ⟨g, o, ha, h⟩
          · rw [h] at hy; simp at hy
          · exact ⟨g, o, ha, h j y hy⟩
        obtain ⟨y0, y1, y2⟩ := hy3.kept hN.2 (HS.out.2.2.2.2 (fun h => by rw [h] at hy; simp at hy) _ rfl)
        have hgl : g < wr.heap.size := World.block_lt_of_cell? wr _ y0
        obtain ⟨X, hX⟩ : ∃ X, X = wr.alloc (.cells #[.int .i64 y.p, .int .i64 y.f, .int .i64 y.r] 38) := ⟨_, rfl⟩
        have hKX : Keeps (fun _ => False) wr X := by rw [hX]; exact (Keeps.refl _ wr).alloc _
        obtain ⟨⟨F', hT, hsub⟩, hKF⟩ := hN
        have HL : Hid (Calls _ _ _ _ _) := lay_any t (ls.take j) F' y X (hT.kept hKX fun _ _ h => h) (held_page HB.out (List.mem_of_getElem? hy))
        rw [putT_take HB.out hy] at HL
        have HN : Hid ((∀ b, F' b → F b ∨ w.heap.size ≤ b) ∧ Keeps F w wr ∧ Keeps (fun _ => False) wr X ∧ ∀ b, F' b → b < wr.heap.size) := ⟨hsub, hKF, hKX, hT.lt⟩
        have HX : Hid (X = _) := hX
        have hlt' : (j : Int) < n := by omega
        clear hT hsub hKF hKX hX hy hy3
        go_wp2_with fail
        rw [← HX.out]
        refine HL.out.mono ?_
        rintro r w3 ⟨rfl, hN3⟩
        have H3 : Hid (NowT w w3 t (ls.take (j + 1)) F) := (hN3.first HN.out.2.2.1 HN.out.2.2.2).trans HN.out.1 HN.out.2.1
        clear hN3 HL y0 y1 y2 hgl
        go_wp2
        go_roundw
        case rel => exact ⟨j + 1, by omega, by go_num, H3.out⟩
        case measure => simp [intOf]; omega
      · obtain rfl : j = n := by omega
        have HN : Hid (NowT w wr t ls F) := by
          rw [List.take_of_length_le (by have := HS.out.2.1; omega)] at hN
          exact hN
        clear hN
        go_wp2
        go_ret
        exact .inr ⟨trivial, rfl, HN.out⟩

end Go.Proofs.Ytakidbjkpbgmmaa
