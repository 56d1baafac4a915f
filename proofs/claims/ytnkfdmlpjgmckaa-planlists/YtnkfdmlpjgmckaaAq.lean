import Derived.Test.YtnkfdmlpjgmckaaAp
namespace Go.Proofs.Ytnkfdmlpjgmckaa
open Go.RowKit
set_option linter.unusedVariables false
set_option maxRecDepth 6000

/-- A row of spans of one's own. -/
abbrev OwnS (w : World) (u : Value) (xs : List Spn) : Prop := w.ownsRow 0 69 4 u xs.length (xs.flatMap Spn.vs)
theorem flat_set (xs : List Spn) (j : Nat) (y : Spn) (hj : j < xs.length) :
    (((((xs.flatMap Spn.vs).set (j * 4) (.int .i64 y.core)).set (j * 4 + 1) (.int .i64 y.win)).set (j * 4 + 2) (.int .i64 y.fr)).set (j * 4 + 3) (.int .i64 y.til)) = (xs.set j y).flatMap Spn.vs := by
  induction xs generalizing j with
  | nil => simp at hj
  | cons x xs ih =>
    cases j with
    | zero => rfl
    | succ j =>
      have h := ih j (by simpa using hj)
      have e0 : (j + 1) * 4 = j * 4 + 1 + 1 + 1 + 1 := by omega
      have e1 : (j + 1) * 4 + 1 = j * 4 + 1 + 1 + 1 + 1 + 1 := by omega
      have e2 : (j + 1) * 4 + 2 = j * 4 + 2 + 1 + 1 + 1 + 1 := by omega
      have e3 : (j + 1) * 4 + 3 = j * 4 + 3 + 1 + 1 + 1 + 1 := by omega
      rw [e3, e2, e1, e0, List.set_cons_succ, List.flatMap_cons, List.flatMap_cons, ← h]
      simp only [Spn.vs, List.cons_append, List.nil_append, List.set_cons_succ]
theorem ownS_set {w : World} {g n cap : Nat} {xs : List Spn} (hn : xs.length = n) (h : OwnS w (.slice (some ⟨g, 0, none⟩) n cap) xs) (j : Nat) (y : Spn) (hj : j < n) :
    OwnS ((((w.setCell ⟨g, j * 4, none⟩ (.int .i64 y.core)).setCell ⟨g, j * 4 + 1, none⟩ (.int .i64 y.win)).setCell ⟨g, j * 4 + 2, none⟩ (.int .i64 y.fr)).setCell ⟨g, j * 4 + 3, none⟩ (.int .i64 y.til)) (.slice (some ⟨g, 0, none⟩) n cap) (xs.set j y) := by
  unfold OwnS at *
  rw [List.length_set, ← flat_set xs j y (by omega)]
  refine ⟨by simp only [List.length_set]; exact h.1, ?_⟩
  rcases h.2 with ⟨h2, _⟩ | ⟨g', cap', cur, h2, hb, hg, h3, h4, h5, h6⟩
  · cases h2
  · cases h2
    have hB : Blk w g cur.toList 69 := by unfold Blk; rw [hg, Array.toArray_toList]
    have hS := (((hB.setCell (j * 4) (.int .i64 y.core)).setCell (j * 4 + 1) (.int .i64 y.win)).setCell (j * 4 + 2) (.int .i64 y.fr)).setCell (j * 4 + 3) (.int .i64 y.til)
    refine .inr ⟨g, cap, _, by rw [hn], hb, hS, h3, h4, by simpa using h5, ?_⟩
    rw [List.toList_toArray, List.take_set, List.take_set, List.take_set, List.take_set, h6]
theorem ownS_blk {w : World} {g n cap : Nat} {xs : List Spn} (hn : xs.length = n) (h : OwnS w (.slice (some ⟨g, 0, none⟩) n cap) xs) : ∃ l, Blk w g l 69 ∧ n * 4 ≤ l.length := by
  rcases h.2 with ⟨h2, _⟩ | ⟨g', cap', cur, h2, hb, hg, h3, h4, h5, h6⟩
  · cases h2
  · cases h2
    refine ⟨cur.toList, by unfold Blk; rw [hg, Array.toArray_toList], ?_⟩
    have h7 : cur.toList.length = cap * 4 := h5
    rw [h7]
    exact Nat.mul_le_mul_right _ (by omega)
theorem ownS_seg {w : World} {u : Value} {xs : List Spn} (h : OwnS w u xs) : ∃ a c, u = .slice a xs.length c ∧ (xs.length ≤ c ∧ c ≤ maxLen) ∧ SegA Spn.vs 4 w a xs ∧ (xs ≠ [] → ∃ g, a = some ⟨g, 0, none⟩) := by
  rcases h.2 with ⟨rfl, h0⟩ | ⟨g, cap, cur, rfl, hb, hg, h3, h4, h5, h6⟩
  · have : xs = [] := List.eq_nil_of_length_eq_zero h0
    subst this
    exact ⟨none, 0, rfl, ⟨Nat.le_refl _, Nat.zero_le _⟩, .inl rfl, fun h => (h rfl).elim⟩
  · refine ⟨_, cap, rfl, ⟨h3, h4⟩, .inr ⟨g, 0, rfl, fun j x hj i v hv => ?_⟩, fun _ => ⟨g, rfl⟩⟩
    have := h.cells (g := g) rfl (j * 4 + i) v (flat_get eSpn xs j x i v hj hv)
    rw [addr_add] at this
    rw [Nat.add_assoc]
    exact this

/-- append of a new block of one: in place, or into a new block; then nothing else is written. -/
theorem append_new2 {w : World} (i : TypeInfo) (hi : Try.prog.info? 69 = some i) (hz : i.zero = some (.agg #[.int .i64 0, .int .i64 0, .int .i64 0, .int .i64 0])) (hs : i.size = 4) (hb : i.bytes = 32)
    (v : Value) (n : Nat) (vs : List Value) (hown : w.ownsRow 0 69 4 v n vs) (xs : Array Value) (hl : xs.size = 4) (h1 : ∀ u ∈ xs.toList, u.oneCell' = true) (hm : n + 1 ≤ maxLen) (hbytes : (n + 1) * 32 ≤ 140737488355328) :
    ∃ v' W', (∀ ty, (Builtin.append_ #[44, 44] ty #[v, .slice (some ⟨w.heap.size, 0, none⟩) 1 1]).run Try.prog (w.alloc (.cells xs 69)) = .ok v' W') ∧ W'.ownsRow 0 69 4 v' (n + 1) (vs ++ xs.toList) ∧
      ((v'.ownBlock = v.ownBlock ∧ Keeps (fun k => some k = v.ownBlock) w W') ∨ ((∃ k, v'.ownBlock = some k ∧ w.heap.size ≤ k) ∧ Keeps (fun _ => False) w W')) := by
  have hW : Keeps (fun _ => False) w (w.alloc (.cells xs 69)) := (Keeps.refl _ w).alloc _
  have hown1 : (w.alloc (.cells xs 69)).ownsRow 0 69 4 v n vs := owns_kept hown hW (fun _ _ h => h)
  have hnews : ∀ j u, xs.toList[j]? = some u → (w.alloc (.cells xs 69)).cell? ((⟨w.heap.size, 0, none⟩ : Addr).add j) = some u := by
    intro j u hj
    have hB := Blk.new w xs 69
    rw [addr_add]
    exact hB.cell (by rw [Nat.zero_add]; exact hj)
  obtain ⟨v', W', hr, ho, hfr, hK⟩ := append_many 44 69 i _ 4 32 Try.underlying44 hi hz hs hb rfl (by omega) v n vs hown1 ⟨w.heap.size, 0, none⟩ 1 1 xs.toList (by simpa using hl) hnews h1 hm hbytes
  have hK0 : Keeps (fun k => some k = v.ownBlock) w W' := (hW.mono fun _ _ h => h.elim).trans hK fun _ _ h => h
  refine ⟨v', W', hr, ho, ?_⟩
  have hbig : n + 1 ≤ 9223372036854775807 := by unfold maxLen at hm; omega
  rcases hown1.2 with ⟨rfl, rfl⟩ | ⟨g, cap, cur, rfl, _, hg1, hnc, hcm, hcs, htake⟩
  · right
    have h2 := run_append_nil (P := Try.prog) (w.alloc (.cells xs 69)) 44 0 69 i _ Try.underlying44 hi hz ⟨w.heap.size, 0, none⟩ 1 1 xs.toList (by rw [hs]; simpa using hl) hnews (by omega) (by omega) (by rw [hb]; omega)
    rw [hr] at h2
    have e1 := (Result.ok.inj h2)
    refine ⟨⟨_, by rw [e1.1]; rfl, by simp⟩, ?_⟩
    rw [e1.2]
    exact ((hW.drew).alloc _)
  · by_cases hroom : n + 1 ≤ cap
    · left
      refine ⟨?_, hK0⟩
      have h2 := run_append_room (P := Try.prog) (w.alloc (.cells xs 69)) 44 0 69 i Try.underlying44 hi g n cap cur hg1 ⟨w.heap.size, 0, none⟩ 1 1 xs.toList (by rw [hs]; simpa using hl) hnews h1 hroom (by
        rw [hs, hcs]
        have : xs.toList.length = 4 := by simpa using hl
        rw [this]; omega)
      rw [hr] at h2
      have e1 : v' = _ := (Result.ok.inj h2).1
      rw [e1]
      rfl
    · right
      have h2 := run_append_grow (P := Try.prog) (w.alloc (.cells xs 69)) 44 0 69 i _ Try.underlying44 hi hz ⟨g, 0, none⟩ n cap vs (by rw [hs]; exact hown1.1) (hown1.cells rfl) ⟨w.heap.size, 0, none⟩ 1 1 xs.toList (by rw [hs]; simpa using hl) hnews (by omega) (by omega) (by
        rw [hb]; exact growslice_fits (by omega) hbytes)
      rw [hr] at h2
      have e1 := (Result.ok.inj h2)
      refine ⟨⟨_, by rw [e1.1]; rfl, by simp⟩, ?_⟩
      rw [e1.2]
      exact ((hW.drew).alloc _)

set_option maxHeartbeats 1000000 in
theorem marked_any (a : Option Addr) (c : Nat) (xs : List Spn) (m : Int) (w : World) (h : OwnS w (.slice a xs.length c) xs) (hsg : SegA Spn.vs 4 w a xs) (hl : xs.length ≤ 2147483647) :
    Calls Try.prog 41 #[.slice a xs.length c, .int .i64 m] w fun e w' => ∃ u', e = .returned u' ∧ OwnS w' u' (xs ++ List.replicate 17 ⟨m, 0, 0, 0⟩) ∧ Grew w (.slice a xs.length c) w' u' ∧ SegA Spn.vs 4 w' a xs := by
  obtain ⟨u, hu⟩ : ∃ u, Value.slice a xs.length c = u := ⟨_, rfl⟩
  rw [hu] at h ⊢
  have HO : Hid (OwnS w u xs ∧ xs.length ≤ 2147483647 ∧ SegA Spn.vs 4 w a xs ∧ Value.slice a xs.length c = u) := ⟨h, hl, hsg, hu⟩
  clear h hl hsg hu
  go_enter Try.func41, Try.ntmps41
  go_wp2
  go_loopw [0, 5] (fun v k wr => ∃ j : Nat, j ≤ 17 ∧ k = .int .i64 j ∧ OwnS wr v (xs ++ List.replicate j ⟨m, 0, 0, 0⟩) ∧ Grew w u wr v ∧ SegA Spn.vs 4 wr a xs) (fun _ k _ => 17 - (intOf k).toNat)
  case atStart => exact ⟨0, by omega, rfl, by simpa using HO.out.1, Grew.refl _ _, HO.out.2.2.1⟩
  case round =>
    obtain ⟨j, hj, rfl, hO, hG, hSg⟩ := hrel
    by_cases hlt : j < 17
    · obtain ⟨i0, hi, hz0, hz1, hz2⟩ := info_parts Try.info69
      have hvs : ∀ v ∈ Spn.vs ⟨m, 0, 0, 0⟩, v.oneCell' = true := by
        intro v hv
        simp only [Spn.vs, List.mem_cons, List.not_mem_nil, or_false] at hv
        rcases hv with rfl | rfl | rfl | rfl <;> rfl
      have hlen : (xs ++ List.replicate j (⟨m, 0, 0, 0⟩ : Spn)).length + 1 ≤ 2147483700 := by rw [List.length_append, List.length_replicate]; have := HO.out.2.1; omega
      obtain ⟨v', W', happ, hown', hor⟩ := append_new2 i0 hi hz0 hz1 hz2 u0 _ _ hO (Spn.vs ⟨m, 0, 0, 0⟩).toArray rfl (by simpa using hvs) (by unfold maxLen; omega) (by omega)
      have hown2 : OwnS W' v' (xs ++ List.replicate (j + 1) ⟨m, 0, 0, 0⟩) := by
        rw [List.replicate_succ', ← List.append_assoc]
        unfold OwnS
        rw [List.flatMap_append, List.length_append]
        exact hown'
      have HN : Hid (OwnS W' v' (xs ++ List.replicate (j + 1) ⟨m, 0, 0, 0⟩) ∧ Grew w u W' v' ∧ SegA Spn.vs 4 W' a xs) := by
        rcases hor with ⟨e1, hKa⟩ | ⟨hfr, hKa⟩
        · refine ⟨hown2, hG.trans ⟨.inl e1, hKa⟩, ?_⟩
          by_cases hx : xs = []
          · exact .inl hx
          · obtain ⟨a', c', hv', _, hsg', hg'⟩ := ownS_seg hown2
            obtain ⟨g', rfl⟩ := hg' (by simp [hx])
            rcases hSg with h0 | ⟨g, o, ha, _⟩
            · exact (hx h0).elim
            · by_cases hgg : some g = u0.ownBlock
              · have hog : o = 0 := by
                  obtain ⟨a2, c2, hu2, _, _, hg2⟩ := ownS_seg HO.out.1
                  obtain ⟨g2, rfl⟩ := hg2 hx
                  have := HO.out.2.2.2
                  rw [hu2, ha] at this
                  cases this
                  rfl
                have : g' = g := by
                  have h1 : v'.ownBlock = some g' := by rw [hv']; rfl
                  rw [e1, ← hgg] at h1
                  cases h1; rfl
                subst this hog
                refine .inr ⟨g', 0, ha, fun i x hi k v hv => ?_⟩
                rcases hsg' with h0 | ⟨g3, o3, e3, h3⟩
                · simp [hx] at h0
                · cases e3
                  exact h3 i x (by rw [List.getElem?_append_left (List.getElem?_eq_some_iff.1 hi).1]; exact hi) k v hv
              · rename_i hcell
                exact SegA.kept (.inr ⟨g, o, ha, hcell⟩) hKa fun _ y hy e2 => by
                  rw [ha] at hy; cases hy; exact hgg e2
        · exact ⟨hown2, hG.trans ⟨.inr hfr, hKa.mono fun _ _ e => e.elim⟩, hSg.kept hKa fun _ _ _ e => e⟩
      have HAP : Hid (∀ ty, (Builtin.append_ #[44, 44] ty #[u0, .slice (some ⟨wr.heap.size, 0, none⟩) 1 1]).run Try.prog (wr.alloc (.cells (Spn.vs ⟨m, 0, 0, 0⟩).toArray 69)) = .ok v' W') := happ
      have hlt' : (j : Int) < 17 := by omega
      clear hi hz0 hz1 hz2 hvs happ hown' hor hown2 hlen hO hG hSg
      go_wp2_with (at_builtin; go_must (refine wpList_append_run rfl (.tmp 10) (.tmp 13) 44 44 rfl u0 (.slice (some ⟨wr.heap.size, 0, none⟩) 1 1) v' W' rfl rfl HAP.out ?_; refine Hid.out ?_))
      unfold Hid
      clear HAP
      go_wp2
      go_roundw
      case rel => exact ⟨j + 1, by omega, by go_num, HN.out.1, HN.out.2.1, HN.out.2.2⟩
      case measure => simp [intOf]; omega
    · obtain rfl : j = 17 := by omega
      have HE : Hid (OwnS wr u0 (xs ++ List.replicate 17 ⟨m, 0, 0, 0⟩) ∧ Grew w u wr u0 ∧ SegA Spn.vs 4 wr a xs) := ⟨hO, hG, hSg⟩
      clear hO hG hSg
      go_wp2
      go_ret
      exact ⟨_, rfl, HE.out.1, HE.out.2.1, HE.out.2.2⟩

set_option maxHeartbeats 1000000 in
theorem allS_any (a : Option Addr) (c : Nat) (l : List Spn) (f t : Nat) (m : Int) (w : World) (hs : SegA Spn.vs 4 w a l) (hl : l.length ≤ c ∧ c ≤ maxLen) (hft : f ≤ t) (ht : t ≤ l.length) (hm : ∀ (i : Nat) (s : Spn), f ≤ i → i < t → l[i]? = some s → s.core = m) :
    Calls Try.prog 42 #[.slice a l.length c, .int .i64 f, .int .i64 t, .int .i64 m] w fun e w' => e = .returned (.bool true) ∧ w' = w := by
  obtain ⟨L, hL⟩ : ∃ L, l.length = L := ⟨_, rfl⟩
  rw [hL] at hl ht ⊢
  have HS : Hid (SegA Spn.vs 4 w a l ∧ l.length = L ∧ (∀ (i : Nat) (s : Spn), f ≤ i → i < t → l[i]? = some s → s.core = m)) := ⟨hs, hL, hm⟩
  have hc1 : (L : Int) ≤ c := by omega
  have hc3 : (c : Int) ≤ 9223372036854775807 := by unfold maxLen at hl; omega
  clear hs hL hm hl
  go_enter Try.func42, Try.ntmps42
  go_wp2
  go_loopw [9] (fun k wr => ∃ j : Nat, f ≤ j ∧ j ≤ t ∧ k = .int .i64 j ∧ wr = w) (fun k _ => t - (intOf k).toNat)
  case atStart => exact ⟨f, by omega, by omega, rfl, rfl⟩
  case round =>
    obtain ⟨j, hj1, hj2, rfl, hw⟩ := hrel
    obtain rfl := hw.symm
    by_cases hlt : j < t
    · obtain ⟨y, hy⟩ : ∃ y, l[j]? = some y := ⟨_, List.getElem?_eq_getElem (by have := HS.out.2.1; omega)⟩
      obtain ⟨g1, o1, rfl, hg1⟩ := HS.out.1.at hy
      have y0 := hg1 0 _ rfl
      rw [Nat.add_zero] at y0
      have hm := HS.out.2.2 j y hj1 hlt hy
      rw [hm] at y0
      have hlt' : (j : Int) < t := by omega
      have hlL : (j : Int) < L := by omega
      clear hg1 hy hm
      go_wp2
      go_roundw
      case rel => exact ⟨j + 1, by omega, by omega, by go_num, trivial⟩
      case measure => simp [intOf]; omega
    · obtain rfl : j = t := by omega
      go_wp2
      go_ret
      exact ⟨rfl, rfl⟩
end Go.Proofs.Ytnkfdmlpjgmckaa
