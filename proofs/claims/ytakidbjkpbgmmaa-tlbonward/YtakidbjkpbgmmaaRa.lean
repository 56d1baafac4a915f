import Derived.Test.YtakidbjkpbgmmaaLs
namespace Go.Proofs.Ytakidbjkpbgmmaa
open Go.RowKit Go.Shelf
set_option linter.unusedVariables false

theorem findT_take_none {p : Int} {ls : List Lf} {k : Nat} {y : Lf} (h : findT p (ls.take k) = none) (hy : ls[k]? = some y) (hp : y.p ≠ p) : findT p (ls.take (k + 1)) = none := by
  rw [List.take_add_one, hy]
  unfold findT at h ⊢
  rw [List.find?_append, h]
  simp [hp]
theorem findT_take_hit {p : Int} {ls : List Lf} {k : Nat} {y : Lf} (h : findT p (ls.take k) = none) (hy : ls[k]? = some y) (hp : y.p = p) : findT p ls = some y := by
  have e : ls = ls.take k ++ y :: ls.drop (k + 1) := by
    obtain ⟨hk, he⟩ := List.getElem?_eq_some_iff.1 hy
    rw [← he, List.getElem_cons_drop, List.take_append_drop]
  unfold findT at h ⊢
  rw [e, List.find?_append, h]
  simp [hp]

/-- The document's has. -/
theorem has_any (a : Option Addr) (ls : List Lf) (c : Nat) (p : Int) (w : World) (hl : ls.length ≤ c ∧ c ≤ maxLen) (hs : SegL w a ls) :
    Calls Try.prog 33 #[.slice a ls.length c, .int .i64 p] w fun r w' => (∃ q : Int, r = .returned (.int .i64 q) ∧ ((q = -1 ∧ findT p ls = none) ∨ ∃ (i : Nat) (x : Lf), q = i ∧ ls[i]? = some x ∧ findT p ls = some x)) ∧ w' = w := by
  obtain ⟨L, hL⟩ : ∃ L, L = ls.length := ⟨_, rfl⟩
  have HS : Hid (SegL w a ls ∧ L = ls.length) := ⟨hs, hL⟩
  have hc2 : (L : Int) ≤ c := by omega
  have hc3 : (c : Int) ≤ 9223372036854775807 := by unfold maxLen at hl; omega
  rw [← hL]
  clear hl hs hL
  go_enter Try.func33, Try.ntmps33
  go_wp2
  go_loopw [5] (fun i wr => ∃ j : Nat, j ≤ L ∧ i = .int .i64 j ∧ findT p (ls.take j) = none ∧ wr = w) (fun i _ => L - (intOf i).toNat)
  case atStart => exact ⟨0, by omega, rfl, by simp [findT], rfl⟩
  case round =>
    obtain ⟨j, hj, rfl, hn, rfl⟩ := hrel
    by_cases hlt : j < L
    · obtain ⟨y, hy⟩ : ∃ y, ls[j]? = some y := ⟨_, List.getElem?_eq_getElem (by have := HS.out.2; omega)⟩
      obtain ⟨g, o, rfl, hg⟩ : ∃ g o, a = some ⟨g, o, none⟩ ∧ LeafAt wr g (o + j * 3) y := by
        rcases HS.out.1 with h | ⟨g, o, ha, h⟩
        · rw [h] at hy; simp at hy
        · exact ⟨g, o, ha, h j y hy⟩
      obtain ⟨y0, -, -⟩ := hg
      by_cases hyp : y.p = p
      · have HH : Hid (findT p ls = some y ∧ ls[j]? = some y) := ⟨findT_take_hit hn hy hyp, hy⟩
        rw [hyp] at y0
        clear hn hy hyp
        go_wp2
        go_ret
        exact ⟨⟨j, rfl, .inr ⟨j, y, rfl, HH.out.2, HH.out.1⟩⟩, rfl⟩
      · have hyp' : (y.p == p) = false := by simpa using hyp
        have HH : Hid (findT p (ls.take (j + 1)) = none) := findT_take_none hn hy hyp
        clear hn hy hyp
        go_wp2
        go_roundw
        case rel => exact ⟨j + 1, by omega, by go_num, HH.out, trivial⟩
        case measure => simp [intOf]; omega
    · obtain rfl : j = L := by omega
      have HH : Hid (findT p ls = none) := by
        rw [List.take_of_length_le (by have := HS.out.2; omega)] at hn
        exact hn
      clear hn
      go_wp2
      go_ret
      exact ⟨⟨-1, rfl, .inl ⟨rfl, HH.out⟩⟩, rfl⟩

theorem owns_none {w : World} {v : Value} (h : w.ownsRow 0 38 3 v 0 []) : (∃ c, v = .slice none 0 c) ∨ ∃ g c, v = .slice (some ⟨g, 0, none⟩) 0 c := by
  rcases h.2 with ⟨rfl, _⟩ | ⟨g, c, cur, rfl, _⟩
  · exact .inl ⟨0, rfl⟩
  · exact .inr ⟨g, c, rfl⟩

set_option maxHeartbeats 1000000 in
/-- The document's without. -/
theorem without_any (a : Option Addr) (ls : List Lf) (c : Nat) (p : Int) (w : World) (hl : ls.length ≤ c ∧ c ≤ maxLen) (h4 : ls.length ≤ 4294967296) (hs : SegL w a ls) :
    Calls Try.prog 34 #[.slice a ls.length c, .int .i64 p] w fun r w' => ∃ v, r = .returned v ∧ w'.ownsRow 0 38 3 v (wo p ls).length (flatL (wo p ls)) ∧ (∀ g, v.ownBlock = some g → w.heap.size ≤ g) ∧ Keeps (fun _ => False) w w' := by
  obtain ⟨L, hL⟩ : ∃ L, L = ls.length := ⟨_, rfl⟩
  have HS : Hid (SegL w a ls ∧ L = ls.length ∧ L ≤ 4294967296) := ⟨hs, hL, by omega⟩
  have hc2 : (L : Int) ≤ c := by omega
  have hc3 : (c : Int) ≤ 9223372036854775807 := by unfold maxLen at hl; omega
  rw [← hL]
  clear hl hs hL h4
  go_enter Try.func34, Try.ntmps34
  go_wp2
  go_loopw [5, 6] (fun v i wr => ∃ j : Nat, j ≤ L ∧ i = .int .i64 j ∧ wr.ownsRow 0 38 3 v (wo p (ls.take j)).length (flatL (wo p (ls.take j))) ∧ (∀ g, v.ownBlock = some g → w.heap.size ≤ g) ∧ Keeps (fun _ => False) w wr) (fun _ i _ => L - (intOf i).toNat)
  case atStart => exact ⟨0, by omega, rfl, by simpa [wo, flatL] using World.ownsRow_nil w 0 38 3, fun g hg => by simp [Value.ownBlock] at hg, Keeps.refl _ _⟩
  case round =>
    obtain ⟨j, hj, rfl, hO, hg, hK⟩ := hrel
    by_cases hlt : j < L
    · obtain ⟨y, hy⟩ : ∃ y, ls[j]? = some y := ⟨_, List.getElem?_eq_getElem (by have := HS.out.2.1; omega)⟩
      obtain ⟨g, o, rfl, hy3⟩ : ∃ g o, a = some ⟨g, o, none⟩ ∧ LeafAt w g (o + j * 3) y := by
        rcases HS.out.1 with h | ⟨g, o, ha, h⟩
        · rw [h] at hy; simp at hy
        · exact ⟨g, o, ha, h j y hy⟩
      obtain ⟨y0, y1, y2⟩ := hy3.kept hK fun h => h
      have hw := wo_take_succ p ls j y hy
      have hlen : (wo p (ls.take j)).length ≤ 4294967296 := by
        have := wo_le p (ls.take j)
        have := HS.out.2.2
        simp at *
        omega
      by_cases hyp : y.p = p
      · rw [if_pos hyp] at hw
        have HH : Hid (wr.ownsRow 0 38 3 u5 (wo p (ls.take (j + 1))).length (flatL (wo p (ls.take (j + 1)))) ∧ (∀ g, u5.ownBlock = some g → w.heap.size ≤ g) ∧ Keeps (fun _ => False) w wr) := ⟨by rw [hw]; exact hO, hg, hK⟩
        rw [hyp] at y0
        clear hO hg hK hy hyp hw hy3 hlen
        go_wp2
        go_roundw
        case rel => exact ⟨j + 1, by omega, by go_num, HH.out⟩
        case measure => simp [intOf]; omega
      · rw [if_neg hyp] at hw
        have hyp' : (y.p == p) = false := by simpa using hyp
        obtain ⟨v', W', happ, hown', hgr⟩ := append_leaf y u5 _ _ hO hlen
        have HAP : Hid (∀ ty, _) := happ
        have HH : Hid (W'.ownsRow 0 38 3 v' (wo p (ls.take (j + 1))).length (flatL (wo p (ls.take (j + 1)))) ∧ (∀ g, v'.ownBlock = some g → w.heap.size ≤ g) ∧ Keeps (fun _ => False) w W') := by
          refine ⟨?_, fun g' hg' => ?_, hK.trans hgr.keeps fun b hb he => by have := hg b he.symm; omega⟩
          · rw [hw, flatL_append, flatL_one, List.length_append]
            exact hown'
          · rcases hgr.fresh with e | ⟨z, e, hz⟩
            · rw [e] at hg'; exact hg g' hg'
            · rw [e] at hg'; cases hg'; have := hK.size; omega
        have hlt2 : g < wr.heap.size := World.block_lt_of_cell? wr _ y0
        clear hO hg hK hy hyp hw hy3 hlen happ hown' hgr
        go_wp2_with (at_builtin; go_must (refine wpList_append_run rfl _ _ 26 26 rfl _ _ _ W' rfl rfl HAP.out ?_; refine Hid.out ?_))
        unfold Hid
        clear y0 y1 y2 HAP hlt2
        go_wp2
        go_roundw
        case rel => exact ⟨j + 1, by omega, by go_num, HH.out⟩
        case measure => simp [intOf]; omega
    · obtain rfl : j = L := by omega
      have HH : Hid (wr.ownsRow 0 38 3 u5 (wo p ls).length (flatL (wo p ls)) ∧ (∀ g, u5.ownBlock = some g → w.heap.size ≤ g) ∧ Keeps (fun _ => False) w wr) := by
        rw [List.take_of_length_le (by have := HS.out.2.1; omega)] at hO
        exact ⟨hO, hg, hK⟩
      clear hO hg hK
      go_wp2
      go_ret
      exact ⟨u5, rfl, HH.out⟩

set_option maxRecDepth 20000 in
set_option maxHeartbeats 1000000 in
/-- The document's MayBe. -/
theorem mayR_any (l : Lf) (w : World) : Calls Try.prog 35 #[l.v] w fun r w' => r = .returned (.bool (mayB l)) ∧ Keeps (fun _ => False) w w' := by
  cases hm : mayB l
  · rcases may_cases hm with m | ⟨m, m1⟩ | ⟨m, m1, m2⟩ | ⟨m, m1, m2, m3⟩ | ⟨m, m1, m2, m3, m4⟩ | ⟨m, m1, m2, m3, m4, m5⟩
    all_goals
      clear hm
      first
        | (have m9 : ¬ l.r ≤ 7 := by omega)
        | skip
      go_enter Try.func35, Try.ntmps35
      go_wp2
      go_ret
      exact ⟨rfl, (Keeps.refl _ w).alloc _⟩
  · simp only [mayB, inB, Bool.and_eq_true, decide_eq_true_eq] at hm
    obtain ⟨⟨⟨m1, m2⟩, m3, m4⟩, m5, m6⟩ := hm
    have m7 : l.r ≤ 7 := by omega
    clear m6
    go_enter Try.func35, Try.ntmps35
    go_wp2
    go_ret
    exact ⟨rfl, (Keeps.refl _ w).alloc _⟩

end Go.Proofs.Ytakidbjkpbgmmaa
