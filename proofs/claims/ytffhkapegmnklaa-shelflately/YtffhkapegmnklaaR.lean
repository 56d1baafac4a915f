import Derived.Test.YtffhkapegmnklaaQ
namespace Go.Proofs.Ytffhkapegmnklaa
open Go.RowKit Go.Shelf
set_option linter.unusedVariables false

theorem ret_bool {a b : Bool} (h : a = b) : Ending.returned (.bool a) = .returned (.bool b) := by rw [h]

theorem uniq_append (l m : List Int) : uniq (l ++ m) = uniq l ++ (uniq m).filter (fun x => decide (x ∉ l)) := by
  induction l with
  | nil =>
    show uniq m = [] ++ _
    rw [List.nil_append]
    exact (List.filter_eq_self.2 (by simp)).symm
  | cons k l ih =>
    simp only [List.cons_append, uniq, ih, List.filter_append, List.filter_filter]
    congr 2
    refine List.filter_congr fun x _ => ?_
    by_cases h1 : x = k <;> by_cases h2 : x ∈ l <;> simp [h1, h2]

theorem mem_uniq (x : Int) (l : List Int) : x ∈ uniq l ↔ x ∈ l := by
  induction l with
  | nil => simp [uniq]
  | cons k l ih =>
    simp only [uniq, List.mem_cons, List.mem_filter, ih]
    by_cases h : x = k <;> simp [h]

theorem uniq_snoc (l : List Int) (x : Int) : uniq (l ++ [x]) = if x ∈ uniq l then uniq l else uniq l ++ [x] := by
  rw [uniq_append]
  simp only [uniq, List.filter_nil]
  by_cases h : x ∈ l
  · rw [if_pos ((mem_uniq x l).2 h)]
    simp [h]
  · rw [if_neg fun h' => h ((mem_uniq x l).1 h')]
    simp [h]

theorem uniq_full {l m : List Int} {r : Nat} (h : (uniq l).length = r) : (uniq (l ++ m)).take r = uniq l := by
  rw [uniq_append, List.take_append_of_le_length (by omega), List.take_of_length_le (by omega)]

def ivs (ws : List Int) : List Value := ws.map fun x => .int .i64 x
theorem ivs_length (ws : List Int) : (ivs ws).length = ws.length := by simp [ivs]

theorem owns_seg {w : World} {v : Value} {n : Nat} {ws : List Int} (h : w.ownsRow 0 3 1 v n (ivs ws)) : n = ws.length ∧ ∃ a c, v = .slice a ws.length c ∧ SegI w a ws ∧ ∀ x, a = some x → v.ownBlock = some x.block := by
  have hn : n = ws.length := by have := h.1; rw [ivs_length] at this; omega
  refine ⟨hn, ?_⟩
  rcases h.2 with ⟨rfl, h0⟩ | ⟨g, cap, cur, rfl, h5⟩
  · refine ⟨none, 0, ?_, .inl (List.eq_nil_of_length_eq_zero (by omega)), fun x hx => by cases hx⟩
    rw [← hn, h0]
  · refine ⟨some ⟨g, 0, none⟩, cap, by rw [hn], .inr ⟨g, 0, rfl, fun j hj => ?_⟩, fun x hx => by cases hx; rfl⟩
    have := h.cells (g := g) rfl j (.int .i64 (ws[j])) (by simp [ivs, hj])
    rw [addr_add] at this
    exact this

theorem Try.info3 : (Try.prog.info? 3).map (fun i => (i.zero, i.size, i.bytes)) = some (some (.int .i64 0), 1, 8) := by kernel_rfl
theorem append_int {w : World} (x : Int) (v : Value) (n : Nat) (vs : List Value) (hown : w.ownsRow 0 3 1 v n vs) (hn : n ≤ 4294967296) :
    ∃ v' W', (∀ ty, (Builtin.append_ #[33, 33] ty #[v, .slice (some ⟨w.heap.size, 0, none⟩) 1 1]).run Try.prog (w.alloc (.cells #[.int .i64 x] 3)) = .ok v' W') ∧ W'.ownsRow 0 3 1 v' (n + 1) (vs ++ [.int .i64 x]) ∧ Grew w v W' v' := by
  obtain ⟨i0, hi, hz0, hz1, hz2⟩ := info_parts Try.info3
  obtain ⟨v', W', h1, h2, h3, h4⟩ := append_new 33 3 i0 (.int .i64 0) 1 8 Try.underlying33 hi hz0 hz1 hz2 rfl (by omega) v n vs hown #[.int .i64 x] rfl (by
    intro y hy
    simp at hy
    rw [hy]; rfl) (by unfold maxLen; omega) (by omega)
  exact ⟨v', W', h1, h2, h3, h4⟩

set_option maxHeartbeats 1000000 in
theorem among_any (a : Option Addr) (c : Nat) (ws : List Int) (k : Int) (w : World) (hs : SegI w a ws) (hl : (ws.length : Int) ≤ 4294967296) :
    Calls Try.prog 18 #[.slice a ws.length c, .int .i64 k] w fun e w' => e = .returned (.bool (decide (k ∈ ws))) ∧ w' = w := by
  obtain ⟨n, hn⟩ : ∃ n, n = ws.length := ⟨_, rfl⟩
  rw [← hn] at hl ⊢
  have HS : Hid (SegI w a ws ∧ n = ws.length) := ⟨hs, hn⟩
  clear hs hn
  go_enter Try.func18, Try.ntmps18
  go_wp2
  go_loopw [5] (fun i wr => ∃ j : Nat, j ≤ n ∧ i = .int .i64 j ∧ wr = w ∧ ∀ m, (hm : m < ws.length) → m < j → ws[m] ≠ k) (fun i _ => n - (intOf i).toNat)
  case atStart => exact ⟨0, by omega, rfl, rfl, fun m _ h => by omega⟩
  case round =>
    obtain ⟨j, hj, rfl, rfl, hno⟩ := hrel
    by_cases hlt : j < n
    · have hju : j < ws.length := by have := HS.out.2; omega
      rcases HS.out.1 with h0 | ⟨b, o, rfl, hcell⟩
      · exact absurd hju (by rw [h0]; simp)
      · have cu := hcell j hju
        obtain ⟨x, hx⟩ : ∃ x, x = ws[j]'hju := ⟨_, rfl⟩
        rw [← hx] at cu
        by_cases hxk : x = k
        · have HM : Hid (k ∈ ws) := by rw [← hxk, hx]; exact List.getElem_mem hju
          have he : (x == k) = true := by simp [hxk]
          clear hno hju hcell hx hxk
          go_wp2
          go_ret
          exact ⟨ret_bool (by rw [decide_eq_true HM.out]), rfl⟩
        · have HM : Hid (∀ m, (hm : m < ws.length) → m < j + 1 → ws[m] ≠ k) := fun m hm h => by
            by_cases e : m = j
            · subst e; rw [← hx]; exact hxk
            · exact hno m hm (by omega)
          have he : (x == k) = false := by simp [hxk]
          clear hno hju hcell hx hxk
          go_wp2
          go_roundw
          case rel => exact ⟨j + 1, by omega, by go_num, trivial, HM.out⟩
          case measure => simp [intOf]; omega
    · obtain rfl : j = n := by omega
      have HM : Hid (¬ k ∈ ws) := fun hm => by
        obtain ⟨m, hm1, hm2⟩ := List.getElem_of_mem hm
        exact hno m hm1 (by have := HS.out.2; omega) hm2
      clear hno
      go_wp2
      go_ret
      exact ⟨ret_bool (by rw [decide_eq_false HM.out]), rfl⟩

theorem rev_take (used : List Int) (j : Nat) (x : Int) (hj : j < used.length) (hx : used[used.length - 1 - j]? = some x) : used.reverse.take (j + 1) = used.reverse.take j ++ [x] := by
  rw [List.take_add_one, List.getElem?_reverse hj, hx]; rfl

set_option maxHeartbeats 2000000 in
theorem lately_any (a : Option Addr) (c : Nat) (used : List Int) (rm : Nat) (w : World) (hs : SegI w a used) (hl : (used.length : Int) ≤ 2147483647) (hr : rm ≤ 4096) :
    Calls Try.prog 19 #[.slice a used.length c, .int .i64 rm] w fun e w' => ∃ v, e = .returned v ∧ w'.ownsRow 0 3 1 v (latelyL used rm).length (ivs (latelyL used rm)) ∧ Grew w (.slice none 0 0) w' v := by
  obtain ⟨n, hn⟩ : ∃ n, n = used.length := ⟨_, rfl⟩
  rw [← hn] at hl ⊢
  have HS : Hid (SegI w a used ∧ n = used.length) := ⟨hs, hn⟩
  have hri : (rm : Int) ≤ 4096 := by omega
  clear hs hn hr
  go_enter Try.func19, Try.ntmps19
  go_wp2
  go_loopw [5, 6] (fun o i wr => ∃ j : Nat, j ≤ n ∧ i = .int .i64 ((n : Int) - 1 - j) ∧ (uniq (used.reverse.take j)).length ≤ rm ∧ wr.ownsRow 0 3 1 o (uniq (used.reverse.take j)).length (ivs (uniq (used.reverse.take j))) ∧ Grew w (.slice none 0 0) wr o)
    (fun _ i _ => (intOf i + 1).toNat)
  case atStart => exact ⟨0, by omega, by go_num, by simp [uniq], by simpa [uniq, ivs] using World.ownsRow_nil w 0 3 1, Grew.refl _ _⟩
  case round =>
    obtain ⟨j, hj, rfl, hle, hB, hG⟩ := hrel
    have hKr : Keeps (fun _ => False) w wr := hG.owns rfl
    obtain ⟨_, a5, c5, rfl, hseg5, hob⟩ := owns_seg hB
    obtain ⟨l5, hl5⟩ : ∃ l5, l5 = (uniq (used.reverse.take j)).length := ⟨_, rfl⟩
    by_cases hgo : j < n ∧ l5 < rm
    · obtain ⟨hlt, hlr⟩ := hgo
      have hju : n - 1 - j < used.length := by have := HS.out.2; omega
      rcases HS.out.1 with h0 | ⟨b, o, rfl, hcell⟩
      · exact absurd hju (by rw [h0]; simp)
      · have hb1 : b < w.heap.size := World.block_lt_of_cell? w ⟨b, o + (n - 1 - j), none⟩ (hcell _ hju)
        have cu : wr.cell? ⟨b, o + (n - 1 - j), none⟩ = some (.int .i64 (used[n - 1 - j]'hju)) := by
          rw [World.cell?_of_block (w := w) (hKr.block b hb1 fun h => h)]
          exact hcell _ hju
        obtain ⟨x, hx⟩ : ∃ x, x = used[n - 1 - j]'hju := ⟨_, rfl⟩
        rw [← hx] at cu
        have hx2 : used[used.length - 1 - j]? = some x := by
          rw [← HS.out.2, hx]; exact List.getElem?_eq_getElem hju
        have hrt := rev_take used j x (by have := HS.out.2; omega) hx2
        have HA : Hid (Calls _ _ _ _ _) := among_any a5 c5 _ x wr hseg5 (by omega)
        rw [← hl5] at HA hB hle hG ⊢
        have hidx : ((n - 1 - j : Nat) : Int) = (n : Int) - 1 - j := by omega
        obtain ⟨q, hq⟩ : ∃ q : Nat, q = n - 1 - j := ⟨_, rfl⟩
        rw [← hq] at cu hidx
        have hqi : (n : Int) - 1 - (j : Int) = (q : Int) := by omega
        have hqn : (q : Int) < (n : Int) := by omega
        rw [hqi]
        have HQ : Hid ((n : Int) - 1 - (j : Int) = (q : Int)) := hqi
        have hlri : (l5 : Int) < (rm : Int) := by omega
        by_cases hm : x ∈ uniq (used.reverse.take j)
        · rw [decide_eq_true hm] at HA
          have HN : Hid ((uniq (used.reverse.take (j + 1))).length ≤ rm ∧ wr.ownsRow 0 3 1 (.slice a5 l5 c5) (uniq (used.reverse.take (j + 1))).length (ivs (uniq (used.reverse.take (j + 1)))) ∧ Grew w (.slice none 0 0) wr (.slice a5 l5 c5) ∧ j < n) := by
            rw [hrt, uniq_snoc, if_pos hm, ← hl5]
            exact ⟨hle, hB, hG, hlt⟩
          clear hle hB hG hKr hseg5 hob hju hcell hb1 hx hx2 hrt hm hidx hq hqi hlt hj hlr hl5
          go_wp2_with fail
          refine HA.out.mono ?_
          rintro e w2 ⟨rfl, rfl⟩
          clear HA cu
          go_wp2
          go_roundw
          case rel => exact ⟨j + 1, by have := HN.out.2.2.2; omega, by have := HQ.out; go_num, HN.out.1, HN.out.2.1, HN.out.2.2.1⟩
          case measure => simp [intOf]
        · rw [decide_eq_false hm] at HA
          obtain ⟨v', W', happ, hown', hfr'⟩ := append_int x (.slice a5 l5 c5) l5 _ hB (by omega)
          have HAP : Hid (∀ ty, _) := happ
          have HN : Hid ((uniq (used.reverse.take (j + 1))).length ≤ rm ∧ W'.ownsRow 0 3 1 v' (uniq (used.reverse.take (j + 1))).length (ivs (uniq (used.reverse.take (j + 1)))) ∧ Grew w (.slice none 0 0) W' v' ∧ j < n) := by
            rw [hrt, uniq_snoc, if_neg hm, List.length_append, ← hl5]
            refine ⟨by simp; omega, ?_, hG.trans hfr', hlt⟩
            have e1 : ivs (uniq (used.reverse.take j) ++ [x]) = ivs (uniq (used.reverse.take j)) ++ [.int .i64 x] := by simp [ivs]
            rw [e1]
            exact hown'
          clear happ hown' hfr' hle hB hG hKr hseg5 hob hju hcell hb1 hx hx2 hrt hm hidx hq hqi hlt hj hlr hl5
          go_wp2_with fail
          refine HA.out.mono ?_
          rintro e w2 ⟨rfl, rfl⟩
          clear HA
          go_wp2_with (at_builtin; go_must (refine wpList_append_run rfl (.tmp 27) (.tmp 32) 33 33 rfl (.slice a5 l5 c5) (.slice (some ⟨w2.heap.size, 0, none⟩) 1 1) v' W' rfl rfl HAP.out ?_; refine Hid.out ?_))
          unfold Hid
          clear cu
          go_wp2
          go_roundw
          case rel => exact ⟨j + 1, by have := HN.out.2.2.2; omega, by have := HQ.out; go_num, HN.out.1, HN.out.2.1, HN.out.2.2.1⟩
          case measure => simp [intOf]
    · have HN : Hid (wr.ownsRow 0 3 1 (.slice a5 l5 c5) (latelyL used rm).length (ivs (latelyL used rm)) ∧ Grew w (.slice none 0 0) wr (.slice a5 l5 c5)) := by
        have e1 : latelyL used rm = uniq (used.reverse.take j) := by
          unfold latelyL
          by_cases hjn : j < n
          · have : (uniq (used.reverse.take j)).length = rm := by omega
            have h2 := uniq_full (m := used.reverse.drop j) this
            rw [List.take_append_drop] at h2
            exact h2
          · rw [List.take_of_length_le (l := used.reverse) (i := j) (by have := HS.out.2; simp; omega)] at hle ⊢
            exact List.take_of_length_le hle
        rw [← hl5] at hB hG
        rw [e1, ← hl5]
        exact ⟨hB, hG⟩
      rw [← hl5]
      by_cases hjn : j < n
      · have hq1 : (0 : Int) ≤ (n : Int) - 1 - j := by omega
        have hq2 : (rm : Int) ≤ (l5 : Int) := by omega
        obtain ⟨q, hq⟩ : ∃ q : Int, q = (n : Int) - 1 - j := ⟨_, rfl⟩
        rw [← hq] at hq1 ⊢
        clear hle hB hG hKr hseg5 hob hgo hj hl5 hq hjn
        go_wp2
        go_ret
        exact ⟨_, rfl, HN.out⟩
      · have hq1 : (n : Int) - 1 - j < 0 := by omega
        obtain ⟨q, hq⟩ : ∃ q : Int, q = (n : Int) - 1 - j := ⟨_, rfl⟩
        rw [← hq] at hq1 ⊢
        clear hle hB hG hKr hseg5 hob hgo hj hl5 hq hjn
        go_wp2
        go_ret
        exact ⟨_, rfl, HN.out⟩

end Go.Proofs.Ytffhkapegmnklaa
