import Derived.Test.YtlddioedednojaaT
namespace Go.Proofs.Ytlddioedednojaa
open Go.RowKit Go.Shelf
set_option linter.unusedVariables false
set_option linter.unusedSimpArgs false
set_option maxRecDepth 6000

theorem size33 {s : Sn} (h : s.Fine) : (Try.prog.info? 33).map (·.size) = some s.vs.length := by rw [s.vs_length h]; kernel_rfl

set_option maxHeartbeats 1000000 in
theorem same_any (a b : Option Addr) (A B : List Sn) (ca cb : Nat) (w : World) (hA : ∀ s ∈ A, s.Fine) (hB : ∀ s ∈ B, s.Fine) (hla : A.length ≤ ca ∧ ca ≤ maxLen) (hlb : B.length ≤ cb ∧ cb ≤ maxLen) (ha : SegS w a A) (hb : SegS w b B) :
    Calls Try.prog 7 #[.slice a A.length ca, .slice b B.length cb] w fun r w' => r = .returned (.bool (decide (A = B))) ∧ Keeps (fun _ => False) w w' := by
  obtain ⟨n, hn⟩ : ∃ n, n = A.length := ⟨_, rfl⟩
  obtain ⟨m, hm⟩ : ∃ m, m = B.length := ⟨_, rfl⟩
  have HS : Hid (SegS w a A ∧ SegS w b B ∧ n = A.length ∧ m = B.length ∧ (∀ s ∈ A, s.Fine) ∧ ∀ s ∈ B, s.Fine) := ⟨ha, hb, hn, hm, hA, hB⟩
  have hc1 : (n : Int) ≤ ca := by omega
  have hc2 : (ca : Int) ≤ 9223372036854775807 := by unfold maxLen at hla; omega
  have hc3 : (m : Int) ≤ cb := by omega
  have hc4 : (cb : Int) ≤ 9223372036854775807 := by unfold maxLen at hlb; omega
  rw [← hn, ← hm]
  clear hla hlb ha hb hn hm hA hB
  by_cases hnm : n = m
  · subst hnm
    go_enter Try.func7, Try.ntmps7
    go_wp2
    go_loopw [13] (fun i wr => ∃ j : Nat, j ≤ n ∧ i = .int .i64 j ∧ A.take j = B.take j ∧ Keeps (fun _ => False) w wr) (fun i _ => n - (intOf i).toNat)
    case atStart => exact ⟨0, by omega, rfl, by simp, Keeps.refl _ _⟩
    case round =>
      obtain ⟨j, hj, rfl, he, hK⟩ := hrel
      by_cases hlt : j < n
      · obtain ⟨x, hx⟩ : ∃ x, A[j]? = some x := ⟨_, List.getElem?_eq_getElem (by have := HS.out.2.2.1; omega)⟩
        obtain ⟨y, hy⟩ : ∃ y, B[j]? = some y := ⟨_, List.getElem?_eq_getElem (by have := HS.out.2.2.2.1; omega)⟩
        obtain ⟨g, o, rfl, hx3⟩ := HS.out.1.at hx
        obtain ⟨h, q, rfl, hy3⟩ := HS.out.2.1.at hy
        have hxF : x.Fine := HS.out.2.2.2.2.1 x (List.mem_of_getElem? hx)
        have hyF : y.Fine := HS.out.2.2.2.2.2 y (List.mem_of_getElem? hy)
        have hlt' : (j : Int) < n := by omega
        have hrg : wr.rangeAt g (o + j * 26) x.vs ∧ wr.rangeAt h (q + j * 26) y.vs := ⟨range_kept hx3 hK fun h => h, range_kept hy3 hK fun h => h⟩
        by_cases hxy : x = y
        · have HE : Hid (A.take (j + 1) = B.take (j + 1) ∧ Keeps (fun _ => False) w wr.drew) := ⟨by rw [List.take_add_one, List.take_add_one, hx, hy, he, hxy], hK.drew⟩
          have hq : ∀ w' : World, (binOp .neq 33 (.agg x.vs.toArray) (.agg y.vs.toArray)).run Try.prog w' = .ok (.bool false) w' := fun w' => by rw [neq_seen hxF hyF w', decide_eq_true hxy]; rfl
          clear he hx hy hx3 hy3 hK
          go_wp2_with fail
          refine wp_region_held_drew (S := (fun w' => w'.rangeAt g (o + j * 26) x.vs ∧ w'.rangeAt h (q + j * 26) y.vs)) mixd hrg (fun hHeld => ?_)
          simp only [List.size_toArray, List.length_cons, List.length_nil, Nat.reduceAdd, Array.replicate_succ, Array.replicate_zero, List.push_toArray, List.append_toArray, List.nil_append, List.cons_append]
          refine tk 0 (.slice (some ⟨g, o, none⟩) n ca) hHeld ?_
          simp only [Act.put, List.setIfInBounds_toArray, List.set_cons_zero, List.set_cons_succ]
          refine tk 1 (.int .i64 (j : Int)) hHeld ?_
          simp only [Act.put, List.setIfInBounds_toArray, List.set_cons_zero, List.set_cons_succ]
          refine tk 2 (.pointer (some ⟨g, o + j * 26, none⟩)) hHeld ?_
          simp only [Act.put, List.setIfInBounds_toArray, List.set_cons_zero, List.set_cons_succ]
          refine tl 3 (x := .tmp 18) (b := g) (o := (o + j * 26)) (fun w' h => h.1) Try.underlying33 rfl (size33 hxF) hHeld ?_
          simp only [Act.put, List.setIfInBounds_toArray, List.set_cons_zero, List.set_cons_succ]
          refine tk 4 (.slice (some ⟨h, q, none⟩) n cb) hHeld ?_
          simp only [Act.put, List.setIfInBounds_toArray, List.set_cons_zero, List.set_cons_succ]
          refine tk 5 (.int .i64 (j : Int)) hHeld ?_
          simp only [Act.put, List.setIfInBounds_toArray, List.set_cons_zero, List.set_cons_succ]
          refine tk 6 (.pointer (some ⟨h, q + j * 26, none⟩)) hHeld ?_
          simp only [Act.put, List.setIfInBounds_toArray, List.set_cons_zero, List.set_cons_succ]
          refine tl 7 (x := .tmp 22) (b := h) (o := (q + j * 26)) (fun w' h => h.2) Try.underlying33 rfl (size33 hyF) hHeld ?_
          simp only [Act.put, List.setIfInBounds_toArray, List.set_cons_zero, List.set_cons_succ]
          refine tcmp 8 (op := .neq) (ty := 33) (t2 := 33) (x := .tmp 19) (y := .tmp 23) hq guard33 hHeld ?_
          simp only [Act.put, List.setIfInBounds_toArray, List.set_cons_zero, List.set_cons_succ]
          refine wpAnyH_done (by kernel_rfl) ?_ _
          clear hHeld
          go_wp2
          go_roundw
          case rel => exact ⟨j + 1, by omega, by go_num, HE.out.1, HE.out.2⟩
          case measure => simp [intOf]; omega
        · have hq : ∀ w' : World, (binOp .neq 33 (.agg x.vs.toArray) (.agg y.vs.toArray)).run Try.prog w' = .ok (.bool true) w' := fun w' => by rw [neq_seen hxF hyF w', decide_eq_false hxy]; rfl
          have HE : Hid (decide (A = B) = false ∧ Keeps (fun _ => False) w wr.drew) := ⟨decide_eq_false fun e => hxy (by rw [e, hy] at hx; exact (Option.some.inj hx).symm), hK.drew⟩
          clear he hx hy hx3 hy3 hK hxy
          go_wp2_with fail
          refine wp_region_held_drew (S := (fun w' => w'.rangeAt g (o + j * 26) x.vs ∧ w'.rangeAt h (q + j * 26) y.vs)) mixd hrg (fun hHeld => ?_)
          simp only [List.size_toArray, List.length_cons, List.length_nil, Nat.reduceAdd, Array.replicate_succ, Array.replicate_zero, List.push_toArray, List.append_toArray, List.nil_append, List.cons_append]
          refine tk 0 (.slice (some ⟨g, o, none⟩) n ca) hHeld ?_
          simp only [Act.put, List.setIfInBounds_toArray, List.set_cons_zero, List.set_cons_succ]
          refine tk 1 (.int .i64 (j : Int)) hHeld ?_
          simp only [Act.put, List.setIfInBounds_toArray, List.set_cons_zero, List.set_cons_succ]
          refine tk 2 (.pointer (some ⟨g, o + j * 26, none⟩)) hHeld ?_
          simp only [Act.put, List.setIfInBounds_toArray, List.set_cons_zero, List.set_cons_succ]
          refine tl 3 (x := .tmp 18) (b := g) (o := (o + j * 26)) (fun w' h => h.1) Try.underlying33 rfl (size33 hxF) hHeld ?_
          simp only [Act.put, List.setIfInBounds_toArray, List.set_cons_zero, List.set_cons_succ]
          refine tk 4 (.slice (some ⟨h, q, none⟩) n cb) hHeld ?_
          simp only [Act.put, List.setIfInBounds_toArray, List.set_cons_zero, List.set_cons_succ]
          refine tk 5 (.int .i64 (j : Int)) hHeld ?_
          simp only [Act.put, List.setIfInBounds_toArray, List.set_cons_zero, List.set_cons_succ]
          refine tk 6 (.pointer (some ⟨h, q + j * 26, none⟩)) hHeld ?_
          simp only [Act.put, List.setIfInBounds_toArray, List.set_cons_zero, List.set_cons_succ]
          refine tl 7 (x := .tmp 22) (b := h) (o := (q + j * 26)) (fun w' h => h.2) Try.underlying33 rfl (size33 hyF) hHeld ?_
          simp only [Act.put, List.setIfInBounds_toArray, List.set_cons_zero, List.set_cons_succ]
          refine tcmp 8 (op := .neq) (ty := 33) (t2 := 33) (x := .tmp 19) (y := .tmp 23) hq guard33 hHeld ?_
          simp only [Act.put, List.setIfInBounds_toArray, List.set_cons_zero, List.set_cons_succ]
          refine wpAnyH_done (by kernel_rfl) ?_ _
          clear hHeld
          go_wp2
          go_ret
          exact ⟨by rw [HE.out.1]; rfl, HE.out.2⟩
      · obtain rfl : j = n := by omega
        have HE : Hid (decide (A = B) = true ∧ Keeps (fun _ => False) w wr) := by
          rw [List.take_of_length_le (by have := HS.out.2.2.1; omega), List.take_of_length_le (by have := HS.out.2.2.2.1; omega)] at he
          exact ⟨decide_eq_true he, hK⟩
        clear he hK
        go_wp2
        go_ret
        exact ⟨by rw [HE.out.1]; rfl, HE.out.2⟩
  · have HE : Hid (decide (A = B) = false) := decide_eq_false fun e => hnm (by rw [HS.out.2.2.1, HS.out.2.2.2.1, e])
    have hnm' : ((n : Int) == (m : Int)) = false := by
      simp; omega
    go_enter Try.func7, Try.ntmps7
    go_wp2
    go_ret
    exact ⟨by rw [HE.out]; rfl, Keeps.refl _ _⟩

/-- Up to where two lists are the same. -/
structure Upto (A B : List Sn) (j : Nat) : Prop where
  le : j ≤ A.length
  le2 : j ≤ B.length
  eq : ∀ i, i < j → A[i]? = B[i]?

set_option maxHeartbeats 1000000 in
theorem match_any (a b : Option Addr) (A B : List Sn) (ca cb : Nat) (w : World) (hA : ∀ s ∈ A, s.Fine) (hB : ∀ s ∈ B, s.Fine) (hla : A.length ≤ ca ∧ ca ≤ maxLen) (hlb : B.length ≤ cb ∧ cb ≤ maxLen) (ha : SegS w a A) (hb : SegS w b B) :
    Calls Try.prog 8 #[.slice a A.length ca, .slice b B.length cb] w fun r w' => r = .returned (.tuple #[.int .i64 (cp A B : Int), .bool (decide (cp A B = min A.length B.length))]) ∧ Keeps (fun _ => False) w w' := by
  obtain ⟨n, hn⟩ : ∃ n, n = A.length := ⟨_, rfl⟩
  obtain ⟨m, hm⟩ : ∃ m, m = B.length := ⟨_, rfl⟩
  obtain ⟨l, hl⟩ : ∃ l, l = min n m := ⟨_, rfl⟩
  have HS : Hid (SegS w a A ∧ SegS w b B ∧ n = A.length ∧ m = B.length ∧ (∀ s ∈ A, s.Fine) ∧ (∀ s ∈ B, s.Fine) ∧ l = min n m) := ⟨ha, hb, hn, hm, hA, hB, hl⟩
  have hc1 : (n : Int) ≤ ca := by omega
  have hc2 : (ca : Int) ≤ 9223372036854775807 := by unfold maxLen at hla; omega
  have hc3 : (m : Int) ≤ cb := by omega
  have hc4 : (cb : Int) ≤ 9223372036854775807 := by unfold maxLen at hlb; omega
  have hln : (l : Int) ≤ n := by omega
  have hlm : (l : Int) ≤ m := by omega
  have HM : Hid (∀ K, K = cp A B → Calls Try.prog 8 #[.slice a n ca, .slice b m cb] w fun r w' => r = .returned (.tuple #[.int .i64 (K : Int), .bool (decide (K = l))]) ∧ Keeps (fun _ => False) w w') := by
    intro K hK0
    have HK : Hid (K = cp A B) := hK0
    clear hK0 hla hlb ha hb hn hm hA hB
    rcases Nat.lt_or_ge m n with hmn | hmn
    · obtain rfl : l = m := by omega
      have hmt : (l < n) = True := eq_true hmn
      clear hlm hl
      go_enter Try.func8, Try.ntmps8
      go_wp2
      go_loopw [4] (fun i wr => ∃ j : Nat, j ≤ l ∧ i = .int .i64 j ∧ Upto A B j ∧ Keeps (fun _ => False) w wr) (fun i _ => l - (intOf i).toNat)
      case atStart => exact ⟨0, by omega, rfl, ⟨by omega, by omega, fun i hi => by omega⟩, Keeps.refl _ _⟩
      case round =>
        obtain ⟨j, hj, rfl, he, hK⟩ := hrel
        by_cases hlt : j < l
        · obtain ⟨x, hx⟩ : ∃ x, A[j]? = some x := ⟨_, List.getElem?_eq_getElem (by have := HS.out.2.2.1; have := HS.out.2.2.2.2.2.2; omega)⟩
          obtain ⟨y, hy⟩ : ∃ y, B[j]? = some y := ⟨_, List.getElem?_eq_getElem (by have := HS.out.2.2.2.1; have := HS.out.2.2.2.2.2.2; omega)⟩
          obtain ⟨g, o, rfl, hx3⟩ := HS.out.1.at hx
          obtain ⟨h, q, rfl, hy3⟩ := HS.out.2.1.at hy
          have hxF : x.Fine := HS.out.2.2.2.2.1 x (List.mem_of_getElem? hx)
          have hyF : y.Fine := HS.out.2.2.2.2.2.1 y (List.mem_of_getElem? hy)
          have hlt' : (j : Int) < l := by omega
          have hltn : (j : Int) < n := by omega
          have hltm : (j : Int) < l := by omega
          have hrg : wr.rangeAt g (o + j * 26) x.vs ∧ wr.rangeAt h (q + j * 26) y.vs := ⟨range_kept hx3 hK fun h => h, range_kept hy3 hK fun h => h⟩
          by_cases hxy : x = y
          · have HE : Hid (Upto A B (j + 1) ∧ Keeps (fun _ => False) w wr.drew) := ⟨⟨(List.getElem?_eq_some_iff.1 hx).1, (List.getElem?_eq_some_iff.1 hy).1, fun i hi => by
                rcases Nat.lt_succ_iff_lt_or_eq.1 hi with h | rfl
                · exact he.eq i h
                · rw [hx, hy, hxy]⟩, hK.drew⟩
            have hq : ∀ w' : World, (binOp .eql 33 (.agg x.vs.toArray) (.agg y.vs.toArray)).run Try.prog w' = .ok (.bool true) w' := fun w' => by rw [eql_seen hxF hyF w', decide_eq_true hxy]
            clear he hx hy hx3 hy3 hK
            go_wp2_with fail
            refine wp_region_held_drew (S := (fun w' => w'.rangeAt g (o + j * 26) x.vs ∧ w'.rangeAt h (q + j * 26) y.vs)) mixd hrg (fun hHeld => ?_)
            simp only [List.size_toArray, List.length_cons, List.length_nil, Nat.reduceAdd, Array.replicate_succ, Array.replicate_zero, List.push_toArray, List.append_toArray, List.nil_append, List.cons_append]
            refine tk 0 (.int .i64 (j : Int)) hHeld ?_
            simp only [Act.put, List.setIfInBounds_toArray, List.set_cons_zero, List.set_cons_succ]
            refine tk 1 (.int .i64 (l : Int)) hHeld ?_
            simp only [Act.put, List.setIfInBounds_toArray, List.set_cons_zero, List.set_cons_succ]
            refine tk 2 (.bool true) hHeld ?_
            simp only [Act.put, List.setIfInBounds_toArray, List.set_cons_zero, List.set_cons_succ]
            refine tk 3 (.bool true) hHeld ?_
            simp only [Act.put, List.setIfInBounds_toArray, List.set_cons_zero, List.set_cons_succ]
            refine tk 4 (.slice (some ⟨g, o, none⟩) n ca) hHeld ?_
            simp only [Act.put, List.setIfInBounds_toArray, List.set_cons_zero, List.set_cons_succ]
            refine tk 5 (.int .i64 (j : Int)) hHeld ?_
            simp only [Act.put, List.setIfInBounds_toArray, List.set_cons_zero, List.set_cons_succ]
            refine tk 6 (.pointer (some ⟨g, o + j * 26, none⟩)) hHeld ?_
            simp only [Act.put, List.setIfInBounds_toArray, List.set_cons_zero, List.set_cons_succ]
            refine tl 7 (x := .tmp 18) (b := g) (o := (o + j * 26)) (fun w' h => h.1) Try.underlying33 rfl (size33 hxF) hHeld ?_
            simp only [Act.put, List.setIfInBounds_toArray, List.set_cons_zero, List.set_cons_succ]
            refine tk 8 (.slice (some ⟨h, q, none⟩) l cb) hHeld ?_
            simp only [Act.put, List.setIfInBounds_toArray, List.set_cons_zero, List.set_cons_succ]
            refine tk 9 (.int .i64 (j : Int)) hHeld ?_
            simp only [Act.put, List.setIfInBounds_toArray, List.set_cons_zero, List.set_cons_succ]
            refine tk 10 (.pointer (some ⟨h, q + j * 26, none⟩)) hHeld ?_
            simp only [Act.put, List.setIfInBounds_toArray, List.set_cons_zero, List.set_cons_succ]
            refine tl 11 (x := .tmp 22) (b := h) (o := (q + j * 26)) (fun w' h => h.2) Try.underlying33 rfl (size33 hyF) hHeld ?_
            simp only [Act.put, List.setIfInBounds_toArray, List.set_cons_zero, List.set_cons_succ]
            refine tcmp 12 (op := .eql) (ty := 33) (t2 := 33) (x := .tmp 19) (y := .tmp 23) hq guard33 hHeld ?_
            simp only [Act.put, List.setIfInBounds_toArray, List.set_cons_zero, List.set_cons_succ]
            refine tk 13 (.bool true) hHeld ?_
            simp only [Act.put, List.setIfInBounds_toArray, List.set_cons_zero, List.set_cons_succ]
            refine wpAnyH_done (by kernel_rfl) ?_ _
            clear hHeld
            go_wp2
            go_roundw
            case rel => exact ⟨j + 1, by omega, by go_num, HE.out.1, HE.out.2⟩
            case measure => simp [intOf]; omega
          · have hq : ∀ w' : World, (binOp .eql 33 (.agg x.vs.toArray) (.agg y.vs.toArray)).run Try.prog w' = .ok (.bool false) w' := fun w' => by rw [eql_seen hxF hyF w', decide_eq_false hxy]
            have HE : Hid (K = j ∧ Keeps (fun _ => False) w wr.drew) := by
              refine ⟨?_, hK.drew⟩
              rw [HK.out]
              exact cp_eq he.eq he.le he.le2 fun _ _ e => hxy (by rw [hx, hy] at e; exact Option.some.inj e)
            clear he hx hy hx3 hy3 hK hxy
            go_wp2_with fail
            refine wp_region_held_drew (S := (fun w' => w'.rangeAt g (o + j * 26) x.vs ∧ w'.rangeAt h (q + j * 26) y.vs)) mixd hrg (fun hHeld => ?_)
            simp only [List.size_toArray, List.length_cons, List.length_nil, Nat.reduceAdd, Array.replicate_succ, Array.replicate_zero, List.push_toArray, List.append_toArray, List.nil_append, List.cons_append]
            refine tk 0 (.int .i64 (j : Int)) hHeld ?_
            simp only [Act.put, List.setIfInBounds_toArray, List.set_cons_zero, List.set_cons_succ]
            refine tk 1 (.int .i64 (l : Int)) hHeld ?_
            simp only [Act.put, List.setIfInBounds_toArray, List.set_cons_zero, List.set_cons_succ]
            refine tk 2 (.bool true) hHeld ?_
            simp only [Act.put, List.setIfInBounds_toArray, List.set_cons_zero, List.set_cons_succ]
            refine tk 3 (.bool true) hHeld ?_
            simp only [Act.put, List.setIfInBounds_toArray, List.set_cons_zero, List.set_cons_succ]
            refine tk 4 (.slice (some ⟨g, o, none⟩) n ca) hHeld ?_
            simp only [Act.put, List.setIfInBounds_toArray, List.set_cons_zero, List.set_cons_succ]
            refine tk 5 (.int .i64 (j : Int)) hHeld ?_
            simp only [Act.put, List.setIfInBounds_toArray, List.set_cons_zero, List.set_cons_succ]
            refine tk 6 (.pointer (some ⟨g, o + j * 26, none⟩)) hHeld ?_
            simp only [Act.put, List.setIfInBounds_toArray, List.set_cons_zero, List.set_cons_succ]
            refine tl 7 (x := .tmp 18) (b := g) (o := (o + j * 26)) (fun w' h => h.1) Try.underlying33 rfl (size33 hxF) hHeld ?_
            simp only [Act.put, List.setIfInBounds_toArray, List.set_cons_zero, List.set_cons_succ]
            refine tk 8 (.slice (some ⟨h, q, none⟩) l cb) hHeld ?_
            simp only [Act.put, List.setIfInBounds_toArray, List.set_cons_zero, List.set_cons_succ]
            refine tk 9 (.int .i64 (j : Int)) hHeld ?_
            simp only [Act.put, List.setIfInBounds_toArray, List.set_cons_zero, List.set_cons_succ]
            refine tk 10 (.pointer (some ⟨h, q + j * 26, none⟩)) hHeld ?_
            simp only [Act.put, List.setIfInBounds_toArray, List.set_cons_zero, List.set_cons_succ]
            refine tl 11 (x := .tmp 22) (b := h) (o := (q + j * 26)) (fun w' h => h.2) Try.underlying33 rfl (size33 hyF) hHeld ?_
            simp only [Act.put, List.setIfInBounds_toArray, List.set_cons_zero, List.set_cons_succ]
            refine tcmp 12 (op := .eql) (ty := 33) (t2 := 33) (x := .tmp 19) (y := .tmp 23) hq guard33 hHeld ?_
            simp only [Act.put, List.setIfInBounds_toArray, List.set_cons_zero, List.set_cons_succ]
            refine tk 13 (.bool false) hHeld ?_
            simp only [Act.put, List.setIfInBounds_toArray, List.set_cons_zero, List.set_cons_succ]
            refine wpAnyH_done (by kernel_rfl) ?_ _
            clear hHeld
            have hne : ((j : Int) == (l : Int)) = false := by simp; omega
            go_wp2
            go_ret2
            exact ⟨by rw [HE.out.1, decide_eq_false (by omega)]; rfl, HE.out.2⟩
        · obtain rfl : j = l := by omega
          have HE : Hid (K = j ∧ Keeps (fun _ => False) w wr.drew) := by
            refine ⟨?_, hK.drew⟩
            rw [HK.out]
            refine cp_eq he.eq he.le he.le2 fun h1 h2 => ?_
            have := HS.out.2.2.1; have := HS.out.2.2.2.1; have := HS.out.2.2.2.2.2.2
            omega
          clear he hK hlt
          go_wp2_with fail
          refine wp_region_held_drew (S := (fun w' => True)) mixd trivial (fun hHeld => ?_)
          simp only [List.size_toArray, List.length_cons, List.length_nil, Nat.reduceAdd, Array.replicate_succ, Array.replicate_zero, List.push_toArray, List.append_toArray, List.nil_append, List.cons_append]
          refine tk 0 (.int .i64 (j : Int)) hHeld ?_
          simp only [Act.put, List.setIfInBounds_toArray, List.set_cons_zero, List.set_cons_succ]
          refine tk 1 (.int .i64 (j : Int)) hHeld ?_
          simp only [Act.put, List.setIfInBounds_toArray, List.set_cons_zero, List.set_cons_succ]
          refine tk 2 (.bool false) hHeld ?_
          simp only [Act.put, List.setIfInBounds_toArray, List.set_cons_zero, List.set_cons_succ]
          refine tk 3 (.bool false) hHeld ?_
          simp only [Act.put, List.setIfInBounds_toArray, List.set_cons_zero, List.set_cons_succ]
          refine tn 4 hHeld ?_
          simp only [Act.put, List.setIfInBounds_toArray, List.set_cons_zero, List.set_cons_succ]
          refine tn 5 hHeld ?_
          simp only [Act.put, List.setIfInBounds_toArray, List.set_cons_zero, List.set_cons_succ]
          refine tn 6 hHeld ?_
          simp only [Act.put, List.setIfInBounds_toArray, List.set_cons_zero, List.set_cons_succ]
          refine tn 7 hHeld ?_
          simp only [Act.put, List.setIfInBounds_toArray, List.set_cons_zero, List.set_cons_succ]
          refine tn 8 hHeld ?_
          simp only [Act.put, List.setIfInBounds_toArray, List.set_cons_zero, List.set_cons_succ]
          refine tn 9 hHeld ?_
          simp only [Act.put, List.setIfInBounds_toArray, List.set_cons_zero, List.set_cons_succ]
          refine tn 10 hHeld ?_
          simp only [Act.put, List.setIfInBounds_toArray, List.set_cons_zero, List.set_cons_succ]
          refine tn 11 hHeld ?_
          simp only [Act.put, List.setIfInBounds_toArray, List.set_cons_zero, List.set_cons_succ]
          refine tn 12 hHeld ?_
          simp only [Act.put, List.setIfInBounds_toArray, List.set_cons_zero, List.set_cons_succ]
          refine tk 13 (.bool false) hHeld ?_
          simp only [Act.put, List.setIfInBounds_toArray, List.set_cons_zero, List.set_cons_succ]
          refine wpAnyH_done (by kernel_rfl) ?_ _
          clear hHeld
          go_wp2
          go_ret2
          exact ⟨by rw [HE.out.1]; simp, HE.out.2⟩
    · obtain rfl : l = n := by omega
      have hmt : (m < l) = False := eq_false (by omega)
      clear hln hl
      go_enter Try.func8, Try.ntmps8
      go_wp2
      go_loopw [4] (fun i wr => ∃ j : Nat, j ≤ l ∧ i = .int .i64 j ∧ Upto A B j ∧ Keeps (fun _ => False) w wr) (fun i _ => l - (intOf i).toNat)
      case atStart => exact ⟨0, by omega, rfl, ⟨by omega, by omega, fun i hi => by omega⟩, Keeps.refl _ _⟩
      case round =>
        obtain ⟨j, hj, rfl, he, hK⟩ := hrel
        by_cases hlt : j < l
        · obtain ⟨x, hx⟩ : ∃ x, A[j]? = some x := ⟨_, List.getElem?_eq_getElem (by have := HS.out.2.2.1; have := HS.out.2.2.2.2.2.2; omega)⟩
          obtain ⟨y, hy⟩ : ∃ y, B[j]? = some y := ⟨_, List.getElem?_eq_getElem (by have := HS.out.2.2.2.1; have := HS.out.2.2.2.2.2.2; omega)⟩
          obtain ⟨g, o, rfl, hx3⟩ := HS.out.1.at hx
          obtain ⟨h, q, rfl, hy3⟩ := HS.out.2.1.at hy
          have hxF : x.Fine := HS.out.2.2.2.2.1 x (List.mem_of_getElem? hx)
          have hyF : y.Fine := HS.out.2.2.2.2.2.1 y (List.mem_of_getElem? hy)
          have hlt' : (j : Int) < l := by omega
          have hltn : (j : Int) < l := by omega
          have hltm : (j : Int) < m := by omega
          have hrg : wr.rangeAt g (o + j * 26) x.vs ∧ wr.rangeAt h (q + j * 26) y.vs := ⟨range_kept hx3 hK fun h => h, range_kept hy3 hK fun h => h⟩
          by_cases hxy : x = y
          · have HE : Hid (Upto A B (j + 1) ∧ Keeps (fun _ => False) w wr.drew) := ⟨⟨(List.getElem?_eq_some_iff.1 hx).1, (List.getElem?_eq_some_iff.1 hy).1, fun i hi => by
                rcases Nat.lt_succ_iff_lt_or_eq.1 hi with h | rfl
                · exact he.eq i h
                · rw [hx, hy, hxy]⟩, hK.drew⟩
            have hq : ∀ w' : World, (binOp .eql 33 (.agg x.vs.toArray) (.agg y.vs.toArray)).run Try.prog w' = .ok (.bool true) w' := fun w' => by rw [eql_seen hxF hyF w', decide_eq_true hxy]
            clear he hx hy hx3 hy3 hK
            go_wp2_with fail
            refine wp_region_held_drew (S := (fun w' => w'.rangeAt g (o + j * 26) x.vs ∧ w'.rangeAt h (q + j * 26) y.vs)) mixd hrg (fun hHeld => ?_)
            simp only [List.size_toArray, List.length_cons, List.length_nil, Nat.reduceAdd, Array.replicate_succ, Array.replicate_zero, List.push_toArray, List.append_toArray, List.nil_append, List.cons_append]
            refine tk 0 (.int .i64 (j : Int)) hHeld ?_
            simp only [Act.put, List.setIfInBounds_toArray, List.set_cons_zero, List.set_cons_succ]
            refine tk 1 (.int .i64 (l : Int)) hHeld ?_
            simp only [Act.put, List.setIfInBounds_toArray, List.set_cons_zero, List.set_cons_succ]
            refine tk 2 (.bool true) hHeld ?_
            simp only [Act.put, List.setIfInBounds_toArray, List.set_cons_zero, List.set_cons_succ]
            refine tk 3 (.bool true) hHeld ?_
            simp only [Act.put, List.setIfInBounds_toArray, List.set_cons_zero, List.set_cons_succ]
            refine tk 4 (.slice (some ⟨g, o, none⟩) l ca) hHeld ?_
            simp only [Act.put, List.setIfInBounds_toArray, List.set_cons_zero, List.set_cons_succ]
            refine tk 5 (.int .i64 (j : Int)) hHeld ?_
            simp only [Act.put, List.setIfInBounds_toArray, List.set_cons_zero, List.set_cons_succ]
            refine tk 6 (.pointer (some ⟨g, o + j * 26, none⟩)) hHeld ?_
            simp only [Act.put, List.setIfInBounds_toArray, List.set_cons_zero, List.set_cons_succ]
            refine tl 7 (x := .tmp 18) (b := g) (o := (o + j * 26)) (fun w' h => h.1) Try.underlying33 rfl (size33 hxF) hHeld ?_
            simp only [Act.put, List.setIfInBounds_toArray, List.set_cons_zero, List.set_cons_succ]
            refine tk 8 (.slice (some ⟨h, q, none⟩) m cb) hHeld ?_
            simp only [Act.put, List.setIfInBounds_toArray, List.set_cons_zero, List.set_cons_succ]
            refine tk 9 (.int .i64 (j : Int)) hHeld ?_
            simp only [Act.put, List.setIfInBounds_toArray, List.set_cons_zero, List.set_cons_succ]
            refine tk 10 (.pointer (some ⟨h, q + j * 26, none⟩)) hHeld ?_
            simp only [Act.put, List.setIfInBounds_toArray, List.set_cons_zero, List.set_cons_succ]
            refine tl 11 (x := .tmp 22) (b := h) (o := (q + j * 26)) (fun w' h => h.2) Try.underlying33 rfl (size33 hyF) hHeld ?_
            simp only [Act.put, List.setIfInBounds_toArray, List.set_cons_zero, List.set_cons_succ]
            refine tcmp 12 (op := .eql) (ty := 33) (t2 := 33) (x := .tmp 19) (y := .tmp 23) hq guard33 hHeld ?_
            simp only [Act.put, List.setIfInBounds_toArray, List.set_cons_zero, List.set_cons_succ]
            refine tk 13 (.bool true) hHeld ?_
            simp only [Act.put, List.setIfInBounds_toArray, List.set_cons_zero, List.set_cons_succ]
            refine wpAnyH_done (by kernel_rfl) ?_ _
            clear hHeld
            go_wp2
            go_roundw
            case rel => exact ⟨j + 1, by omega, by go_num, HE.out.1, HE.out.2⟩
            case measure => simp [intOf]; omega
          · have hq : ∀ w' : World, (binOp .eql 33 (.agg x.vs.toArray) (.agg y.vs.toArray)).run Try.prog w' = .ok (.bool false) w' := fun w' => by rw [eql_seen hxF hyF w', decide_eq_false hxy]
            have HE : Hid (K = j ∧ Keeps (fun _ => False) w wr.drew) := by
              refine ⟨?_, hK.drew⟩
              rw [HK.out]
              exact cp_eq he.eq he.le he.le2 fun _ _ e => hxy (by rw [hx, hy] at e; exact Option.some.inj e)
            clear he hx hy hx3 hy3 hK hxy
            go_wp2_with fail
            refine wp_region_held_drew (S := (fun w' => w'.rangeAt g (o + j * 26) x.vs ∧ w'.rangeAt h (q + j * 26) y.vs)) mixd hrg (fun hHeld => ?_)
            simp only [List.size_toArray, List.length_cons, List.length_nil, Nat.reduceAdd, Array.replicate_succ, Array.replicate_zero, List.push_toArray, List.append_toArray, List.nil_append, List.cons_append]
            refine tk 0 (.int .i64 (j : Int)) hHeld ?_
            simp only [Act.put, List.setIfInBounds_toArray, List.set_cons_zero, List.set_cons_succ]
            refine tk 1 (.int .i64 (l : Int)) hHeld ?_
            simp only [Act.put, List.setIfInBounds_toArray, List.set_cons_zero, List.set_cons_succ]
            refine tk 2 (.bool true) hHeld ?_
            simp only [Act.put, List.setIfInBounds_toArray, List.set_cons_zero, List.set_cons_succ]
            refine tk 3 (.bool true) hHeld ?_
            simp only [Act.put, List.setIfInBounds_toArray, List.set_cons_zero, List.set_cons_succ]
            refine tk 4 (.slice (some ⟨g, o, none⟩) l ca) hHeld ?_
            simp only [Act.put, List.setIfInBounds_toArray, List.set_cons_zero, List.set_cons_succ]
            refine tk 5 (.int .i64 (j : Int)) hHeld ?_
            simp only [Act.put, List.setIfInBounds_toArray, List.set_cons_zero, List.set_cons_succ]
            refine tk 6 (.pointer (some ⟨g, o + j * 26, none⟩)) hHeld ?_
            simp only [Act.put, List.setIfInBounds_toArray, List.set_cons_zero, List.set_cons_succ]
            refine tl 7 (x := .tmp 18) (b := g) (o := (o + j * 26)) (fun w' h => h.1) Try.underlying33 rfl (size33 hxF) hHeld ?_
            simp only [Act.put, List.setIfInBounds_toArray, List.set_cons_zero, List.set_cons_succ]
            refine tk 8 (.slice (some ⟨h, q, none⟩) m cb) hHeld ?_
            simp only [Act.put, List.setIfInBounds_toArray, List.set_cons_zero, List.set_cons_succ]
            refine tk 9 (.int .i64 (j : Int)) hHeld ?_
            simp only [Act.put, List.setIfInBounds_toArray, List.set_cons_zero, List.set_cons_succ]
            refine tk 10 (.pointer (some ⟨h, q + j * 26, none⟩)) hHeld ?_
            simp only [Act.put, List.setIfInBounds_toArray, List.set_cons_zero, List.set_cons_succ]
            refine tl 11 (x := .tmp 22) (b := h) (o := (q + j * 26)) (fun w' h => h.2) Try.underlying33 rfl (size33 hyF) hHeld ?_
            simp only [Act.put, List.setIfInBounds_toArray, List.set_cons_zero, List.set_cons_succ]
            refine tcmp 12 (op := .eql) (ty := 33) (t2 := 33) (x := .tmp 19) (y := .tmp 23) hq guard33 hHeld ?_
            simp only [Act.put, List.setIfInBounds_toArray, List.set_cons_zero, List.set_cons_succ]
            refine tk 13 (.bool false) hHeld ?_
            simp only [Act.put, List.setIfInBounds_toArray, List.set_cons_zero, List.set_cons_succ]
            refine wpAnyH_done (by kernel_rfl) ?_ _
            clear hHeld
            have hne : ((j : Int) == (l : Int)) = false := by simp; omega
            go_wp2
            go_ret2
            exact ⟨by rw [HE.out.1, decide_eq_false (by omega)]; rfl, HE.out.2⟩
        · obtain rfl : j = l := by omega
          have HE : Hid (K = j ∧ Keeps (fun _ => False) w wr.drew) := by
            refine ⟨?_, hK.drew⟩
            rw [HK.out]
            refine cp_eq he.eq he.le he.le2 fun h1 h2 => ?_
            have := HS.out.2.2.1; have := HS.out.2.2.2.1; have := HS.out.2.2.2.2.2.2
            omega
          clear he hK hlt
          go_wp2_with fail
          refine wp_region_held_drew (S := (fun w' => True)) mixd trivial (fun hHeld => ?_)
          simp only [List.size_toArray, List.length_cons, List.length_nil, Nat.reduceAdd, Array.replicate_succ, Array.replicate_zero, List.push_toArray, List.append_toArray, List.nil_append, List.cons_append]
          refine tk 0 (.int .i64 (j : Int)) hHeld ?_
          simp only [Act.put, List.setIfInBounds_toArray, List.set_cons_zero, List.set_cons_succ]
          refine tk 1 (.int .i64 (j : Int)) hHeld ?_
          simp only [Act.put, List.setIfInBounds_toArray, List.set_cons_zero, List.set_cons_succ]
          refine tk 2 (.bool false) hHeld ?_
          simp only [Act.put, List.setIfInBounds_toArray, List.set_cons_zero, List.set_cons_succ]
          refine tk 3 (.bool false) hHeld ?_
          simp only [Act.put, List.setIfInBounds_toArray, List.set_cons_zero, List.set_cons_succ]
          refine tn 4 hHeld ?_
          simp only [Act.put, List.setIfInBounds_toArray, List.set_cons_zero, List.set_cons_succ]
          refine tn 5 hHeld ?_
          simp only [Act.put, List.setIfInBounds_toArray, List.set_cons_zero, List.set_cons_succ]
          refine tn 6 hHeld ?_
          simp only [Act.put, List.setIfInBounds_toArray, List.set_cons_zero, List.set_cons_succ]
          refine tn 7 hHeld ?_
          simp only [Act.put, List.setIfInBounds_toArray, List.set_cons_zero, List.set_cons_succ]
          refine tn 8 hHeld ?_
          simp only [Act.put, List.setIfInBounds_toArray, List.set_cons_zero, List.set_cons_succ]
          refine tn 9 hHeld ?_
          simp only [Act.put, List.setIfInBounds_toArray, List.set_cons_zero, List.set_cons_succ]
          refine tn 10 hHeld ?_
          simp only [Act.put, List.setIfInBounds_toArray, List.set_cons_zero, List.set_cons_succ]
          refine tn 11 hHeld ?_
          simp only [Act.put, List.setIfInBounds_toArray, List.set_cons_zero, List.set_cons_succ]
          refine tn 12 hHeld ?_
          simp only [Act.put, List.setIfInBounds_toArray, List.set_cons_zero, List.set_cons_succ]
          refine tk 13 (.bool false) hHeld ?_
          simp only [Act.put, List.setIfInBounds_toArray, List.set_cons_zero, List.set_cons_succ]
          refine wpAnyH_done (by kernel_rfl) ?_ _
          clear hHeld
          go_wp2
          go_ret2
          exact ⟨by rw [HE.out.1]; simp, HE.out.2⟩
  rw [← hn, ← hm, ← hl]
  exact HM.out _ rfl
end Go.Proofs.Ytlddioedednojaa
