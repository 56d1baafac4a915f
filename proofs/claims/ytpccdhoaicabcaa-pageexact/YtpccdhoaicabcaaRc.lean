import Derived.Test.YtpccdhoaicabcaaRb
namespace Go.Proofs.Ytpccdhoaicabcaa
open Go.RowKit
set_option linter.unusedVariables false

theorem needB_take (rs : List Rgn) (t j : Nat) : ((List.range (j + 1)).any fun i => (findL rs (t * 16 + i)).isSome) = (((List.range j).any fun i => (findL rs (t * 16 + i)).isSome) || (findL rs (t * 16 + j)).isSome) := by
  rw [List.range_succ, List.any_append]; simp

set_option maxHeartbeats 1000000 in
theorem needs_any (A : Nat) (rs : List Rgn) (t : Nat) (w : World) (hA : Blk w A (tab (idx rs)) 3) (ht : t < 16) :
    Calls Try.prog 51 #[.slice (some ⟨A, 0, none⟩) 256 256, .int .i64 t] w fun e w' => e = .returned (.bool (needB (findL rs) t)) ∧ w' = w := by
  have HA : Hid (Blk w A (tab (idx rs)) 3) := hA
  have ht' : (t : Int) < 16 := by omega
  clear hA
  go_enter Try.func51, Try.ntmps51
  go_wp2
  go_loopw [5] (fun i wr => ∃ j : Nat, j ≤ 16 ∧ i = .int .i64 j ∧ ((List.range j).any fun i => (findL rs (t * 16 + i)).isSome) = false ∧ Hid (wr = w)) (fun i _ => 16 - (intOf i).toNat)
  case atStart => exact ⟨0, by omega, rfl, rfl, rfl⟩
  case round =>
    obtain ⟨j, hj, rfl, hn, hw⟩ := hrel
    have hw := hw.out.symm
    subst hw
    have HN : Hid (((List.range j).any fun i => (findL rs (t * 16 + i)).isSome) = false) := hn
    clear hn
    by_cases hlt : j < 16
    · have cj := HA.out.cell (tab_get (idx rs) (16 * t + j) (by omega))
      have hx := idx_find rs (16 * t + j)
      rw [show 16 * t + j = t * 16 + j by omega] at hx
      have HX : Hid (decide (0 ≤ idx rs (t * 16 + j)) = (findL rs (t * 16 + j)).isSome) := hx
      have hlt' : (j : Int) < 16 := by omega
      rw [show idx rs (16 * t + j) = idx rs (t * 16 + j) by rw [Nat.mul_comm]] at cj
      obtain ⟨v0, hv0⟩ : ∃ v, v = idx rs (t * 16 + j) := ⟨_, rfl⟩
      rw [← hv0] at cj HX
      clear hx hv0
      by_cases hv : 0 ≤ v0
      · have HB : Hid (needB (findL rs) t = true) := by
          have := HX.out
          rw [decide_eq_true hv] at this
          exact List.any_eq_true.2 ⟨j, by simpa using hlt, this.symm⟩
        go_wp2
        go_ret
        exact ⟨by rw [HB.out]; rfl, rfl⟩
      · have HB : Hid (((List.range (j + 1)).any fun i => (findL rs (t * 16 + i)).isSome) = false) := by
          have := HX.out
          rw [decide_eq_false hv] at this
          show _ = false
          rw [needB_take, HN.out, ← this]; rfl
        go_wp2
        go_roundw
        case rel => exact ⟨j + 1, by omega, by go_num, HB.out, by first | exact rfl | exact True.intro⟩
        case measure => simp [intOf]; omega
    · obtain rfl : j = 16 := by omega
      go_wp2
      go_ret
      exact ⟨by rw [show needB (findL rs) t = false from HN.out]; rfl, rfl⟩

set_option maxHeartbeats 1000000 in
theorem rtables_any (a : Option Addr) (rs : List Rgn) (c : Nat) (w : World) (hl : rs.length ≤ c ∧ c ≤ maxLen) (hs : SegR w a rs) (hf : ∀ r, r ∈ rs → r.Fine) :
    Calls Try.prog 46 #[.slice a rs.length c] w fun e w' => (∃ m z : Nat, e = .returned (.tuple #[.int .i64 m, .int .i64 z]) ∧ TabP rs m z) ∧ Keeps (fun _ => False) w w' := by
  have H1 : Hid (Calls _ _ _ _ _) := of_any a rs c w hl hs hf
  obtain ⟨L, hL⟩ : ∃ L, L = rs.length := ⟨_, rfl⟩
  have HL : Hid (L = rs.length) := hL
  have hc3 : (L : Int) ≤ 9223372036854775807 := by unfold maxLen at hl; omega
  rw [← hL] at H1 ⊢
  clear hl hs hf hL
  by_cases h8 : 8 < L
  · have h8' : (8 : Int) < L := by omega
    have HH : Hid (TabP rs 0 2) := .inl ⟨by rw [← HL.out]; exact h8, rfl, rfl⟩
    clear h8 H1
    go_enter Try.func46, Try.ntmps46
    go_wp2
    go_ret2
    exact ⟨⟨0, 2, rfl, HH.out⟩, Keeps.refl _ _⟩
  · have h8' : ¬ (8 : Int) < L := by omega
    have H8 : Hid (rs.length ≤ 8) := by show rs.length ≤ 8; rw [← HL.out]; omega
    clear h8
    go_enter Try.func46, Try.ntmps46
    go_wp2_with fail
    refine H1.out.mono ?_
    rintro e w1 ⟨(⟨hm, rfl⟩ | ⟨hm, rfl, hb⟩), hK⟩
    · have HH : Hid (TabP rs 0 95 ∧ Keeps (fun _ => False) w w1) := ⟨.inr (.inl ⟨H8.out, hm, rfl, rfl⟩), hK⟩
      clear hm hK H1
      go_wp2
      go_ret2
      exact ⟨⟨0, 95, rfl, HH.out.1⟩, HH.out.2⟩
    · have HH : Hid (MayB rs ∧ Keeps (fun _ => False) w w1 ∧ Blk w1 w.heap.size (tab (idx rs)) 3) := ⟨hm, hK, hb⟩
      clear hm hK hb H1
      go_wp2
      go_loopw [7, 6] (fun i m wr => ∃ j : Nat, j ≤ 16 ∧ i = .int .i64 j ∧ m = .int .i64 (cnt (findL rs) j : Nat) ∧ Hid (wr = w1)) (fun i _ _ => 16 - (intOf i).toNat)
      case atStart => exact ⟨0, by omega, rfl, rfl, rfl⟩
      case round =>
        obtain ⟨j, hj, rfl, rfl, hw⟩ := hrel
        have hw := hw.out.symm
        subst hw
        by_cases hlt : j < 16
        · have HC := needs_any w.heap.size rs j w1 HH.out.2.2 hlt
          have hlt' : (j : Int) < 16 := by omega
          have hcj : ((cnt (findL rs) j : Nat) : Int) ≤ 16 := by have := cnt_le (findL rs) j; omega
          obtain ⟨C, hC⟩ : ∃ C, C = cnt (findL rs) j := ⟨_, rfl⟩
          rw [← hC] at hcj ⊢
          have HCC : Hid (C = cnt (findL rs) j) := hC
          clear hC
          cases hb : needB (findL rs) j
          · rw [hb] at HC
            have HC : Hid (Calls _ _ _ _ _) := HC
            have HB : Hid (cnt (findL rs) (j + 1) = C) := by show cnt (findL rs) (j + 1) = C; rw [cnt_no hb, HCC.out]
            clear hb
            go_wp2_with fail
            refine HC.out.mono ?_
            rintro e w2 ⟨rfl, hw⟩
            obtain rfl := hw.symm
            clear hw
            go_wp2
            go_roundw
            case rel => exact ⟨j + 1, by omega, by go_num, by rw [HB.out], by first | exact rfl | exact True.intro⟩
            case measure => simp [intOf]; omega
          · rw [hb] at HC
            have HC : Hid (Calls _ _ _ _ _) := HC
            have HB : Hid (cnt (findL rs) (j + 1) = C + 1) := by show cnt (findL rs) (j + 1) = C + 1; rw [cnt_yes hb, HCC.out]
            clear hb
            go_wp2_with fail
            refine HC.out.mono ?_
            rintro e w2 ⟨rfl, hw⟩
            obtain rfl := hw.symm
            clear hw
            go_wp2
            go_roundw
            case rel => exact ⟨j + 1, by omega, by go_num, by rw [HB.out]; go_num, by first | exact rfl | exact True.intro⟩
            case measure => simp [intOf]; omega
        · obtain rfl : j = 16 := by omega
          go_wp2
          go_ret2
          exact ⟨⟨cnt (findL rs) 16, 0, rfl, .inr (.inr ⟨H8.out, HH.out.1, rfl, rfl⟩)⟩, HH.out.2.1⟩

/-- Frames of the memory, no two the same. -/
def UqOk (n : Nat) (fs : List Int) : Prop := ∀ (i : Nat) (f : Int), fs[i]? = some f → (0 ≤ f ∧ f < n) ∧ f ∉ fs.take i
theorem uq_step {n : Nat} {fs : List Int} {j : Nat} {y : Int} (h : UqOk n (fs.take j)) (hy : fs[j]? = some y) (h1 : 0 ≤ y ∧ y < n) (h3 : y ∉ fs.take j) : UqOk n (fs.take (j + 1)) := by
  intro i t hi
  rw [List.getElem?_take] at hi
  split at hi
  · rename_i hlt
    by_cases hij : i = j
    · subst hij
      rw [hy] at hi
      obtain rfl := Option.some.inj hi
      refine ⟨h1, ?_⟩
      rw [List.take_take, Nat.min_eq_left (by omega)]; exact h3
    · have := h i t (by rw [List.getElem?_take, if_pos (by omega)]; exact hi)
      rw [List.take_take, Nat.min_eq_left (by omega)] at this
      rw [List.take_take, Nat.min_eq_left (by omega)]; exact this
  · simp at hi
theorem uq_not {n : Nat} {fs : List Int} {j : Nat} {y : Int} (hy : fs[j]? = some y) (h : ¬ ((0 ≤ y ∧ y < n) ∧ y ∉ fs.take j)) : ¬ UqOk n fs := fun k => h (k j y hy)
theorem uq_apart (n : Nat) (root : Int) (ts : List Int) : UqOk n (root :: ts) ↔ Apart n root ts := by
  constructor
  · intro h
    refine ⟨(h 0 root rfl).1, fun i t hi => ?_⟩
    have := h (i + 1) t hi
    rw [List.take_succ_cons, List.mem_cons] at this
    exact ⟨this.1, fun e => this.2 (.inl e), fun e => this.2 (.inr e)⟩
  · intro h i f hi
    cases i with
    | zero =>
      simp at hi
      subst hi
      exact ⟨h.1, by simp⟩
    | succ i =>
      have := h.2 i f (by simpa using hi)
      refine ⟨this.1, ?_⟩
      rw [List.take_succ_cons, List.mem_cons]
      rintro (e | e)
      · exact this.2.1 e
      · exact this.2.2 e

set_option maxRecDepth 20000 in
set_option maxHeartbeats 4000000 in
theorem unlike_any (b g n : Nat) (xs : List UInt32) (a : Option Addr) (fs : List Int) (c : Nat) (w : World) (h : Rn w b g n xs) (hl : fs.length ≤ c ∧ c ≤ maxLen) (hs : SegI w a fs) :
    Calls Try.prog 50 #[.pointer (some ⟨b, 0, none⟩), .slice a fs.length c] w fun e w' => Says e (UqOk n fs) ∧ Keeps (fun _ => False) w w' := by
  obtain ⟨L, hL⟩ : ∃ L, L = fs.length := ⟨_, rfl⟩
  have HS : Hid (SegI w a fs ∧ L = fs.length ∧ (L ≤ c ∧ c ≤ maxLen) ∧ Rn w b g n xs) := ⟨hs, hL, by rw [hL]; exact hl, h⟩
  have hc2 : (L : Int) ≤ c := by omega
  have hc3 : (c : Int) ≤ 9223372036854775807 := by unfold maxLen at hl; omega
  rw [← hL]
  clear hl hs hL h
  go_enter Try.func50, Try.ntmps50
  go_wp2
  go_loopw [5] (fun i wr => ∃ j : Nat, j ≤ L ∧ i = .int .i64 j ∧ UqOk n (fs.take j) ∧ Keeps (fun _ => False) w wr) (fun i _ => L - (intOf i).toNat)
  case atStart => exact ⟨0, by omega, rfl, by intro i t h; simp at h, Keeps.refl _ _⟩
  case round =>
    obtain ⟨j, hj, rfl, hp, hK⟩ := hrel
    have HJ : Hid (UqOk n (fs.take j) ∧ Keeps (fun _ => False) w wr) := ⟨hp, hK⟩
    by_cases hlt : j < L
    · obtain ⟨y, hy⟩ : ∃ y, fs[j]? = some y := ⟨_, List.getElem?_eq_getElem (by have := HS.out.2.1; omega)⟩
      obtain ⟨gi, o, rfl, y0⟩ := (HS.out.1.grown hK).at hy
      have H2 := rhas_any b g n xs y wr (HS.out.2.2.2.grown hK)
      have HY : Hid (fs[j]? = some y) := hy
      have hlt' : (j : Int) < L := by omega
      clear hp hy hK
      by_cases h1 : 0 ≤ y ∧ y < n
      · rw [inR_true h1.1 h1.2] at H2
        have H2 : Hid (Calls _ _ _ _ _) := H2
        have HO : Hid (0 ≤ y ∧ y < n) := h1
        clear h1
        go_wp2_with fail
        refine H2.out.mono ?_
        rintro e w1 ⟨rfl, hw⟩
        obtain rfl := hw.symm
        clear hw y0 H2
        go_wp2
        go_loopw [6] (fun i wr => ∃ k : Nat, k ≤ j ∧ i = .int .i64 k ∧ y ∉ fs.take k ∧ Keeps (fun _ => False) w wr) (fun i _ => j - (intOf i).toNat)
        case atStart => exact ⟨0, by omega, rfl, by simp, HJ.out.2⟩
        case round =>
          obtain ⟨k, hk, rfl, hn, hK⟩ := hrel
          have HN : Hid (y ∉ fs.take k ∧ Keeps (fun _ => False) w wr) := ⟨hn, hK⟩
          by_cases hkj : k < j
          · obtain ⟨x, hx⟩ : ∃ x, fs[k]? = some x := ⟨_, List.getElem?_eq_getElem (by have := HS.out.2.1; omega)⟩
            obtain ⟨g1, o1, e1, x0⟩ := (HS.out.1.grown hK).at hx
            obtain ⟨g2, o2, e2, y0⟩ := (HS.out.1.grown hK).at HY.out
            injection e1 with e1; injection e1 with e1 e1'
            injection e2 with e2; injection e2 with e2 e2'
            subst e1 e1' e2 e2'
            have HX : Hid (fs[k]? = some x) := hx
            have hkj' : (k : Int) < j := by omega
            have hkL : (k : Int) < L := by omega
            clear hn hK hx
            by_cases hxy : x = y
            · have hxy' : (x == y) = true := by simpa using hxy
              have HB : Hid (¬ UqOk n fs) := uq_not HY.out (fun q => q.2 (by
                rw [← hxy]; exact List.mem_of_getElem? (show (fs.take j)[k]? = some x by rw [List.getElem?_take, if_pos hkj]; exact HX.out)))
              clear hxy
              go_wp2_with fail
              go_quiet (fail)
              go_wp2
              go_ret
              exact ⟨says_f HB.out, HN.out.2.drewN _⟩
            · have hxy' : (x == y) = false := by simpa using hxy
              have HB : Hid (y ∉ fs.take (k + 1)) := by
                show y ∉ fs.take (k + 1)
                rw [List.take_add_one, HX.out]
                intro h
                rcases List.mem_append.1 h with h | h
                · exact HN.out.1 h
                · simp at h; exact hxy h.symm
              clear hxy
              go_wp2_with fail
              go_quiet (fail)
              go_wp2
              go_roundw
              case rel => exact ⟨k + 1, by omega, by go_num, HB.out, HN.out.2.drewN _⟩
              case measure => simp [intOf]; omega
          · obtain rfl : k = j := by omega
            have HB : Hid (UqOk n (fs.take (k + 1))) := uq_step HJ.out.1 HY.out HO.out HN.out.1
            clear hn hK
            go_wp2
            go_roundw
            case rel => exact ⟨k + 1, by omega, by go_num, HB.out, HN.out.2⟩
            case measure => simp [intOf]; omega
      · rw [inR_false h1] at H2
        have H2 : Hid (Calls _ _ _ _ _) := H2
        have HB : Hid (¬ UqOk n fs) := uq_not HY.out (fun q => h1 q.1)
        clear h1
        go_wp2_with fail
        refine H2.out.mono ?_
        rintro e w1 ⟨rfl, hw⟩
        obtain rfl := hw.symm
        clear hw
        go_wp2
        go_ret
        exact ⟨says_f HB.out, HJ.out.2⟩
    · obtain rfl : j = L := by omega
      have HH : Hid (UqOk n fs) := by
        rw [List.take_of_length_le (by have := HS.out.2.1; omega)] at hp
        exact hp
      clear hp hK
      go_wp2
      go_ret
      exact ⟨says_t HH.out, HJ.out.2⟩

end Go.Proofs.Ytpccdhoaicabcaa
