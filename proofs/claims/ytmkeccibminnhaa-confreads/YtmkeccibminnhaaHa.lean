import Derived.Test.YtmkeccibminnhaaOa
namespace Go.Proofs.Ytmkeccibminnhaa
open Go.RowKit
set_option linter.unusedVariables false
set_option maxRecDepth 6000

theorem ret_b {a b : Bool} (h : a = b) : Ending.returned (.bool a) = .returned (.bool b) := by rw [h]

set_option maxHeartbeats 1000000 in
theorem may_any (gl : Nat) (ns : List Int) (t : TypeId) (w : World) (hB : Blk w gl (ivs ns) t) (hl : ns.length ≤ 8) :
    Calls Try.prog 42 #[.slice (some ⟨gl, 0, none⟩) ns.length ns.length] w fun e w' => e = .returned (.bool (!wNs ns)) ∧ w' = w := by
  obtain ⟨L, hL⟩ : ∃ L, L = ns.length := ⟨_, rfl⟩
  have HS : Hid (Blk w gl (ivs ns) t ∧ L = ns.length) := ⟨hB, hL⟩
  rw [← hL] at hl ⊢
  clear hB hL
  go_enter Try.func42, Try.ntmps42
  go_wp2
  go_loopw [6] (fun i wr => ∃ j : Nat, j ≤ L ∧ i = .int .i64 j ∧ (ns.take j).any wN = false ∧ wr = w) (fun i _ => L - (intOf i).toNat)
  case atStart => exact ⟨0, by omega, rfl, by simp, rfl⟩
  case round =>
    obtain ⟨j, hj, rfl, hn, rfl⟩ := hrel
    by_cases hlt : j < L
    · obtain ⟨n, hy⟩ : ∃ n, ns[j]? = some n := ⟨_, List.getElem?_eq_getElem (by have := HS.out.2; omega)⟩
      have y0 : wr.cell? ⟨gl, j, none⟩ = some (.int .i64 n) := HS.out.1.cell (by simp [ivs, hy])
      have HY : Hid (ns[j]? = some n ∧ (ns.take j).any wN = false) := ⟨hy, hn⟩
      clear hy hn
      by_cases h1 : n < 0
      · have HQ : Hid (wNs ns = true) := List.any_eq_true.2 ⟨n, List.mem_of_getElem? HY.out.1, by simp [wN, h1]⟩
        go_wp2
        go_ret
        exact ⟨ret_b (by rw [HQ.out]; rfl), rfl⟩
      · by_cases h2 : 4294967295 < n
        · have HQ : Hid (wNs ns = true) := List.any_eq_true.2 ⟨n, List.mem_of_getElem? HY.out.1, by simp [wN, h2]⟩
          go_wp2
          go_ret
          exact ⟨ret_b (by rw [HQ.out]; rfl), rfl⟩
        · have HF : Hid ((ns.take (j + 1)).any wN = false) := by
            show (ns.take (j + 1)).any wN = false
            rw [take_any wN ns j n HY.out.1, HY.out.2]; simp [wN, h1, h2]
          go_wp2
          go_roundw
          case rel => exact ⟨j + 1, by omega, by go_num, HF.out, by first | rfl | trivial⟩
          case measure => simp [intOf]; omega
    · obtain rfl : j = L := by omega
      have HQ : Hid (wNs ns = false) := by
        rw [List.take_of_length_le (by have := HS.out.2; omega)] at hn; exact hn
      clear hn
      go_wp2
      go_ret
      exact ⟨ret_b (by rw [HQ.out]; rfl), rfl⟩
theorem may_at {w w1 : World} (N : Nat) (ns : List Int) (hN : N = w1.heap.size) (hl : ns.length ≤ 8) :
    Calls Try.prog 42 #[.slice (some ⟨N, 0, none⟩) ns.length ns.length] (w1.alloc (.cells (ivs ns).toArray 3)) fun e w' => e = .returned (.bool (!wNs ns)) ∧ w' = w1.alloc (.cells (ivs ns).toArray 3) := by
  subst hN
  exact may_any w1.heap.size ns 3 _ (Blk.new w1 (ivs ns).toArray 3) hl

set_option maxHeartbeats 2000000 in
theorem holdsWindows_any (a : Option Addr) (c : Nat) (l : List Win) (w : World) (hs : SegA Win.vs 3 w a l) (hl : l.length ≤ c ∧ c ≤ maxLen) :
    Calls Try.prog 43 #[.slice a l.length c] w fun e w' => e = .returned (.bool (!listW Win.d2 l)) ∧ Keeps (fun _ => False) w w' := by
  obtain ⟨L, hL⟩ : ∃ L, L = l.length := ⟨_, rfl⟩
  have HS : Hid (SegA Win.vs 3 w a l ∧ L = l.length) := ⟨hs, hL⟩
  rw [← hL] at hl ⊢
  have hc2 : (L : Int) ≤ c := by omega
  have hc3 : (c : Int) ≤ 9223372036854775807 := by unfold maxLen at hl; omega
  clear hs hL hl
  go_enter Try.func43, Try.ntmps43
  go_wp2
  go_loopw [7] (fun i wr => ∃ j : Nat, j ≤ L ∧ i = .int .i64 j ∧ (l.take j).any Win.d2 = false ∧ Keeps (fun _ => False) w wr) (fun i _ => L - (intOf i).toNat)
  case atStart => exact ⟨0, by omega, rfl, by simp, Keeps.refl _ _⟩
  case round =>
    obtain ⟨j, hj, rfl, hn, hK⟩ := hrel
    by_cases hlt : j < L
    · obtain ⟨y, hy⟩ : ∃ y, l[j]? = some y := ⟨_, List.getElem?_eq_getElem (by have := HS.out.2; omega)⟩
      obtain ⟨g, o, rfl, hg⟩ := (HS.out.1.kept hK fun _ _ _ e => e).at hy
      have y0 := hg 0 _ rfl
      rw [Nat.add_zero] at y0
      have y1 := hg 1 _ rfl
      have y2 := hg 2 _ rfl
      have HY : Hid (l[j]? = some y ∧ (l.take j).any Win.d2 = false ∧ Keeps (fun _ => False) w wr) := ⟨hy, hn, hK⟩
      have HB : Hid (y.d2 = true → listW Win.d2 l = true) := fun h => by
        unfold listW; rw [List.any_eq_true.2 ⟨y, List.mem_of_getElem? hy, h⟩]; simp
      have HF : Hid (y.d2 = false → (l.take (j + 1)).any Win.d2 = false) := fun h => by rw [take_any Win.d2 l j y hy, hn, h]; rfl
      clear hy hn hg hK
      obtain ⟨p, u, s⟩ := y
      by_cases h1 : p < -1
      · have HQ : Hid (listW Win.d2 l = true) := HB.out (by simp [Win.d2, wNs, wN]; omega)
        go_wp2
        go_ret
        exact ⟨ret_b (by rw [HQ.out]; rfl), HY.out.2.2.alloc _⟩
      · by_cases h2 : 4294967295 ≤ p
        · have HQ : Hid (listW Win.d2 l = true) := HB.out (by simp [Win.d2, wNs, wN]; omega)
          go_wp2
          go_ret
          exact ⟨ret_b (by rw [HQ.out]; rfl), HY.out.2.2.alloc _⟩
        · go_wp2_with fail
          refine (may_at (w := w) (w1 := wr.alloc _) (wr.heap.size + 1) [u, s] (by simp) (by simp)).mono ?_
          rintro e w2 ⟨rfl, rfl⟩
          have HD : Hid (Win.d2 ⟨p, u, s⟩ = wNs [u, s]) := by
            show wNs [p + 1, u, s] = wNs [u, s]
            have : wN (p + 1) = false := by simp [wN]; omega
            simp [wNs, this]
          cases hm : wNs [u, s]
          · have HQ := HF.out (by rw [HD.out, hm])
            have HQ : Hid ((l.take (j + 1)).any Win.d2 = false) := HQ
            clear y0 y1 y2 hm
            go_wp2
            go_roundw
            case rel => exact ⟨j + 1, by omega, by go_num, HQ.out, (HY.out.2.2.alloc _).alloc _⟩
            case measure => simp [intOf]; omega
          · have HQ : Hid (listW Win.d2 l = true) := HB.out (by rw [HD.out, hm])
            clear y0 y1 y2 hm
            go_wp2
            go_ret
            exact ⟨ret_b (by rw [HQ.out]; rfl), (HY.out.2.2.alloc _).alloc _⟩
    · obtain rfl : j = L := by omega
      have HQ : Hid (l.any Win.d2 = false ∧ Keeps (fun _ => False) w wr) := by
        rw [List.take_of_length_le (by have := HS.out.2; omega)] at hn; exact ⟨hn, hK⟩
      clear hn hK
      go_wp2
      go_ret
      refine ⟨ret_b ?_, HQ.out.2⟩
      unfold listW
      rw [HQ.out.1, ← HS.out.2, Bool.or_false, ← decide_not]
      rw [Bool.eq_iff_iff]
      simp
      omega
end Go.Proofs.Ytmkeccibminnhaa
