import Derived.Test.YtmkeccibminnhaaWe
namespace Go.Proofs.Ytmkeccibminnhaa
open Go.RowKit
set_option linter.unusedVariables false
set_option maxRecDepth 6000

set_option maxHeartbeats 2000000 in
theorem writeWins_any (a b : Nat) (g : Option Nat) (xs : List UInt8) (d : Bool) (ad : Option Addr) (c : Nat) (l : List Win) (w : World) (h : Wt w a b g xs d) (hs : SegA Win.vs 3 w ad l) (hn : l ≠ [] → ∀ x, ad = some x → ¬ Own a b g x.block)
    (hl : l.length ≤ c ∧ c ≤ maxLen) (hx : xs.length + 4000 ≤ 140737488355328)
    (hE : ∀ x ∈ l, ∀ (W : World) (g' : Option Nat) (zs : List UInt8) (d' : Bool), Keeps (Own a b g) w W → Wt W a b g' zs d' → (g' = g ∨ ∃ k, g' = some k ∧ w.heap.size ≤ k) → zs.length + 300 ≤ 140737488355328 →
      Calls Try.prog 58 #[.pointer (some ⟨a, 0, none⟩), x.v] W fun e w' => e = .returned (.tuple #[]) ∧ Put W a b g' zs w' x.e (d' || x.d)) :
    Calls Try.prog 57 #[.pointer (some ⟨a, 0, none⟩), .slice ad l.length c, .func (.func 58) #[] #[]] w fun e w' => e = .returned (.tuple #[]) ∧ Put w a b g xs w' (listB Win.e l) (d || listW Win.d l) := by
  have p0 := h.blk.cell (i := 0) rfl
  have p1 := h.blk.frozen 1
  have p3 := h.blk.cell (i := 1) rfl
  obtain ⟨L, hL⟩ : ∃ L, L = l.length := ⟨_, rfl⟩
  have HS : Hid (Wt w a b g xs d ∧ SegA Win.vs 3 w ad l ∧ (l ≠ [] → ∀ x, ad = some x → ¬ Own a b g x.block) ∧ L = l.length ∧ xs.length + 4000 ≤ 140737488355328) := ⟨h, hs, hn, hL, hx⟩
  have HE : Hid (∀ x ∈ l, ∀ (W : World) (g' : Option Nat) (zs : List UInt8) (d' : Bool), Keeps (Own a b g) w W → Wt W a b g' zs d' → (g' = g ∨ ∃ k, g' = some k ∧ w.heap.size ≤ k) → zs.length + 300 ≤ 140737488355328 →
      Calls Try.prog 58 #[.pointer (some ⟨a, 0, none⟩), x.v] W fun e w' => e = .returned (.tuple #[]) ∧ Put W a b g' zs w' x.e (d' || x.d)) := hE
  have hc2 : (L : Int) ≤ c := by omega
  have hc3 : (c : Int) ≤ 9223372036854775807 := by unfold maxLen at hl; omega
  rw [← hL]
  clear h hs hn hL hx hE hl
  by_cases hl : 255 < L
  · have hl' : (255 : Int) < L := by omega
    have HL : Hid (255 < l.length) := by have := HS.out.2.2.2.1; show 255 < l.length; omega
    go_enter Try.func57, Try.ntmps57
    go_wp2
    refine bodyPost_ret (results_none rfl _ _ _) rfl ?_
    refine ⟨rfl, g, ?_, .inl rfl, Keeps.wide⟩
    have e1 : listB Win.e l = [] := by unfold listB; rw [if_pos HL.out]
    have e2 : listW Win.d l = true := by unfold listW; rw [decide_eq_true HL.out]; rfl
    rw [e1, e2, List.append_nil, Bool.or_true]
    exact HS.out.1.wide
  · have hl' : ¬ (255 : Int) < L := by omega
    have hcv : IntKind.u8.wrap (L : Int) = L := by rw [IntKind.wrap_u8']; omega
    have e1 : listB Win.e l = lowB 1 L ++ l.flatMap Win.e := by unfold listB; rw [if_neg (by have := HS.out.2.2.2.1; omega), ← HS.out.2.2.2.1]
    have e2 : listW Win.d l = l.any Win.d := by unfold listW; rw [decide_eq_false (by have := HS.out.2.2.2.1; omega)]; rfl
    rw [e1, e2]
    clear e1 e2
    go_enter Try.func57, Try.ntmps57
    go_wp2_with fail
    refine (put_u8 L HS.out.1 (by have := HS.out.2.2.2.2; omega) (by omega)).mono ?_
    rintro e w0 ⟨rfl, hP⟩
    have HP : Hid (Put w a b g xs w0 (lowB 1 L) d) := hP
    clear hP p0 p1 p3 hcv
    go_wp2
    go_loopw [24] (fun i wr => ∃ j : Nat, j ≤ L ∧ i = .int .i64 j ∧ Put w a b g xs wr (lowB 1 L ++ (l.take j).flatMap Win.e) (d || (l.take j).any Win.d)) (fun i _ => L - (intOf i).toNat)
    case atStart => exact ⟨0, by omega, rfl, HP.out.cong (by simp) (by simp)⟩
    case round =>
      clear HP
      obtain ⟨j, hj, rfl, g1, hw1, hg1, hK1⟩ := hrel
      by_cases hlt : j < L
      · obtain ⟨y, hy⟩ : ∃ y, l[j]? = some y := ⟨_, List.getElem?_eq_getElem (by have := HS.out.2.2.2.1; omega)⟩
        obtain ⟨gl, o, rfl, hg⟩ := (HS.out.2.1.kept hK1 HS.out.2.2.1).at hy
        have y0 := hg 0 _ rfl
        rw [Nat.add_zero] at y0
        have y1 := hg 1 _ rfl
        have y2 := hg 2 _ rfl
        have HL : Hid ((xs ++ (lowB 1 L ++ (l.take j).flatMap Win.e)).length + 300 ≤ 140737488355328) := by
          have h1 := flat_le Win.e 12 Win.e_le (l.take j)
          have h2 : (l.take j).length ≤ j := List.length_take_le _ _
          have h3 : (l.take j).length * 12 ≤ 255 * 12 := Nat.mul_le_mul_right _ (by omega)
          have := HS.out.2.2.2.2
          show (xs ++ (lowB 1 L ++ (l.take j).flatMap Win.e)).length + 300 ≤ 140737488355328
          rw [List.length_append, List.length_append, lowB_len]; omega
        obtain ⟨W, hWd⟩ : ∃ W, W = wr.alloc (.cells #[.int .i64 y.p, .int .i64 y.u, .int .i64 y.s] 94) := ⟨_, rfl⟩
        have hKW : Keeps (Own a b g) w W := by rw [hWd]; exact hK1.alloc _
        have hWt : Wt W a b g1 (xs ++ (lowB 1 L ++ (l.take j).flatMap Win.e)) (d || (l.take j).any Win.d) := by rw [hWd]; exact hw1.kept ((Keeps.refl (fun _ => False) wr).alloc _) fun _ _ e => e
        have HC : Hid (Calls _ _ _ _ _) := HE.out y (List.mem_of_getElem? hy) W g1 _ _ hKW hWt hg1 HL.out
        have HF : Hid (∀ w2, Put W a b g1 (xs ++ (lowB 1 L ++ (l.take j).flatMap Win.e)) w2 y.e (d || (l.take j).any Win.d || y.d) → Put w a b g xs w2 (lowB 1 L ++ (l.take (j + 1)).flatMap Win.e) (d || (l.take (j + 1)).any Win.d)) := by
          intro w2 hP
          refine (Put.trans hg1 hKW hP).cong ?_ ?_
          · rw [take_get Win.e l j y hy, List.append_assoc]
          · rw [take_any Win.d l j y hy, Bool.or_assoc]
        clear hy hg hw1 hg1 hK1 hKW hWt HL
        subst hWd
        go_wp2_with fail
        refine HC.out.mono ?_
        rintro r w2 ⟨rfl, hP⟩
        have HP : Hid (Put w a b g xs w2 (lowB 1 L ++ (l.take (j + 1)).flatMap Win.e) (d || (l.take (j + 1)).any Win.d)) := HF.out w2 hP
        clear hP HC HF y0 y1 y2
        go_wp2
        go_roundw
        case rel => exact ⟨j + 1, by omega, by go_num, HP.out⟩
        case measure => simp [intOf]; omega
      · obtain rfl : j = L := by omega
        have HP : Hid (Put w a b g xs wr (lowB 1 j ++ l.flatMap Win.e) (d || l.any Win.d)) := by
          have : l.take j = l := List.take_of_length_le (by have := HS.out.2.2.2.1; omega)
          rw [this] at hw1
          exact ⟨g1, hw1, hg1, hK1⟩
        clear hw1 hg1 hK1
        go_wp2
        go_end0
        exact ⟨rfl, HP.out⟩

end Go.Proofs.Ytmkeccibminnhaa
