import Derived.Test.YtjadpbkhfclldaaGreatJWl
namespace Go.Proofs.YtjadpbkhfclldaaGreat
open Go.RowKit
set_option linter.unusedVariables false
set_option maxRecDepth 6000

set_option maxHeartbeats 2000000 in
theorem writeRgns_any (a b : Nat) (g : Option Nat) (xs : List UInt8) (d : Bool) (ad : Option Addr) (c : Nat) (l : List Rgn) (w : World) (h : Wt w a b g xs d) (hs : SegA Rgn.vs 4 w ad l) (hn : l ≠ [] → ∀ x, ad = some x → ¬ Own a b g x.block)
    (hl : l.length ≤ c ∧ c ≤ maxLen) (hx : xs.length + 5000 ≤ 140737488355328)
    (hE : ∀ x ∈ l, ∀ (W : World) (g' : Option Nat) (zs : List UInt8) (d' : Bool), Keeps (Own a b g) w W → Wt W a b g' zs d' → (g' = g ∨ ∃ k, g' = some k ∧ w.heap.size ≤ k) → zs.length + 300 ≤ 140737488355328 →
      Calls Tryz.prog 60 #[.pointer (some ⟨a, 0, none⟩), x.v] W fun e w' => e = .returned (.tuple #[]) ∧ Put W a b g' zs w' x.e (d' || x.d)) :
    Calls Tryz.prog 59 #[.pointer (some ⟨a, 0, none⟩), .slice ad l.length c, .func (.func 60) #[] #[]] w fun e w' => e = .returned (.tuple #[]) ∧ Put w a b g xs w' (listB Rgn.e l) (d || listW Rgn.d l) := by
  have p0 := h.blk.cell (i := 0) rfl
  have p1 := h.blk.frozen 1
  have p3 := h.blk.cell (i := 1) rfl
  obtain ⟨L, hL⟩ : ∃ L, L = l.length := ⟨_, rfl⟩
  have HS : Hid (Wt w a b g xs d ∧ SegA Rgn.vs 4 w ad l ∧ (l ≠ [] → ∀ x, ad = some x → ¬ Own a b g x.block) ∧ L = l.length ∧ xs.length + 5000 ≤ 140737488355328) := ⟨h, hs, hn, hL, hx⟩
  have HE : Hid (∀ x ∈ l, ∀ (W : World) (g' : Option Nat) (zs : List UInt8) (d' : Bool), Keeps (Own a b g) w W → Wt W a b g' zs d' → (g' = g ∨ ∃ k, g' = some k ∧ w.heap.size ≤ k) → zs.length + 300 ≤ 140737488355328 →
      Calls Tryz.prog 60 #[.pointer (some ⟨a, 0, none⟩), x.v] W fun e w' => e = .returned (.tuple #[]) ∧ Put W a b g' zs w' x.e (d' || x.d)) := hE
  have hc2 : (L : Int) ≤ c := by omega
  have hc3 : (c : Int) ≤ 9223372036854775807 := by unfold maxLen at hl; omega
  rw [← hL]
  clear h hs hn hL hx hE hl
  by_cases hl : 255 < L
  · have hl' : (255 : Int) < L := by omega
    have HL : Hid (255 < l.length) := by have := HS.out.2.2.2.1; show 255 < l.length; omega
    go_enter Tryz.func59, Tryz.ntmps59
    go_wp2
    refine bodyPost_ret (results_none rfl _ _ _) rfl ?_
    refine ⟨rfl, g, ?_, .inl rfl, Keeps.wide⟩
    have e1 : listB Rgn.e l = [] := by unfold listB; rw [if_pos HL.out]
    have e2 : listW Rgn.d l = true := by unfold listW; rw [decide_eq_true HL.out]; rfl
    rw [e1, e2, List.append_nil, Bool.or_true]
    exact HS.out.1.wide
  · have hl' : ¬ (255 : Int) < L := by omega
    have hcv : IntKind.u8.wrap (L : Int) = L := by rw [IntKind.wrap_u8']; omega
    have e1 : listB Rgn.e l = lowB 1 L ++ l.flatMap Rgn.e := by unfold listB; rw [if_neg (by have := HS.out.2.2.2.1; omega), ← HS.out.2.2.2.1]
    have e2 : listW Rgn.d l = l.any Rgn.d := by unfold listW; rw [decide_eq_false (by have := HS.out.2.2.2.1; omega)]; rfl
    rw [e1, e2]
    clear e1 e2
    go_enter Tryz.func59, Tryz.ntmps59
    go_wp2_with fail
    refine (put_u8 L HS.out.1 (by have := HS.out.2.2.2.2; omega) (by omega)).mono ?_
    rintro e w0 ⟨rfl, hP⟩
    have HP : Hid (Put w a b g xs w0 (lowB 1 L) d) := hP
    clear hP p0 p1 p3 hcv
    go_wp2
    go_loopw [24] (fun i wr => ∃ j : Nat, j ≤ L ∧ i = .int .i64 j ∧ Put w a b g xs wr (lowB 1 L ++ (l.take j).flatMap Rgn.e) (d || (l.take j).any Rgn.d)) (fun i _ => L - (intOf i).toNat)
    case atStart => exact ⟨0, by omega, rfl, HP.out.cong (by simp) (by simp)⟩
    case round =>
      clear HP
      obtain ⟨j, hj, rfl, g1, hw1, hg1, hK1⟩ := hrel
      by_cases hlt : j < L
      · obtain ⟨y, hy⟩ : ∃ y, l[j]? = some y := ⟨_, List.getElem?_eq_getElem (by have := HS.out.2.2.2.1; omega)⟩
        obtain ⟨gl, o, rfl, hg⟩ := (HS.out.2.1.kept hK1 HS.out.2.2.1).at hy
        have y0 := hg 0 _ rfl
        rw [Nat.add_zero] at y0
        have y1 := hg 1 _ rfl
        have y2 := hg 2 _ rfl
        have y3 := hg 3 _ rfl
        have HL : Hid ((xs ++ (lowB 1 L ++ (l.take j).flatMap Rgn.e)).length + 300 ≤ 140737488355328) := by
          have h1 := flat_le Rgn.e 16 Rgn.e_le (l.take j)
          have h2 : (l.take j).length ≤ j := List.length_take_le _ _
          have h3 : (l.take j).length * 16 ≤ 255 * 16 := Nat.mul_le_mul_right _ (by omega)
          have := HS.out.2.2.2.2
          show (xs ++ (lowB 1 L ++ (l.take j).flatMap Rgn.e)).length + 300 ≤ 140737488355328
          rw [List.length_append, List.length_append, lowB_len]; omega
        obtain ⟨W, hWd⟩ : ∃ W, W = wr.alloc (.cells #[.int .i64 y.page, .int .i64 y.pages, .int .i64 y.frame, .int .i64 y.rights] 53) := ⟨_, rfl⟩
        have hKW : Keeps (Own a b g) w W := by rw [hWd]; exact hK1.alloc _
        have hWt : Wt W a b g1 (xs ++ (lowB 1 L ++ (l.take j).flatMap Rgn.e)) (d || (l.take j).any Rgn.d) := by rw [hWd]; exact hw1.kept ((Keeps.refl (fun _ => False) wr).alloc _) fun _ _ e => e
        have HC : Hid (Calls _ _ _ _ _) := HE.out y (List.mem_of_getElem? hy) W g1 _ _ hKW hWt hg1 HL.out
        have HF : Hid (∀ w2, Put W a b g1 (xs ++ (lowB 1 L ++ (l.take j).flatMap Rgn.e)) w2 y.e (d || (l.take j).any Rgn.d || y.d) → Put w a b g xs w2 (lowB 1 L ++ (l.take (j + 1)).flatMap Rgn.e) (d || (l.take (j + 1)).any Rgn.d)) := by
          intro w2 hP
          refine (Put.trans hg1 hKW hP).cong ?_ ?_
          · rw [take_get Rgn.e l j y hy, List.append_assoc]
          · rw [take_any Rgn.d l j y hy, Bool.or_assoc]
        clear hy hg hw1 hg1 hK1 hKW hWt HL
        subst hWd
        go_wp2_with fail
        refine HC.out.mono ?_
        rintro r w2 ⟨rfl, hP⟩
        have HP : Hid (Put w a b g xs w2 (lowB 1 L ++ (l.take (j + 1)).flatMap Rgn.e) (d || (l.take (j + 1)).any Rgn.d)) := HF.out w2 hP
        clear hP HC HF y0 y1 y2 y3
        go_wp2
        go_roundw
        case rel => exact ⟨j + 1, by omega, by go_num, HP.out⟩
        case measure => simp [intOf]; omega
      · obtain rfl : j = L := by omega
        have HP : Hid (Put w a b g xs wr (lowB 1 j ++ l.flatMap Rgn.e) (d || l.any Rgn.d)) := by
          have : l.take j = l := List.take_of_length_le (by have := HS.out.2.2.2.1; omega)
          rw [this] at hw1
          exact ⟨g1, hw1, hg1, hK1⟩
        clear hw1 hg1 hK1
        go_wp2
        go_end0
        exact ⟨rfl, HP.out⟩

set_option maxHeartbeats 2000000 in
theorem writePrts_any (a b : Nat) (g : Option Nat) (xs : List UInt8) (d : Bool) (ad : Option Addr) (c : Nat) (l : List Prt) (w : World) (h : Wt w a b g xs d) (hs : SegA Prt.vs 2 w ad l) (hn : l ≠ [] → ∀ x, ad = some x → ¬ Own a b g x.block)
    (hl : l.length ≤ c ∧ c ≤ maxLen) (hx : xs.length + 2000 ≤ 140737488355328)
    (hE : ∀ x ∈ l, ∀ (W : World) (g' : Option Nat) (zs : List UInt8) (d' : Bool), Keeps (Own a b g) w W → Wt W a b g' zs d' → (g' = g ∨ ∃ k, g' = some k ∧ w.heap.size ≤ k) → zs.length + 300 ≤ 140737488355328 →
      Calls Tryz.prog 62 #[.pointer (some ⟨a, 0, none⟩), x.v] W fun e w' => e = .returned (.tuple #[]) ∧ Put W a b g' zs w' x.e (d' || x.d)) :
    Calls Tryz.prog 61 #[.pointer (some ⟨a, 0, none⟩), .slice ad l.length c, .func (.func 62) #[] #[]] w fun e w' => e = .returned (.tuple #[]) ∧ Put w a b g xs w' (listB Prt.e l) (d || listW Prt.d l) := by
  have p0 := h.blk.cell (i := 0) rfl
  have p1 := h.blk.frozen 1
  have p3 := h.blk.cell (i := 1) rfl
  obtain ⟨L, hL⟩ : ∃ L, L = l.length := ⟨_, rfl⟩
  have HS : Hid (Wt w a b g xs d ∧ SegA Prt.vs 2 w ad l ∧ (l ≠ [] → ∀ x, ad = some x → ¬ Own a b g x.block) ∧ L = l.length ∧ xs.length + 2000 ≤ 140737488355328) := ⟨h, hs, hn, hL, hx⟩
  have HE : Hid (∀ x ∈ l, ∀ (W : World) (g' : Option Nat) (zs : List UInt8) (d' : Bool), Keeps (Own a b g) w W → Wt W a b g' zs d' → (g' = g ∨ ∃ k, g' = some k ∧ w.heap.size ≤ k) → zs.length + 300 ≤ 140737488355328 →
      Calls Tryz.prog 62 #[.pointer (some ⟨a, 0, none⟩), x.v] W fun e w' => e = .returned (.tuple #[]) ∧ Put W a b g' zs w' x.e (d' || x.d)) := hE
  have hc2 : (L : Int) ≤ c := by omega
  have hc3 : (c : Int) ≤ 9223372036854775807 := by unfold maxLen at hl; omega
  rw [← hL]
  clear h hs hn hL hx hE hl
  by_cases hl : 255 < L
  · have hl' : (255 : Int) < L := by omega
    have HL : Hid (255 < l.length) := by have := HS.out.2.2.2.1; show 255 < l.length; omega
    go_enter Tryz.func61, Tryz.ntmps61
    go_wp2
    refine bodyPost_ret (results_none rfl _ _ _) rfl ?_
    refine ⟨rfl, g, ?_, .inl rfl, Keeps.wide⟩
    have e1 : listB Prt.e l = [] := by unfold listB; rw [if_pos HL.out]
    have e2 : listW Prt.d l = true := by unfold listW; rw [decide_eq_true HL.out]; rfl
    rw [e1, e2, List.append_nil, Bool.or_true]
    exact HS.out.1.wide
  · have hl' : ¬ (255 : Int) < L := by omega
    have hcv : IntKind.u8.wrap (L : Int) = L := by rw [IntKind.wrap_u8']; omega
    have e1 : listB Prt.e l = lowB 1 L ++ l.flatMap Prt.e := by unfold listB; rw [if_neg (by have := HS.out.2.2.2.1; omega), ← HS.out.2.2.2.1]
    have e2 : listW Prt.d l = l.any Prt.d := by unfold listW; rw [decide_eq_false (by have := HS.out.2.2.2.1; omega)]; rfl
    rw [e1, e2]
    clear e1 e2
    go_enter Tryz.func61, Tryz.ntmps61
    go_wp2_with fail
    refine (put_u8 L HS.out.1 (by have := HS.out.2.2.2.2; omega) (by omega)).mono ?_
    rintro e w0 ⟨rfl, hP⟩
    have HP : Hid (Put w a b g xs w0 (lowB 1 L) d) := hP
    clear hP p0 p1 p3 hcv
    go_wp2
    go_loopw [24] (fun i wr => ∃ j : Nat, j ≤ L ∧ i = .int .i64 j ∧ Put w a b g xs wr (lowB 1 L ++ (l.take j).flatMap Prt.e) (d || (l.take j).any Prt.d)) (fun i _ => L - (intOf i).toNat)
    case atStart => exact ⟨0, by omega, rfl, HP.out.cong (by simp) (by simp)⟩
    case round =>
      clear HP
      obtain ⟨j, hj, rfl, g1, hw1, hg1, hK1⟩ := hrel
      by_cases hlt : j < L
      · obtain ⟨y, hy⟩ : ∃ y, l[j]? = some y := ⟨_, List.getElem?_eq_getElem (by have := HS.out.2.2.2.1; omega)⟩
        obtain ⟨gl, o, rfl, hg⟩ := (HS.out.2.1.kept hK1 HS.out.2.2.1).at hy
        have y0 := hg 0 _ rfl
        rw [Nat.add_zero] at y0
        have y1 := hg 1 _ rfl
        have HL : Hid ((xs ++ (lowB 1 L ++ (l.take j).flatMap Prt.e)).length + 300 ≤ 140737488355328) := by
          have h1 := flat_le Prt.e 5 Prt.e_le (l.take j)
          have h2 : (l.take j).length ≤ j := List.length_take_le _ _
          have h3 : (l.take j).length * 5 ≤ 255 * 5 := Nat.mul_le_mul_right _ (by omega)
          have := HS.out.2.2.2.2
          show (xs ++ (lowB 1 L ++ (l.take j).flatMap Prt.e)).length + 300 ≤ 140737488355328
          rw [List.length_append, List.length_append, lowB_len]; omega
        obtain ⟨W, hWd⟩ : ∃ W, W = wr.alloc (.cells #[.int .i64 y.ch, .bool y.src] 55) := ⟨_, rfl⟩
        have hKW : Keeps (Own a b g) w W := by rw [hWd]; exact hK1.alloc _
        have hWt : Wt W a b g1 (xs ++ (lowB 1 L ++ (l.take j).flatMap Prt.e)) (d || (l.take j).any Prt.d) := by rw [hWd]; exact hw1.kept ((Keeps.refl (fun _ => False) wr).alloc _) fun _ _ e => e
        have HC : Hid (Calls _ _ _ _ _) := HE.out y (List.mem_of_getElem? hy) W g1 _ _ hKW hWt hg1 HL.out
        have HF : Hid (∀ w2, Put W a b g1 (xs ++ (lowB 1 L ++ (l.take j).flatMap Prt.e)) w2 y.e (d || (l.take j).any Prt.d || y.d) → Put w a b g xs w2 (lowB 1 L ++ (l.take (j + 1)).flatMap Prt.e) (d || (l.take (j + 1)).any Prt.d)) := by
          intro w2 hP
          refine (Put.trans hg1 hKW hP).cong ?_ ?_
          · rw [take_get Prt.e l j y hy, List.append_assoc]
          · rw [take_any Prt.d l j y hy, Bool.or_assoc]
        clear hy hg hw1 hg1 hK1 hKW hWt HL
        subst hWd
        go_wp2_with fail
        refine HC.out.mono ?_
        rintro r w2 ⟨rfl, hP⟩
        have HP : Hid (Put w a b g xs w2 (lowB 1 L ++ (l.take (j + 1)).flatMap Prt.e) (d || (l.take (j + 1)).any Prt.d)) := HF.out w2 hP
        clear hP HC HF y0 y1
        go_wp2
        go_roundw
        case rel => exact ⟨j + 1, by omega, by go_num, HP.out⟩
        case measure => simp [intOf]; omega
      · obtain rfl : j = L := by omega
        have HP : Hid (Put w a b g xs wr (lowB 1 j ++ l.flatMap Prt.e) (d || l.any Prt.d)) := by
          have : l.take j = l := List.take_of_length_le (by have := HS.out.2.2.2.1; omega)
          rw [this] at hw1
          exact ⟨g1, hw1, hg1, hK1⟩
        clear hw1 hg1 hK1
        go_wp2
        go_end0
        exact ⟨rfl, HP.out⟩

set_option maxHeartbeats 2000000 in
theorem writeChns_any (a b : Nat) (g : Option Nat) (xs : List UInt8) (d : Bool) (ad : Option Addr) (c : Nat) (l : List Chn) (w : World) (h : Wt w a b g xs d) (hs : SegA Chn.vs 3 w ad l) (hn : l ≠ [] → ∀ x, ad = some x → ¬ Own a b g x.block)
    (hl : l.length ≤ c ∧ c ≤ maxLen) (hx : xs.length + 4000 ≤ 140737488355328)
    (hE : ∀ x ∈ l, ∀ (W : World) (g' : Option Nat) (zs : List UInt8) (d' : Bool), Keeps (Own a b g) w W → Wt W a b g' zs d' → (g' = g ∨ ∃ k, g' = some k ∧ w.heap.size ≤ k) → zs.length + 300 ≤ 140737488355328 →
      Calls Tryz.prog 45 #[.pointer (some ⟨a, 0, none⟩), x.v] W fun e w' => e = .returned (.tuple #[]) ∧ Put W a b g' zs w' x.e (d' || x.d)) :
    Calls Tryz.prog 44 #[.pointer (some ⟨a, 0, none⟩), .slice ad l.length c, .func (.func 45) #[] #[]] w fun e w' => e = .returned (.tuple #[]) ∧ Put w a b g xs w' (listB Chn.e l) (d || listW Chn.d l) := by
  have p0 := h.blk.cell (i := 0) rfl
  have p1 := h.blk.frozen 1
  have p3 := h.blk.cell (i := 1) rfl
  obtain ⟨L, hL⟩ : ∃ L, L = l.length := ⟨_, rfl⟩
  have HS : Hid (Wt w a b g xs d ∧ SegA Chn.vs 3 w ad l ∧ (l ≠ [] → ∀ x, ad = some x → ¬ Own a b g x.block) ∧ L = l.length ∧ xs.length + 4000 ≤ 140737488355328) := ⟨h, hs, hn, hL, hx⟩
  have HE : Hid (∀ x ∈ l, ∀ (W : World) (g' : Option Nat) (zs : List UInt8) (d' : Bool), Keeps (Own a b g) w W → Wt W a b g' zs d' → (g' = g ∨ ∃ k, g' = some k ∧ w.heap.size ≤ k) → zs.length + 300 ≤ 140737488355328 →
      Calls Tryz.prog 45 #[.pointer (some ⟨a, 0, none⟩), x.v] W fun e w' => e = .returned (.tuple #[]) ∧ Put W a b g' zs w' x.e (d' || x.d)) := hE
  have hc2 : (L : Int) ≤ c := by omega
  have hc3 : (c : Int) ≤ 9223372036854775807 := by unfold maxLen at hl; omega
  rw [← hL]
  clear h hs hn hL hx hE hl
  by_cases hl : 255 < L
  · have hl' : (255 : Int) < L := by omega
    have HL : Hid (255 < l.length) := by have := HS.out.2.2.2.1; show 255 < l.length; omega
    go_enter Tryz.func44, Tryz.ntmps44
    go_wp2
    refine bodyPost_ret (results_none rfl _ _ _) rfl ?_
    refine ⟨rfl, g, ?_, .inl rfl, Keeps.wide⟩
    have e1 : listB Chn.e l = [] := by unfold listB; rw [if_pos HL.out]
    have e2 : listW Chn.d l = true := by unfold listW; rw [decide_eq_true HL.out]; rfl
    rw [e1, e2, List.append_nil, Bool.or_true]
    exact HS.out.1.wide
  · have hl' : ¬ (255 : Int) < L := by omega
    have hcv : IntKind.u8.wrap (L : Int) = L := by rw [IntKind.wrap_u8']; omega
    have e1 : listB Chn.e l = lowB 1 L ++ l.flatMap Chn.e := by unfold listB; rw [if_neg (by have := HS.out.2.2.2.1; omega), ← HS.out.2.2.2.1]
    have e2 : listW Chn.d l = l.any Chn.d := by unfold listW; rw [decide_eq_false (by have := HS.out.2.2.2.1; omega)]; rfl
    rw [e1, e2]
    clear e1 e2
    go_enter Tryz.func44, Tryz.ntmps44
    go_wp2_with fail
    refine (put_u8 L HS.out.1 (by have := HS.out.2.2.2.2; omega) (by omega)).mono ?_
    rintro e w0 ⟨rfl, hP⟩
    have HP : Hid (Put w a b g xs w0 (lowB 1 L) d) := hP
    clear hP p0 p1 p3 hcv
    go_wp2
    go_loopw [24] (fun i wr => ∃ j : Nat, j ≤ L ∧ i = .int .i64 j ∧ Put w a b g xs wr (lowB 1 L ++ (l.take j).flatMap Chn.e) (d || (l.take j).any Chn.d)) (fun i _ => L - (intOf i).toNat)
    case atStart => exact ⟨0, by omega, rfl, HP.out.cong (by simp) (by simp)⟩
    case round =>
      clear HP
      obtain ⟨j, hj, rfl, g1, hw1, hg1, hK1⟩ := hrel
      by_cases hlt : j < L
      · obtain ⟨y, hy⟩ : ∃ y, l[j]? = some y := ⟨_, List.getElem?_eq_getElem (by have := HS.out.2.2.2.1; omega)⟩
        obtain ⟨gl, o, rfl, hg⟩ := (HS.out.2.1.kept hK1 HS.out.2.2.1).at hy
        have y0 := hg 0 _ rfl
        rw [Nat.add_zero] at y0
        have y1 := hg 1 _ rfl
        have y2 := hg 2 _ rfl
        have HL : Hid ((xs ++ (lowB 1 L ++ (l.take j).flatMap Chn.e)).length + 300 ≤ 140737488355328) := by
          have h1 := flat_le Chn.e 12 Chn.e_le (l.take j)
          have h2 : (l.take j).length ≤ j := List.length_take_le _ _
          have h3 : (l.take j).length * 12 ≤ 255 * 12 := Nat.mul_le_mul_right _ (by omega)
          have := HS.out.2.2.2.2
          show (xs ++ (lowB 1 L ++ (l.take j).flatMap Chn.e)).length + 300 ≤ 140737488355328
          rw [List.length_append, List.length_append, lowB_len]; omega
        obtain ⟨W, hWd⟩ : ∃ W, W = wr.alloc (.cells #[.int .i64 y.kind, .int .i64 y.words, .int .i64 y.depth] 57) := ⟨_, rfl⟩
        have hKW : Keeps (Own a b g) w W := by rw [hWd]; exact hK1.alloc _
        have hWt : Wt W a b g1 (xs ++ (lowB 1 L ++ (l.take j).flatMap Chn.e)) (d || (l.take j).any Chn.d) := by rw [hWd]; exact hw1.kept ((Keeps.refl (fun _ => False) wr).alloc _) fun _ _ e => e
        have HC : Hid (Calls _ _ _ _ _) := HE.out y (List.mem_of_getElem? hy) W g1 _ _ hKW hWt hg1 HL.out
        have HF : Hid (∀ w2, Put W a b g1 (xs ++ (lowB 1 L ++ (l.take j).flatMap Chn.e)) w2 y.e (d || (l.take j).any Chn.d || y.d) → Put w a b g xs w2 (lowB 1 L ++ (l.take (j + 1)).flatMap Chn.e) (d || (l.take (j + 1)).any Chn.d)) := by
          intro w2 hP
          refine (Put.trans hg1 hKW hP).cong ?_ ?_
          · rw [take_get Chn.e l j y hy, List.append_assoc]
          · rw [take_any Chn.d l j y hy, Bool.or_assoc]
        clear hy hg hw1 hg1 hK1 hKW hWt HL
        subst hWd
        go_wp2_with fail
        refine HC.out.mono ?_
        rintro r w2 ⟨rfl, hP⟩
        have HP : Hid (Put w a b g xs w2 (lowB 1 L ++ (l.take (j + 1)).flatMap Chn.e) (d || (l.take (j + 1)).any Chn.d)) := HF.out w2 hP
        clear hP HC HF y0 y1 y2
        go_wp2
        go_roundw
        case rel => exact ⟨j + 1, by omega, by go_num, HP.out⟩
        case measure => simp [intOf]; omega
      · obtain rfl : j = L := by omega
        have HP : Hid (Put w a b g xs wr (lowB 1 j ++ l.flatMap Chn.e) (d || l.any Chn.d)) := by
          have : l.take j = l := List.take_of_length_le (by have := HS.out.2.2.2.1; omega)
          rw [this] at hw1
          exact ⟨g1, hw1, hg1, hK1⟩
        clear hw1 hg1 hK1
        go_wp2
        go_end0
        exact ⟨rfl, HP.out⟩

end Go.Proofs.YtjadpbkhfclldaaGreat
