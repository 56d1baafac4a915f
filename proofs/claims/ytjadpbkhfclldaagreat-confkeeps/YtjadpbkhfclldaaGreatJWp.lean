import Derived.Test.YtjadpbkhfclldaaGreatJWl
import Derived.Test.YtjadpbkhfclldaaGreatJWm
namespace Go.Proofs.YtjadpbkhfclldaaGreat
open Go.RowKit
set_option linter.unusedVariables false
set_option maxRecDepth 6000

set_option maxHeartbeats 2000000 in
theorem writeCores_any (a b : Nat) (g : Option Nat) (xs : List UInt8) (d : Bool) (ad : Option Addr) (c : Nat) (l : List Core) (w : World) (h : Wt w a b g xs d) (hs : SegA Core.vs 1 w ad l) (hn : l ≠ [] → ∀ x, ad = some x → ¬ Own a b g x.block)
    (hl : l.length ≤ c ∧ c ≤ maxLen) (hx : xs.length + 800000 ≤ 140737488355328)
    (hE : ∀ x ∈ l, ∀ (W : World) (g' : Option Nat) (zs : List UInt8) (d' : Bool), Keeps (Own a b g) w W → Wt W a b g' zs d' → (g' = g ∨ ∃ k, g' = some k ∧ w.heap.size ≤ k) → zs.length + 4000 ≤ 140737488355328 →
      Calls Tryz.prog 41 #[.pointer (some ⟨a, 0, none⟩), x.v] W fun e w' => e = .returned (.tuple #[]) ∧ Put W a b g' zs w' x.e (d' || x.d)) :
    Calls Tryz.prog 40 #[.pointer (some ⟨a, 0, none⟩), .slice ad l.length c, .func (.func 41) #[] #[]] w fun e w' => e = .returned (.tuple #[]) ∧ Put w a b g xs w' (listB Core.e l) (d || listW Core.d l) := by
  have p0 := h.blk.cell (i := 0) rfl
  have p1 := h.blk.frozen 1
  have p3 := h.blk.cell (i := 1) rfl
  obtain ⟨L, hL⟩ : ∃ L, L = l.length := ⟨_, rfl⟩
  have HS : Hid (Wt w a b g xs d ∧ SegA Core.vs 1 w ad l ∧ (l ≠ [] → ∀ x, ad = some x → ¬ Own a b g x.block) ∧ L = l.length ∧ xs.length + 800000 ≤ 140737488355328) := ⟨h, hs, hn, hL, hx⟩
  have HE : Hid (∀ x ∈ l, ∀ (W : World) (g' : Option Nat) (zs : List UInt8) (d' : Bool), Keeps (Own a b g) w W → Wt W a b g' zs d' → (g' = g ∨ ∃ k, g' = some k ∧ w.heap.size ≤ k) → zs.length + 4000 ≤ 140737488355328 →
      Calls Tryz.prog 41 #[.pointer (some ⟨a, 0, none⟩), x.v] W fun e w' => e = .returned (.tuple #[]) ∧ Put W a b g' zs w' x.e (d' || x.d)) := hE
  have hc2 : (L : Int) ≤ c := by omega
  have hc3 : (c : Int) ≤ 9223372036854775807 := by unfold maxLen at hl; omega
  rw [← hL]
  clear h hs hn hL hx hE hl
  by_cases hl : 255 < L
  · have hl' : (255 : Int) < L := by omega
    have HL : Hid (255 < l.length) := by have := HS.out.2.2.2.1; show 255 < l.length; omega
    go_enter Tryz.func40, Tryz.ntmps40
    go_wp2
    refine bodyPost_ret (results_none rfl _ _ _) rfl ?_
    refine ⟨rfl, g, ?_, .inl rfl, Keeps.wide⟩
    have e1 : listB Core.e l = [] := by unfold listB; rw [if_pos HL.out]
    have e2 : listW Core.d l = true := by unfold listW; rw [decide_eq_true HL.out]; rfl
    rw [e1, e2, List.append_nil, Bool.or_true]
    exact HS.out.1.wide
  · have hl' : ¬ (255 : Int) < L := by omega
    have hcv : IntKind.u8.wrap (L : Int) = L := by rw [IntKind.wrap_u8']; omega
    have e1 : listB Core.e l = lowB 1 L ++ l.flatMap Core.e := by unfold listB; rw [if_neg (by have := HS.out.2.2.2.1; omega), ← HS.out.2.2.2.1]
    have e2 : listW Core.d l = l.any Core.d := by unfold listW; rw [decide_eq_false (by have := HS.out.2.2.2.1; omega)]; rfl
    rw [e1, e2]
    clear e1 e2
    go_enter Tryz.func40, Tryz.ntmps40
    go_wp2_with fail
    refine (put_u8 L HS.out.1 (by have := HS.out.2.2.2.2; omega) (by omega)).mono ?_
    rintro e w0 ⟨rfl, hP⟩
    have HP : Hid (Put w a b g xs w0 (lowB 1 L) d) := hP
    clear hP p0 p1 p3 hcv
    go_wp2
    go_loopw [24] (fun i wr => ∃ j : Nat, j ≤ L ∧ i = .int .i64 j ∧ Put w a b g xs wr (lowB 1 L ++ (l.take j).flatMap Core.e) (d || (l.take j).any Core.d)) (fun i _ => L - (intOf i).toNat)
    case atStart => exact ⟨0, by omega, rfl, HP.out.cong (by simp) (by simp)⟩
    case round =>
      clear HP
      obtain ⟨j, hj, rfl, g1, hw1, hg1, hK1⟩ := hrel
      by_cases hlt : j < L
      · obtain ⟨y, hy⟩ : ∃ y, l[j]? = some y := ⟨_, List.getElem?_eq_getElem (by have := HS.out.2.2.2.1; omega)⟩
        obtain ⟨gl, o, rfl, hg⟩ := (HS.out.2.1.kept hK1 HS.out.2.2.1).at hy
        have y0 := hg 0 _ rfl
        rw [Nat.add_zero, Nat.mul_one] at y0
        have HL : Hid ((xs ++ (lowB 1 L ++ (l.take j).flatMap Core.e)).length + 4000 ≤ 140737488355328) := by
          have h1 := flat_le Core.e 3061 Core.e_le (l.take j)
          have h2 : (l.take j).length ≤ j := List.length_take_le _ _
          have h3 : (l.take j).length * 3061 ≤ 255 * 3061 := Nat.mul_le_mul_right _ (by omega)
          have := HS.out.2.2.2.2
          show (xs ++ (lowB 1 L ++ (l.take j).flatMap Core.e)).length + 4000 ≤ 140737488355328
          rw [List.length_append, List.length_append, lowB_len]; omega
        obtain ⟨W, hWd⟩ : ∃ W, W = wr := ⟨_, rfl⟩
        have hKW : Keeps (Own a b g) w W := by rw [hWd]; exact hK1
        have hWt : Wt W a b g1 (xs ++ (lowB 1 L ++ (l.take j).flatMap Core.e)) (d || (l.take j).any Core.d) := by rw [hWd]; exact hw1
        have HC : Hid (Calls _ _ _ _ _) := HE.out y (List.mem_of_getElem? hy) W g1 _ _ hKW hWt hg1 HL.out
        have HF : Hid (∀ w2, Put W a b g1 (xs ++ (lowB 1 L ++ (l.take j).flatMap Core.e)) w2 y.e (d || (l.take j).any Core.d || y.d) → Put w a b g xs w2 (lowB 1 L ++ (l.take (j + 1)).flatMap Core.e) (d || (l.take (j + 1)).any Core.d)) := by
          intro w2 hP
          refine (Put.trans hg1 hKW hP).cong ?_ ?_
          · rw [take_get Core.e l j y hy, List.append_assoc]
          · rw [take_any Core.d l j y hy, Bool.or_assoc]
        clear hy hg hw1 hg1 hK1 hKW hWt HL
        subst hWd
        go_wp2_with fail
        refine HC.out.mono ?_
        rintro r w2 ⟨rfl, hP⟩
        have HP : Hid (Put w a b g xs w2 (lowB 1 L ++ (l.take (j + 1)).flatMap Core.e) (d || (l.take (j + 1)).any Core.d)) := HF.out w2 hP
        clear hP HC HF y0
        go_wp2
        go_roundw
        case rel => exact ⟨j + 1, by omega, by go_num, HP.out⟩
        case measure => simp [intOf]; omega
      · obtain rfl : j = L := by omega
        have HP : Hid (Put w a b g xs wr (lowB 1 j ++ l.flatMap Core.e) (d || l.any Core.d)) := by
          have : l.take j = l := List.take_of_length_le (by have := HS.out.2.2.2.1; omega)
          rw [this] at hw1
          exact ⟨g1, hw1, hg1, hK1⟩
        clear hw1 hg1 hK1
        go_wp2
        go_end0
        exact ⟨rfl, HP.out⟩

set_option maxHeartbeats 2000000 in
theorem writePars_any (a b : Nat) (g : Option Nat) (xs : List UInt8) (d : Bool) (ad : Option Addr) (c : Nat) (l : List Par) (w : World) (h : Wt w a b g xs d) (hs : SegA Par.vs 8 w ad l) (hn : l ≠ [] → ∀ x, ad = some x → ¬ Own a b g x.block)
    (hl : l.length ≤ c ∧ c ≤ maxLen) (hx : xs.length + 2000000 ≤ 140737488355328)
    (hE : ∀ x ∈ l, ∀ (W : World) (g' : Option Nat) (zs : List UInt8) (d' : Bool), Keeps (Own a b g) w W → Wt W a b g' zs d' → (g' = g ∨ ∃ k, g' = some k ∧ w.heap.size ≤ k) → zs.length + 20000 ≤ 140737488355328 →
      Calls Tryz.prog 43 #[.pointer (some ⟨a, 0, none⟩), x.v] W fun e w' => e = .returned (.tuple #[]) ∧ Put W a b g' zs w' x.e (d' || x.d)) :
    Calls Tryz.prog 42 #[.pointer (some ⟨a, 0, none⟩), .slice ad l.length c, .func (.func 43) #[] #[]] w fun e w' => e = .returned (.tuple #[]) ∧ Put w a b g xs w' (listB Par.e l) (d || listW Par.d l) := by
  have p0 := h.blk.cell (i := 0) rfl
  have p1 := h.blk.frozen 1
  have p3 := h.blk.cell (i := 1) rfl
  obtain ⟨L, hL⟩ : ∃ L, L = l.length := ⟨_, rfl⟩
  have HS : Hid (Wt w a b g xs d ∧ SegA Par.vs 8 w ad l ∧ (l ≠ [] → ∀ x, ad = some x → ¬ Own a b g x.block) ∧ L = l.length ∧ xs.length + 2000000 ≤ 140737488355328) := ⟨h, hs, hn, hL, hx⟩
  have HE : Hid (∀ x ∈ l, ∀ (W : World) (g' : Option Nat) (zs : List UInt8) (d' : Bool), Keeps (Own a b g) w W → Wt W a b g' zs d' → (g' = g ∨ ∃ k, g' = some k ∧ w.heap.size ≤ k) → zs.length + 20000 ≤ 140737488355328 →
      Calls Tryz.prog 43 #[.pointer (some ⟨a, 0, none⟩), x.v] W fun e w' => e = .returned (.tuple #[]) ∧ Put W a b g' zs w' x.e (d' || x.d)) := hE
  have hc2 : (L : Int) ≤ c := by omega
  have hc3 : (c : Int) ≤ 9223372036854775807 := by unfold maxLen at hl; omega
  rw [← hL]
  clear h hs hn hL hx hE hl
  by_cases hl : 255 < L
  · have hl' : (255 : Int) < L := by omega
    have HL : Hid (255 < l.length) := by have := HS.out.2.2.2.1; show 255 < l.length; omega
    go_enter Tryz.func42, Tryz.ntmps42
    go_wp2
    refine bodyPost_ret (results_none rfl _ _ _) rfl ?_
    refine ⟨rfl, g, ?_, .inl rfl, Keeps.wide⟩
    have e1 : listB Par.e l = [] := by unfold listB; rw [if_pos HL.out]
    have e2 : listW Par.d l = true := by unfold listW; rw [decide_eq_true HL.out]; rfl
    rw [e1, e2, List.append_nil, Bool.or_true]
    exact HS.out.1.wide
  · have hl' : ¬ (255 : Int) < L := by omega
    have hcv : IntKind.u8.wrap (L : Int) = L := by rw [IntKind.wrap_u8']; omega
    have e1 : listB Par.e l = lowB 1 L ++ l.flatMap Par.e := by unfold listB; rw [if_neg (by have := HS.out.2.2.2.1; omega), ← HS.out.2.2.2.1]
    have e2 : listW Par.d l = l.any Par.d := by unfold listW; rw [decide_eq_false (by have := HS.out.2.2.2.1; omega)]; rfl
    rw [e1, e2]
    clear e1 e2
    go_enter Tryz.func42, Tryz.ntmps42
    go_wp2_with fail
    refine (put_u8 L HS.out.1 (by have := HS.out.2.2.2.2; omega) (by omega)).mono ?_
    rintro e w0 ⟨rfl, hP⟩
    have HP : Hid (Put w a b g xs w0 (lowB 1 L) d) := hP
    clear hP p0 p1 p3 hcv
    go_wp2
    go_loopw [24] (fun i wr => ∃ j : Nat, j ≤ L ∧ i = .int .i64 j ∧ Put w a b g xs wr (lowB 1 L ++ (l.take j).flatMap Par.e) (d || (l.take j).any Par.d)) (fun i _ => L - (intOf i).toNat)
    case atStart => exact ⟨0, by omega, rfl, HP.out.cong (by simp) (by simp)⟩
    case round =>
      clear HP
      obtain ⟨j, hj, rfl, g1, hw1, hg1, hK1⟩ := hrel
      by_cases hlt : j < L
      · obtain ⟨y, hy⟩ : ∃ y, l[j]? = some y := ⟨_, List.getElem?_eq_getElem (by have := HS.out.2.2.2.1; omega)⟩
        obtain ⟨gl, o, rfl, hg⟩ := (HS.out.2.1.kept hK1 HS.out.2.2.1).at hy
        have y0 := hg 0 _ rfl
        rw [Nat.add_zero] at y0
        have y1 := hg 1 _ rfl
        have y2 := hg 2 _ rfl
        have y3 := hg 3 _ rfl
        have y4 := hg 4 _ rfl
        have y5 := hg 5 _ rfl
        have y6 := hg 6 _ rfl
        have y7 := hg 7 _ rfl
        have HL : Hid ((xs ++ (lowB 1 L ++ (l.take j).flatMap Par.e)).length + 20000 ≤ 140737488355328) := by
          have h1 := flat_le Par.e 5637 Par.e_le (l.take j)
          have h2 : (l.take j).length ≤ j := List.length_take_le _ _
          have h3 : (l.take j).length * 5637 ≤ 255 * 5637 := Nat.mul_le_mul_right _ (by omega)
          have := HS.out.2.2.2.2
          show (xs ++ (lowB 1 L ++ (l.take j).flatMap Par.e)).length + 20000 ≤ 140737488355328
          rw [List.length_append, List.length_append, lowB_len]; omega
        obtain ⟨W, hWd⟩ : ∃ W, W = wr.alloc (.cells #[.string y.name, .int .i64 y.entry, .int .i64 y.action, .int .i64 y.restarts, .int .i64 y.inputs, .int .i64 y.outputs, .slice y.ra y.rs.length y.rc, .slice y.pa y.ps.length y.pc] 47) := ⟨_, rfl⟩
        have hKW : Keeps (Own a b g) w W := by rw [hWd]; exact hK1.alloc _
        have hWt : Wt W a b g1 (xs ++ (lowB 1 L ++ (l.take j).flatMap Par.e)) (d || (l.take j).any Par.d) := by rw [hWd]; exact hw1.kept ((Keeps.refl (fun _ => False) wr).alloc _) fun _ _ e => e
        have HC : Hid (Calls _ _ _ _ _) := HE.out y (List.mem_of_getElem? hy) W g1 _ _ hKW hWt hg1 HL.out
        have HF : Hid (∀ w2, Put W a b g1 (xs ++ (lowB 1 L ++ (l.take j).flatMap Par.e)) w2 y.e (d || (l.take j).any Par.d || y.d) → Put w a b g xs w2 (lowB 1 L ++ (l.take (j + 1)).flatMap Par.e) (d || (l.take (j + 1)).any Par.d)) := by
          intro w2 hP
          refine (Put.trans hg1 hKW hP).cong ?_ ?_
          · rw [take_get Par.e l j y hy, List.append_assoc]
          · rw [take_any Par.d l j y hy, Bool.or_assoc]
        clear hy hg hw1 hg1 hK1 hKW hWt HL
        subst hWd
        go_wp2_with fail
        refine HC.out.mono ?_
        rintro r w2 ⟨rfl, hP⟩
        have HP : Hid (Put w a b g xs w2 (lowB 1 L ++ (l.take (j + 1)).flatMap Par.e) (d || (l.take (j + 1)).any Par.d)) := HF.out w2 hP
        clear hP HC HF y0 y1 y2 y3 y4 y5 y6 y7
        go_wp2
        go_roundw
        case rel => exact ⟨j + 1, by omega, by go_num, HP.out⟩
        case measure => simp [intOf]; omega
      · obtain rfl : j = L := by omega
        have HP : Hid (Put w a b g xs wr (lowB 1 j ++ l.flatMap Par.e) (d || l.any Par.d)) := by
          have : l.take j = l := List.take_of_length_le (by have := HS.out.2.2.2.1; omega)
          rw [this] at hw1
          exact ⟨g1, hw1, hg1, hK1⟩
        clear hw1 hg1 hK1
        go_wp2
        go_end0
        exact ⟨rfl, HP.out⟩

end Go.Proofs.YtjadpbkhfclldaaGreat
namespace Go.Proofs.YtjadpbkhfclldaaGreat
open Go.RowKit
set_option linter.unusedVariables false
set_option maxRecDepth 6000

def Hi (N a b : Nat) (g : Option Nat) : Prop := N ≤ a ∧ N ≤ b ∧ ∀ k, g = some k → N ≤ k
theorem Hi.own {N a b : Nat} {g : Option Nat} (h : Hi N a b g) {k : Nat} (hk : Own a b g k) : N ≤ k := by
  rcases hk with rfl | rfl | hk
  · exact h.1
  · exact h.2.1
  · exact h.2.2 k hk.symm
theorem Hi.later {N a b : Nat} {g g' : Option Nat} {w : World} (h : Hi N a b g) (hN : N ≤ w.heap.size) (hg : g' = g ∨ ∃ k, g' = some k ∧ w.heap.size ≤ k) : Hi N a b g' := by
  refine ⟨h.1, h.2.1, fun k hk => ?_⟩
  rcases hg with rfl | ⟨m, rfl, hm⟩
  · exact h.2.2 k hk
  · cases hk; omega

/-- A core lies there, below N. -/
theorem Keeps.hi {w w' : World} {N a b : Nat} {g : Option Nat} (hK : Keeps (Own a b g) w w') (h : Hi N a b g) (hN : N ≤ w.heap.size) : Below N w w' := hK.below hN fun _ hk => h.own hk

set_option maxHeartbeats 400000 in
theorem core_any (N a b : Nat) (g : Option Nat) (xs : List UInt8) (d : Bool) (x : Core) (w : World) (h : Wt w a b g xs d) (hH : Hi N a b g) (hi : x.In w N) (hx : xs.length + 4000 ≤ 140737488355328) :
    Calls Tryz.prog 41 #[.pointer (some ⟨a, 0, none⟩), x.v] w fun e w' => e = .returned (.tuple #[]) ∧ Put w a b g xs w' x.e (d || x.d) := by
  have HC : Hid (Calls _ _ _ _ _) := writeWins_any a b g xs d x.a x.c x.ws w h hi.seg (fun hn y hy ho => by have := hi.lo hn y hy; have := hH.own ho; omega) hi.len hx fun y hy W g' zs d' hK hW hg hz => window_any a b g' zs d' y W hW hz (hi.fine y hy)
  obtain ⟨ad, c, ws⟩ := x
  obtain ⟨L, hL⟩ : ∃ L, ws.length = L := ⟨_, rfl⟩
  simp only [Core.v]
  simp only [hL] at HC ⊢
  clear h hi hH
  go_enter Tryz.func41, Tryz.ntmps41
  go_wp2_with fail
  refine HC.out.mono ?_
  rintro e w1 ⟨rfl, hP⟩
  have HP : Hid (Put w a b g xs w1 _ _) := hP
  clear hP HC
  go_wp2
  go_end0
  exact ⟨rfl, HP.out⟩

set_option maxHeartbeats 1000000 in
theorem partition_any (N a b : Nat) (g : Option Nat) (xs : List UInt8) (d : Bool) (x : Par) (w : World) (h : Wt w a b g xs d) (hH : Hi N a b g) (hN : N ≤ w.heap.size) (hi : x.In w N) (hx : xs.length + 20000 ≤ 140737488355328) :
    Calls Tryz.prog 43 #[.pointer (some ⟨a, 0, none⟩), x.v] w fun e w' => e = .returned (.tuple #[]) ∧ Put w a b g xs w' x.e (d || x.d) := by
  obtain ⟨s, n1, n2, n3, n4, n5, ra, rc, rs, pa, pc, ps⟩ := x
  have HS : Hid (Wt w a b g xs d ∧ Hi N a b g ∧ N ≤ w.heap.size ∧ (⟨s, n1, n2, n3, n4, n5, ra, rc, rs, pa, pc, ps⟩ : Par).In w N) := ⟨h, hH, hN, hi⟩
  obtain ⟨L1, hL1⟩ : ∃ L, rs.length = L := ⟨_, rfl⟩
  obtain ⟨L2, hL2⟩ : ∃ L, ps.length = L := ⟨_, rfl⟩
  simp only [Par.v, hL1, hL2]
  have HL : Hid (rs.length = L1 ∧ ps.length = L2) := ⟨hL1, hL2⟩
  clear h hH hN hi hL1 hL2
  go_enter Tryz.func43, Tryz.ntmps43
  go_wp2_with fail
  obtain ⟨W, hW⟩ : ∃ W, W = w.alloc (.cells #[.string s, .int .i64 n1, .int .i64 n2, .int .i64 n3, .int .i64 n4, .int .i64 n5, .slice ra L1 rc, .slice pa L2 pc] 47) := ⟨_, rfl⟩
  have hKW : Keeps (fun _ => False) w W := by rw [hW]; exact (Keeps.refl _ w).alloc _
  have hBW : Blk W w.heap.size [.string s, .int .i64 n1, .int .i64 n2, .int .i64 n3, .int .i64 n4, .int .i64 n5, .slice ra L1 rc, .slice pa L2 pc] 47 := by rw [hW]; exact Blk.new w _ _
  have hno : ¬ Own a b g w.heap.size := own_newW (w1 := w) HS.out.1 (Nat.le_refl _)
  have HA : Hid (Keeps (fun _ => False) w W ∧ Blk W w.heap.size [.string s, .int .i64 n1, .int .i64 n2, .int .i64 n3, .int .i64 n4, .int .i64 n5, .slice ra L1 rc, .slice pa L2 pc] 47 ∧ ¬ Own a b g w.heap.size) := ⟨hKW, hBW, hno⟩
  rw [← hW]
  clear hKW hBW hno
  have hw0 : Wt W a b g xs d := HS.out.1.kept HA.out.1 fun _ _ e => e
  refine (name_any a b g xs d s W hw0 (by omega) HS.out.2.2.2.name).mono ?_
  rintro e w1 ⟨rfl, hP⟩
  have HP1 : Hid (Put W a b g xs w1 (nameBy s) (d || nameW s)) := hP
  obtain ⟨g1, hw1, hg1, hK1⟩ := hP
  have hB1 := HA.out.2.1.kept hK1 HA.out.2.2
  have c1 := hB1.cell (i := 1) rfl
  have c2 := hB1.cell (i := 2) rfl
  have c3 := hB1.cell (i := 3) rfl
  have c4 := hB1.cell (i := 4) rfl
  have c5 := hB1.cell (i := 5) rfl
  have H1 : Hid (Wt w1 a b g1 (xs ++ nameBy s) (d || nameW s) ∧ (g1 = g ∨ ∃ k, g1 = some k ∧ W.heap.size ≤ k) ∧ Keeps (Own a b g) W w1) := ⟨hw1, hg1, hK1⟩
  clear hw1 hg1 hK1 hB1 hw0 hW
  go_wp2_with fail
  refine (numbers_at (w1 := w1) w1.heap.size [n1, n2, n3, n4, n5] H1.out.1 (Keeps.refl _ _) rfl HS.out.2.2.2.ns (by simp) (by rw [List.length_append]; have := nameB_le s; omega)).mono ?_
  rintro e w2 ⟨rfl, hP⟩
  have HP2 : Hid (Put W a b g xs w2 (nameBy s ++ nbs [n1, n2, n3, n4, n5]) (d || nameW s || wNs [n1, n2, n3, n4, n5])) := Put.trans H1.out.2.1 H1.out.2.2 hP
  obtain ⟨g2, hw2, hg2, hK2⟩ := HP2.out
  have c6 := (HA.out.2.1.kept hK2 HA.out.2.2).cell (i := 6) rfl
  have H2 : Hid (Wt w2 a b g2 (xs ++ (nameBy s ++ nbs [n1, n2, n3, n4, n5])) (d || nameW s || wNs [n1, n2, n3, n4, n5]) ∧ (g2 = g ∨ ∃ k, g2 = some k ∧ W.heap.size ≤ k) ∧ Keeps (Own a b g) W w2) := ⟨hw2, hg2, hK2⟩
  clear hw2 hg2 hK2 hP c1 c2 c3 c4 c5 H1 HP1
  go_wp2_with fail
  have HHi : Hid (N ≤ W.heap.size ∧ Hi N a b g2) := ⟨Nat.le_trans HS.out.2.2.1 HA.out.1.size, HS.out.2.1.later (w := W) (Nat.le_trans HS.out.2.2.1 HA.out.1.size) H2.out.2.1⟩
  have hI2 : Par.In w2 N ⟨s, n1, n2, n3, n4, n5, ra, rc, rs, pa, pc, ps⟩ := (HS.out.2.2.2.below (HA.out.1.below HS.out.2.2.1 fun _ e => e.elim)).below (H2.out.2.2.hi HS.out.2.1 HHi.out.1)
  have HC := writeRgns_any a b g2 (xs ++ (nameBy s ++ nbs [n1, n2, n3, n4, n5])) (d || nameW s || wNs [n1, n2, n3, n4, n5]) ra rc rs w2 H2.out.1 hI2.rseg (fun hn y hy ho => by have := hI2.rlo hn y hy; have := HHi.out.2.own ho; omega) hI2.rlen
    (by rw [List.length_append, List.length_append, nbs_length]; have := nameB_le s; simp only [List.length_cons, List.length_nil]; omega) fun y hy V g' zs d' hK hV hg hz => region_any a b g' zs d' y V hV hz (hI2.rfine y hy)
  rw [HL.out.1] at HC
  refine HC.mono ?_
  rintro e w3 ⟨rfl, hP⟩
  have HP3 : Hid (Put W a b g xs w3 (nameBy s ++ nbs [n1, n2, n3, n4, n5] ++ listB Rgn.e rs) (d || nameW s || wNs [n1, n2, n3, n4, n5] || listW Rgn.d rs)) := Put.trans H2.out.2.1 H2.out.2.2 hP
  obtain ⟨g3, hw3, hg3, hK3⟩ := HP3.out
  have c7 := (HA.out.2.1.kept hK3 HA.out.2.2).cell (i := 7) rfl
  have H3 : Hid (Wt w3 a b g3 (xs ++ (nameBy s ++ nbs [n1, n2, n3, n4, n5] ++ listB Rgn.e rs)) (d || nameW s || wNs [n1, n2, n3, n4, n5] || listW Rgn.d rs) ∧ (g3 = g ∨ ∃ k, g3 = some k ∧ W.heap.size ≤ k) ∧ Keeps (Own a b g) W w3) := ⟨hw3, hg3, hK3⟩
  clear hw3 hg3 hK3 hP c6 H2 HP2 HC hI2
  go_wp2_with fail
  have hI3 : Par.In w3 N ⟨s, n1, n2, n3, n4, n5, ra, rc, rs, pa, pc, ps⟩ := (HS.out.2.2.2.below (HA.out.1.below HS.out.2.2.1 fun _ e => e.elim)).below (H3.out.2.2.hi HS.out.2.1 HHi.out.1)
  have HHj : Hi N a b g3 := HS.out.2.1.later (w := W) HHi.out.1 H3.out.2.1
  have HC := writePrts_any a b g3 _ _ pa pc ps w3 H3.out.1 hI3.pseg (fun hn y hy ho => by have := hI3.plo hn y hy; have := HHj.own ho; omega) hI3.plen
    (by rw [List.length_append, List.length_append, List.length_append, nbs_length]; have := nameB_le s; have := listB_le _ 16 Rgn.e_le rs; simp only [List.length_cons, List.length_nil]; omega) fun y hy V g' zs d' hK hV hg hz => wport_any a b g' zs d' y V hV hz (hI3.pfine y hy)
  rw [HL.out.2] at HC
  refine HC.mono ?_
  rintro e w4 ⟨rfl, hP⟩
  have HP4 : Hid (Put w a b g xs w4 (Par.e ⟨s, n1, n2, n3, n4, n5, ra, rc, rs, pa, pc, ps⟩) (d || Par.d ⟨s, n1, n2, n3, n4, n5, ra, rc, rs, pa, pc, ps⟩)) := by
    refine ((Put.trans H3.out.2.1 H3.out.2.2 hP).grown HA.out.1).cong ?_ ?_
    · unfold Par.e Par.ns; simp only [List.append_assoc]
    · unfold Par.d Par.ns; simp only [Bool.or_assoc]
  clear hP c7 H3 HP3 HC hI3 HHj HHi
  go_wp2
  go_end0
  exact ⟨rfl, HP4.out⟩

set_option maxHeartbeats 1000000 in
theorem config_any (N a b : Nat) (g : Option Nat) (xs : List UInt8) (d : Bool) (x : Cfg) (w : World) (h : Wt w a b g xs d) (hH : Hi N a b g) (hN : N ≤ w.heap.size) (hi : x.In w N) (hx : xs.length + 5000000 ≤ 140737488355328) :
    Calls Tryz.prog 18 #[.pointer (some ⟨a, 0, none⟩), x.v] w fun e w' => e = .returned (.tuple #[]) ∧ Put w a b g xs w' x.e (d || x.d) := by
  obtain ⟨n1, n2, n3, n4, ca, cc, cs, pa, pc, ps, ha, hc, hs⟩ := x
  have HS : Hid (Wt w a b g xs d ∧ Hi N a b g ∧ N ≤ w.heap.size ∧ (⟨n1, n2, n3, n4, ca, cc, cs, pa, pc, ps, ha, hc, hs⟩ : Cfg).In w N) := ⟨h, hH, hN, hi⟩
  obtain ⟨L1, hL1⟩ : ∃ L, cs.length = L := ⟨_, rfl⟩
  obtain ⟨L2, hL2⟩ : ∃ L, ps.length = L := ⟨_, rfl⟩
  obtain ⟨L3, hL3⟩ : ∃ L, hs.length = L := ⟨_, rfl⟩
  simp only [Cfg.v, hL1, hL2, hL3]
  have HL : Hid (cs.length = L1 ∧ ps.length = L2 ∧ hs.length = L3) := ⟨hL1, hL2, hL3⟩
  clear h hH hN hi hL1 hL2 hL3
  go_enter Tryz.func18, Tryz.ntmps18
  go_wp2_with fail
  obtain ⟨W, hW⟩ : ∃ W, W = w.alloc (.cells #[.int .i64 n1, .int .i64 n2, .int .i64 n3, .int .i64 n4, .slice ca L1 cc, .slice pa L2 pc, .slice ha L3 hc] 26) := ⟨_, rfl⟩
  have hKW : Keeps (fun _ => False) w W := by rw [hW]; exact (Keeps.refl _ w).alloc _
  have hBW : Blk W w.heap.size [.int .i64 n1, .int .i64 n2, .int .i64 n3, .int .i64 n4, .slice ca L1 cc, .slice pa L2 pc, .slice ha L3 hc] 26 := by rw [hW]; exact Blk.new w _ _
  have hno : ¬ Own a b g w.heap.size := own_newW (w1 := w) HS.out.1 (Nat.le_refl _)
  have HA : Hid (Keeps (fun _ => False) w W ∧ Blk W w.heap.size [.int .i64 n1, .int .i64 n2, .int .i64 n3, .int .i64 n4, .slice ca L1 cc, .slice pa L2 pc, .slice ha L3 hc] 26 ∧ ¬ Own a b g w.heap.size ∧ N ≤ W.heap.size) := ⟨hKW, hBW, hno, Nat.le_trans HS.out.2.2.1 hKW.size⟩
  have HI : Hid ((⟨n1, n2, n3, n4, ca, cc, cs, pa, pc, ps, ha, hc, hs⟩ : Cfg).In W N) := HS.out.2.2.2.below (hKW.below HS.out.2.2.1 fun _ e => e.elim)
  have hsz : w.heap.size + 1 = W.heap.size := by rw [hW]; simp
  rw [← hW, hsz]
  clear hKW hBW hno hW hsz
  refine (numbers_at (w := W) (w1 := W) W.heap.size [n1, n2, n3, n4] (HS.out.1.kept HA.out.1 fun _ _ e => e) (Keeps.refl _ _) rfl HS.out.2.2.2.ns (by simp) (by omega)).mono ?_
  rintro e w1 ⟨rfl, hP⟩
  obtain ⟨g1, hw1, hg1, hK1⟩ := hP
  have c4 := (HA.out.2.1.kept hK1 HA.out.2.2.1).cell (i := 4) rfl
  have H1 : Hid (Wt w1 a b g1 (xs ++ nbs [n1, n2, n3, n4]) (d || wNs [n1, n2, n3, n4]) ∧ (g1 = g ∨ ∃ k, g1 = some k ∧ W.heap.size ≤ k) ∧ Keeps (Own a b g) W w1) := ⟨hw1, hg1, hK1⟩
  clear hw1 hg1 hK1
  go_wp2_with fail
  have hI1 := HI.out.below (H1.out.2.2.hi HS.out.2.1 HA.out.2.2.2)
  have hH1 : Hi N a b g1 := HS.out.2.1.later (w := W) HA.out.2.2.2 H1.out.2.1
  have HC := writeCores_any a b g1 _ _ ca cc cs w1 H1.out.1 hI1.cseg (fun hn y hy ho => by have := hI1.clo hn y hy; have := hH1.own ho; omega) hI1.clen
    (by rw [List.length_append, nbs_length]; simp only [List.length_cons, List.length_nil]; omega) fun y hy V g' zs d' hK hV hg hz => core_any N a b g' zs d' y V hV (hH1.later (w := w1) (Nat.le_trans HA.out.2.2.2 H1.out.2.2.size) hg) ((hI1.cin y hy).below (hK.hi hH1 (Nat.le_trans HA.out.2.2.2 H1.out.2.2.size))) hz
  rw [HL.out.1] at HC
  refine HC.mono ?_
  rintro e w2 ⟨rfl, hP⟩
  obtain ⟨g2, hw2, hg2, hK2⟩ := Put.trans H1.out.2.1 H1.out.2.2 hP
  have c5 := (HA.out.2.1.kept hK2 HA.out.2.2.1).cell (i := 5) rfl
  have H2 : Hid (Wt w2 a b g2 (xs ++ (nbs [n1, n2, n3, n4] ++ listB Core.e cs)) (d || wNs [n1, n2, n3, n4] || listW Core.d cs) ∧ (g2 = g ∨ ∃ k, g2 = some k ∧ W.heap.size ≤ k) ∧ Keeps (Own a b g) W w2) := ⟨hw2, hg2, hK2⟩
  clear hw2 hg2 hK2 hP c4 H1 HC hI1 hH1
  go_wp2_with fail
  have hI2 := HI.out.below (H2.out.2.2.hi HS.out.2.1 HA.out.2.2.2)
  have hH2 : Hi N a b g2 := HS.out.2.1.later (w := W) HA.out.2.2.2 H2.out.2.1
  have hN2 : N ≤ w2.heap.size := Nat.le_trans HA.out.2.2.2 H2.out.2.2.size
  have HC := writePars_any a b g2 _ _ pa pc ps w2 H2.out.1 hI2.pseg (fun hn y hy ho => by have := hI2.plo hn y hy; have := hH2.own ho; omega) hI2.plen
    (by rw [List.length_append, List.length_append, nbs_length]; have := listB_le _ _ Core.e_le cs; simp only [List.length_cons, List.length_nil]; omega) fun y hy V g' zs d' hK hV hg hz => partition_any N a b g' zs d' y V hV (hH2.later (w := w2) hN2 hg) (Nat.le_trans hN2 hK.size) ((hI2.pin y hy).below (hK.hi hH2 hN2)) hz
  rw [HL.out.2.1] at HC
  refine HC.mono ?_
  rintro e w3 ⟨rfl, hP⟩
  obtain ⟨g3, hw3, hg3, hK3⟩ := Put.trans H2.out.2.1 H2.out.2.2 hP
  have c6 := (HA.out.2.1.kept hK3 HA.out.2.2.1).cell (i := 6) rfl
  have H3 : Hid (Wt w3 a b g3 (xs ++ (nbs [n1, n2, n3, n4] ++ listB Core.e cs ++ listB Par.e ps)) (d || wNs [n1, n2, n3, n4] || listW Core.d cs || listW Par.d ps) ∧ (g3 = g ∨ ∃ k, g3 = some k ∧ W.heap.size ≤ k) ∧ Keeps (Own a b g) W w3) := ⟨hw3, hg3, hK3⟩
  clear hw3 hg3 hK3 hP c5 H2 HC hI2 hH2 hN2
  go_wp2_with fail
  have hI3 := HI.out.below (H3.out.2.2.hi HS.out.2.1 HA.out.2.2.2)
  have hH3 : Hi N a b g3 := HS.out.2.1.later (w := W) HA.out.2.2.2 H3.out.2.1
  have HC := writeChns_any a b g3 _ _ ha hc hs w3 H3.out.1 hI3.hseg (fun hn y hy ho => by have := hI3.hlo hn y hy; have := hH3.own ho; omega) hI3.hlen
    (by rw [List.length_append, List.length_append, List.length_append, nbs_length]; have := listB_le _ _ Core.e_le cs; have := listB_le _ _ Par.e_le ps; simp only [List.length_cons, List.length_nil]; omega) fun y hy V g' zs d' hK hV hg hz => channel_any a b g' zs d' y V hV hz (hI3.hfine y hy)
  rw [HL.out.2.2] at HC
  refine HC.mono ?_
  rintro e w4 ⟨rfl, hP⟩
  have HP4 : Hid (Put w a b g xs w4 (Cfg.e ⟨n1, n2, n3, n4, ca, cc, cs, pa, pc, ps, ha, hc, hs⟩) (d || Cfg.d ⟨n1, n2, n3, n4, ca, cc, cs, pa, pc, ps, ha, hc, hs⟩)) := by
    refine ((Put.trans H3.out.2.1 H3.out.2.2 hP).grown HA.out.1).cong ?_ ?_
    · unfold Cfg.e Cfg.ns; simp only [List.append_assoc]
    · unfold Cfg.d Cfg.ns; simp only [Bool.or_assoc]
  clear hP c6 H3 HC hI3 hH3
  go_wp2
  go_end0
  exact ⟨rfl, HP4.out⟩
end Go.Proofs.YtjadpbkhfclldaaGreat
