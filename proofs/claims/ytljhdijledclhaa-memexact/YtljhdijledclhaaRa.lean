import Derived.Test.YtljhdijledclhaaDa
namespace Go.Proofs.Ytljhdijledclhaa
open Go.RowKit
set_option linter.unusedVariables false

/-- The document's memory. -/
structure Rm (w : World) (b g : Nat) (xs : List UInt32) : Prop where
  ne : b ≠ g
  blk : ∃ c, xs.length ≤ c ∧ Blk w b [.slice (some ⟨g, 0, none⟩) xs.length c] 98
  row : ∃ ys, Blk w g (wvs xs ++ ys) 26
  small : xs.length ≤ 16384

theorem Rm.kept {S : Nat → Prop} {w w' : World} {b g : Nat} {xs : List UInt32} (h : Rm w b g xs) (k : Keeps S w w') (hb : ¬ S b) (hg : ¬ S g) : Rm w' b g xs := by
  obtain ⟨c, hc, h1⟩ := h.blk
  obtain ⟨ys, h2⟩ := h.row
  exact ⟨h.ne, ⟨c, hc, h1.kept k hb⟩, ⟨ys, h2.kept k hg⟩, h.small⟩
theorem Rm.grown {w w' : World} {b g : Nat} {xs : List UInt32} (h : Rm w b g xs) (k : Keeps (fun _ => False) w w') : Rm w' b g xs := h.kept k (fun e => e) fun e => e
theorem Rm.ltb {w : World} {b g : Nat} {xs : List UInt32} (h : Rm w b g xs) : b < w.heap.size := by obtain ⟨c, hc, h1⟩ := h.blk; exact h1.lt
theorem Rm.ltg {w : World} {b g : Nat} {xs : List UInt32} (h : Rm w b g xs) : g < w.heap.size := by obtain ⟨c, h1⟩ := h.row; exact h1.lt
theorem wvs_set (xs : List UInt32) (p : Nat) (x : UInt32) (hp : p < xs.length) : wvs (lay xs p [x]) = (wvs xs).set p (.int .u32 (x.toNat : Int)) := by
  rw [List.set_eq_take_append_cons_drop, if_pos (by rw [wvs_length]; exact hp)]
  simp [lay, wvs]
theorem Rm.set {w : World} {b g : Nat} {xs : List UInt32} (h : Rm w b g xs) (p : Nat) (x : UInt32) (hp : p < xs.length) : Rm (w.setCell ⟨g, p, none⟩ (.int .u32 (x.toNat : Int))) b g (lay xs p [x]) := by
  have hl : (lay xs p [x]).length = xs.length := lay_length xs p [x] (by simp; omega)
  obtain ⟨c, hc, h1⟩ := h.blk
  obtain ⟨ys, h2⟩ := h.row
  refine ⟨h.ne, ⟨c, by rw [hl]; exact hc, ?_⟩, ⟨ys, ?_⟩, by rw [hl]; exact h.small⟩
  · rw [hl]; exact h1.setCell_ne h.ne _
  · have e : wvs (lay xs p [x]) ++ ys = (wvs xs ++ ys).set p (.int .u32 (x.toNat : Int)) := by
      rw [wvs_set xs p x hp, List.set_append_left _ _ (by rw [wvs_length]; exact hp)]
    rw [e]; exact h2.setCell p _
theorem Rm.cell {w : World} {b g : Nat} {xs : List UInt32} (h : Rm w b g xs) (p : Nat) (hp : p < xs.length) : w.cell? ⟨g, p, none⟩ = some (.int .u32 (xs[p].toNat : Int)) := by
  obtain ⟨ys, h2⟩ := h.row
  exact h2.cell (by rw [List.getElem?_append_left (by rw [wvs_length]; exact hp)]; exact wvs_get xs p hp)
theorem Rm.frozen {w : World} {b g : Nat} {xs : List UInt32} (h : Rm w b g xs) (p : Nat) : w.frozen? ⟨g, p, none⟩ = false := by
  obtain ⟨ys, h2⟩ := h.row
  exact h2.frozen p

def inR (p : Int) (N : Nat) : Bool := decide (0 ≤ p ∧ p < N)
theorem inR_true {p : Int} {N : Nat} (h0 : 0 ≤ p) (h : p < N) : inR p N = true := decide_eq_true ⟨h0, h⟩
theorem inR_false {p : Int} {N : Nat} (h : ¬ (0 ≤ p ∧ p < N)) : inR p N = false := decide_eq_false h

set_option maxHeartbeats 400000 in
theorem rrun_any (b g : Nat) (xs : List UInt32) (p : Int) (w : World) (h : Rm w b g xs) (hp1 : -9223372036854775808 ≤ p) (hp2 : p ≤ 9223372036854775807) :
    Calls Try.prog 58 #[.pointer (some ⟨b, 0, none⟩), .int .i64 p, .int .i64 1] w fun e w' => e = .returned (.bool (inR p xs.length)) ∧ w' = w := by
  obtain ⟨c, hc, hb⟩ := h.blk
  have cb := hb.cell (i := 0) rfl
  have hs := h.small
  obtain ⟨N, hN⟩ : ∃ N, N = xs.length := ⟨_, rfl⟩
  rw [← hN] at cb ⊢
  have hN2 : (N : Int) ≤ 16384 := by omega
  clear h hs hN hc hb
  by_cases h0 : 0 ≤ p
  · by_cases h1 : p ≤ N
    · have h3 : IntKind.i64.wrap ((N : Int) - p) = N - p := by rw [IntKind.wrap_i64]; omega
      by_cases h2 : p < N
      · have h4 : (1 : Int) ≤ N - p := by omega
        go_enter Try.func58, Try.ntmps58
        go_wp2
        go_ret
        exact ⟨ret_bool (by rw [inR_true h0 h2]), rfl⟩
      · have h4 : ¬ (1 : Int) ≤ N - p := by omega
        go_enter Try.func58, Try.ntmps58
        go_wp2
        go_ret
        exact ⟨ret_bool (by rw [inR_false (by omega)]), rfl⟩
    · go_enter Try.func58, Try.ntmps58
      go_wp2
      go_ret
      exact ⟨ret_bool ((inR_false (by omega)).symm), rfl⟩
  · go_enter Try.func58, Try.ntmps58
    go_wp2
    go_ret
    exact ⟨ret_bool ((inR_false (by omega)).symm), rfl⟩

set_option maxHeartbeats 400000 in
theorem rwrite_in (b g : Nat) (xs : List UInt32) (p : Nat) (x : UInt32) (w : World) (h : Rm w b g xs) (hp : p < xs.length) :
    Calls Try.prog 44 #[.pointer (some ⟨b, 0, none⟩), .int .i64 p, .int .u32 (x.toNat : Int)] w fun e w' => e = .returned (.int .i64 0) ∧ Rm w' b g (lay xs p [x]) ∧ Keeps (· = g) w w' := by
  have H1 := rrun_any b g xs p w h (by omega) (by have := h.small; omega)
  rw [inR_true (by omega) (by omega)] at H1
  have H1 : Hid (Calls _ _ _ _ _) := H1
  have cw := h.cell p hp
  have zw := h.frozen p
  have HR : Hid (Rm (w.setCell ⟨g, p, none⟩ (.int .u32 (x.toNat : Int))) b g (lay xs p [x])) := h.set p x hp
  obtain ⟨c, hc, hb⟩ := h.blk
  have cb := hb.cell (i := 0) rfl
  obtain ⟨v, hv⟩ : ∃ v : Nat, v = (xs[p]'hp).toNat := ⟨_, rfl⟩
  rw [← hv] at cw
  obtain ⟨N, hN⟩ : ∃ N, N = xs.length := ⟨_, rfl⟩
  rw [← hN] at cb hp
  obtain ⟨X, hX⟩ : ∃ X : Nat, X = x.toNat := ⟨_, rfl⟩
  rw [← hX] at HR ⊢
  have hp' : (p : Int) < N := by omega
  clear h hv hN hX hc hb
  go_enter Try.func44, Try.ntmps44
  go_wp2_with fail
  refine H1.out.mono ?_
  rintro e w1 ⟨rfl, hw⟩
  obtain rfl := hw.symm
  clear hw
  go_wp2
  go_ret
  exact ⟨rfl, HR.out, (Keeps.refl (· = g) w).setCell _ _ fun _ => rfl⟩

set_option maxHeartbeats 400000 in
theorem rwrite_out (b g : Nat) (xs : List UInt32) (p : Int) (x : Nat) (w : World) (h : Rm w b g xs) (hp1 : -9223372036854775808 ≤ p) (hp2 : p ≤ 9223372036854775807) (hp : ¬ (0 ≤ p ∧ p < xs.length)) :
    Calls Try.prog 44 #[.pointer (some ⟨b, 0, none⟩), .int .i64 p, .int .u32 x] w fun e w' => e = .returned (.int .i64 51) ∧ w' = w := by
  have H1 := rrun_any b g xs p w h hp1 hp2
  rw [inR_false hp] at H1
  have H1 : Hid (Calls _ _ _ _ _) := H1
  clear h hp hp1 hp2
  go_enter Try.func44, Try.ntmps44
  go_wp2_with fail
  refine H1.out.mono ?_
  rintro e w1 ⟨rfl, hw⟩
  obtain rfl := hw.symm
  clear hw
  go_wp2
  go_ret
  exact ⟨rfl, rfl⟩

set_option maxHeartbeats 400000 in
theorem rread_in (b g : Nat) (xs : List UInt32) (p : Nat) (w : World) (h : Rm w b g xs) (hp : p < xs.length) :
    Calls Try.prog 43 #[.pointer (some ⟨b, 0, none⟩), .int .i64 p] w fun e w' => e = .returned (.tuple #[.int .u32 (xs[p].toNat : Int), .int .i64 0]) ∧ w' = w := by
  have H1 := rrun_any b g xs p w h (by omega) (by have := h.small; omega)
  rw [inR_true (by omega) (by omega)] at H1
  have H1 : Hid (Calls _ _ _ _ _) := H1
  have cw := h.cell p hp
  obtain ⟨c, hc, hb⟩ := h.blk
  have cb := hb.cell (i := 0) rfl
  obtain ⟨v, hv⟩ : ∃ v : Nat, v = (xs[p]'hp).toNat := ⟨_, rfl⟩
  rw [← hv] at cw ⊢
  obtain ⟨N, hN⟩ : ∃ N, N = xs.length := ⟨_, rfl⟩
  rw [← hN] at cb hp
  have hp' : (p : Int) < N := by omega
  clear h hv hN hc hb
  go_enter Try.func43, Try.ntmps43
  go_wp2_with fail
  refine H1.out.mono ?_
  rintro e w1 ⟨rfl, hw⟩
  obtain rfl := hw.symm
  clear hw
  go_wp2
  go_ret2
  exact ⟨rfl, rfl⟩

set_option maxHeartbeats 400000 in
theorem rread_out (b g : Nat) (xs : List UInt32) (p : Int) (w : World) (h : Rm w b g xs) (hp1 : -9223372036854775808 ≤ p) (hp2 : p ≤ 9223372036854775807) (hp : ¬ (0 ≤ p ∧ p < xs.length)) :
    Calls Try.prog 43 #[.pointer (some ⟨b, 0, none⟩), .int .i64 p] w fun e w' => e = .returned (.tuple #[.int .u32 0, .int .i64 51]) ∧ w' = w := by
  have H1 := rrun_any b g xs p w h hp1 hp2
  rw [inR_false hp] at H1
  have H1 : Hid (Calls _ _ _ _ _) := H1
  clear h hp hp1 hp2
  go_enter Try.func43, Try.ntmps43
  go_wp2_with fail
  refine H1.out.mono ?_
  rintro e w1 ⟨rfl, hw⟩
  obtain rfl := hw.symm
  clear hw
  go_wp2
  go_ret2
  exact ⟨rfl, rfl⟩

end Go.Proofs.Ytljhdijledclhaa
