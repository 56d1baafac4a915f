import Derived.Test.YtajhkilclmicjaaLi
namespace Go.Proofs.Ytajhkilclmicjaa
open Go.RowKit Go.Shelf
set_option linter.unusedVariables false

/-- These numbers can be read at this address. -/
def SegI (w : World) (a : Option Addr) (ws : List Int) : Prop :=
  ws = [] ∨ ∃ g o, a = some ⟨g, o, none⟩ ∧ ∀ j, (h : j < ws.length) → w.cell? ⟨g, o + j, none⟩ = some (.int .i64 (ws[j]))

theorem SegI.kept {S : Nat → Prop} {w w' : World} {a : Option Addr} {ws : List Int} (h : SegI w a ws) (hK : Keeps S w w') (hn : ∀ x, a = some x → ¬ S x.block) : SegI w' a ws := by
  rcases h with h | ⟨g, o, ha, hc⟩
  · exact .inl h
  · exact .inr ⟨g, o, ha, fun j hj => cell_kept (hc j hj) hK (show ¬ S g from hn _ ha)⟩

/-- Four lists that can be read. -/
structure Lst (w : World) (G : Nat) (vs : Nat → Value) (ls : Nat → List Int) : Prop where
  cell : ∀ i, i < 4 → w.cell? ⟨G, i, none⟩ = some (vs i)
  seg : ∀ i, i < 4 → ∃ a c, vs i = .slice a (ls i).length c ∧ SegI w a (ls i) ∧ (ls i).length ≤ c

theorem owns_seg {w : World} {v : Value} {n : Nat} {ws : List Int} (h : w.ownsRow 0 3 1 v n (flat ws)) : ∃ a c, v = .slice a ws.length c ∧ SegI w a ws ∧ (∀ x, a = some x → v.ownBlock = some x.block) ∧ ws.length ≤ c := by
  have hn : n = ws.length := by have := h.1; rw [flat_length] at this; omega
  rcases h.2 with ⟨rfl, h0⟩ | ⟨g, cap, cur, rfl, _, _, h5, _⟩
  · refine ⟨none, 0, ?_, .inl (List.eq_nil_of_length_eq_zero (by omega)), fun x hx => (by cases hx), by omega⟩
    rw [← hn, h0]
  · refine ⟨some ⟨g, 0, none⟩, cap, by rw [hn], .inr ⟨g, 0, rfl, fun j hj => ?_⟩, fun x hx => (by cases hx; rfl), by omega⟩
    have := h.cells (g := g) rfl j (.int .i64 (ws[j])) (by simp [flat, hj])
    rw [addr_add] at this
    exact this
theorem Four.lst {w : World} {G : Nat} {vs : Nat → Value} {ls : Nat → List Int} {D : Nat → Prop} (h : Four w G vs ls D) : Lst w G vs ls :=
  ⟨fun i hi => h.blk.cell (four_get vs hi), fun i hi => by obtain ⟨a, c, h1, h2, _, h3⟩ := owns_seg (h.row i hi); exact ⟨a, c, h1, h2, h3⟩⟩
theorem Lst.kept {w w' : World} {G : Nat} {vs : Nat → Value} {ls : Nat → List Int} (h : Lst w G vs ls) (hK : Keeps (fun _ => False) w w') : Lst w' G vs ls :=
  ⟨fun i hi => cell_kept (h.cell i hi) hK fun h => h, fun i hi => by obtain ⟨a, c, h1, h2, h3⟩ := h.seg i hi; exact ⟨a, c, h1, h2.kept hK fun _ _ h => h, h3⟩⟩

theorem isLine_in (z : Int) (w : World) (h0 : 0 ≤ z) (h1 : z < 4096) : Calls Try.prog 57 #[.int .i64 z] w fun r w' => r = .returned (.bool true) ∧ w' = w := by
  go_enter Try.func57, Try.ntmps57
  go_wp2
  go_ret
  exact ⟨rfl, rfl⟩

theorem setOf_z (z : Int) (k : Nat) (w : World) (h0 : 0 ≤ z) (hk : z % 4 = k) : Calls Try.prog 34 #[.int .i64 z] w fun r w' => r = .returned (.int .i64 (k : Int)) ∧ w' = w := by
  obtain ⟨l, rfl⟩ : ∃ l : Nat, z = l := ⟨z.toNat, by omega⟩
  refine (setOf_in l w).mono ?_
  rintro r w' ⟨rfl, rfl⟩
  exact ⟨by rw [show ((l % 4 : Nat) : Int) = (k : Int) by omega], rfl⟩

set_option maxHeartbeats 1000000 in
theorem index_out (a : Option Addr) (n c : Nat) (ws : List Int) (k : Int) (w : World) (hs : SegI w a ws) (hn : n = ws.length) (hl : (n : Int) ≤ 4) (hk : k ∉ ws) :
    Calls Try.prog 59 #[.slice a n c, .int .i64 k] w fun e w' => e = .returned (.int .i64 (-1)) ∧ w' = w := by
  have HS : Hid (SegI w a ws ∧ n = ws.length ∧ k ∉ ws) := ⟨hs, hn, hk⟩
  clear hs hn hk
  go_enter Try.func59, Try.ntmps59
  go_wp2
  go_loopw [8] (fun i wr => ∃ j : Nat, j ≤ n ∧ i = .int .i64 j ∧ wr = w) (fun i _ => n - (intOf i).toNat)
  case atStart => exact ⟨0, by omega, rfl, rfl⟩
  case round =>
    obtain ⟨j, hj, rfl, rfl⟩ := hrel
    by_cases hlt : j < n
    · have hju : j < ws.length := by have := HS.out.2; omega
      rcases HS.out.1 with h0 | ⟨b, o, rfl, hcell⟩
      · exact absurd hju (by rw [h0]; simp)
      · have cu := hcell j hju
        have hx : ws[j]'hju ≠ k := fun e => HS.out.2.2 (e ▸ List.getElem_mem hju)
        obtain ⟨x, hxx⟩ : ∃ x, x = ws[j]'hju := ⟨_, rfl⟩
        rw [← hxx] at cu hx
        have he : (k == x) = false := by simp; exact fun e => hx e.symm
        clear hju hcell hxx hx
        go_wp2
        go_roundw
        case rel => exact ⟨j + 1, by omega, by go_num, trivial⟩
        case measure => simp [intOf]; omega
    · obtain rfl : j = n := by omega
      go_wp2
      go_ret
      exact ⟨rfl, rfl⟩

theorem contains_out (a : Option Addr) (n c : Nat) (ws : List Int) (k : Int) (w : World) (hs : SegI w a ws) (hn : n = ws.length) (hl : (n : Int) ≤ 4) (hk : k ∉ ws) :
    Calls Try.prog 58 #[.slice a n c, .int .i64 k] w fun e w' => e = .returned (.bool false) ∧ w' = w := by
  have H : Hid (Calls _ _ _ _ _) := index_out a n c ws k w hs hn hl hk
  clear hs hn hk
  go_enter Try.func58, Try.ntmps58
  go_wp2_with fail
  refine H.out.mono ?_
  rintro e w1 ⟨rfl, rfl⟩
  clear H
  go_wp2
  go_ret
  exact ⟨rfl, rfl⟩

end Go.Proofs.Ytajhkilclmicjaa
