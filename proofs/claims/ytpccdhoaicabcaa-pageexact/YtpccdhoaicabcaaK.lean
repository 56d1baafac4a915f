import Derived.Test.YtpccdhoaicabcaaF
namespace Go.Proofs.Ytpccdhoaicabcaa
open Go.RowKit
set_option linter.unusedVariables false

/-- A region. -/
structure Rgn where
  page : Int
  pages : Int
  frame : Int
  rights : Int
deriving DecidableEq
abbrev Rgn.v (r : Rgn) : Value := .agg #[.int .i64 r.page, .int .i64 r.pages, .int .i64 r.frame, .int .i64 r.rights]
abbrev Rgn.vs (r : Rgn) : List Value := [.int .i64 r.page, .int .i64 r.pages, .int .i64 r.frame, .int .i64 r.rights]
abbrev I64 (k : Int) : Prop := -9223372036854775808 ≤ k ∧ k ≤ 9223372036854775807
def Rgn.Fine (r : Rgn) : Prop := I64 r.page ∧ I64 r.pages ∧ I64 r.frame ∧ I64 r.rights
/-- It may be. -/
def Rgn.ok (r : Rgn) : Prop := 0 ≤ r.page ∧ 1 ≤ r.pages ∧ r.page + r.pages ≤ 256 ∧ 0 ≤ r.frame ∧ r.frame + r.pages ≤ 1024 ∧ 0 ≤ r.rights ∧ r.rights < 8
instance (r : Rgn) : Decidable r.ok := by unfold Rgn.ok; infer_instance
def meets (r o : Rgn) : Prop := r.page < o.page + o.pages ∧ o.page < r.page + r.pages
instance (r o : Rgn) : Decidable (meets r o) := by unfold meets; infer_instance
/-- All of them, and no page in two. -/
def MayB (rs : List Rgn) : Prop := ∀ (i : Nat) (r : Rgn), rs[i]? = some r → r.ok ∧ ∀ (j : Nat) (o : Rgn), j < i → rs[j]? = some o → ¬ meets r o

def RgAt (w : World) (g o : Nat) (r : Rgn) : Prop :=
  w.cell? ⟨g, o, none⟩ = some (.int .i64 r.page) ∧ w.cell? ⟨g, o + 1, none⟩ = some (.int .i64 r.pages) ∧ w.cell? ⟨g, o + 2, none⟩ = some (.int .i64 r.frame) ∧ w.cell? ⟨g, o + 3, none⟩ = some (.int .i64 r.rights)
/-- These regions can be read at this address. -/
def SegR (w : World) (a : Option Addr) (rs : List Rgn) : Prop :=
  rs = [] ∨ ∃ g o, a = some ⟨g, o, none⟩ ∧ ∀ j r, rs[j]? = some r → RgAt w g (o + j * 4) r
theorem RgAt.kept {S : Nat → Prop} {w w' : World} {g o : Nat} {r : Rgn} (h : RgAt w g o r) (hK : Keeps S w w') (hn : ¬ S g) : RgAt w' g o r := by
  have hlt : g < w.heap.size := World.block_lt_of_cell? w ⟨g, o, none⟩ h.1
  have e : ∀ i, w'.cell? ⟨g, i, none⟩ = w.cell? ⟨g, i, none⟩ := fun i => World.cell?_of_block (w := w) (hK.block g hlt hn)
  exact ⟨(e _).trans h.1, (e _).trans h.2.1, (e _).trans h.2.2.1, (e _).trans h.2.2.2⟩
theorem SegR.kept {S : Nat → Prop} {w w' : World} {a : Option Addr} {rs : List Rgn} (h : SegR w a rs) (hK : Keeps S w w') (hn : ∀ x, a = some x → ¬ S x.block) : SegR w' a rs := by
  rcases h with h | ⟨g, o, ha, hc⟩
  · exact .inl h
  · exact .inr ⟨g, o, ha, fun j l hj => (hc j l hj).kept hK (hn _ ha)⟩
theorem SegR.grown {w w' : World} {a : Option Addr} {rs : List Rgn} (h : SegR w a rs) (hK : Keeps (fun _ => False) w w') : SegR w' a rs := h.kept hK fun _ _ e => e
theorem SegR.take {w : World} {a : Option Addr} {rs : List Rgn} (h : SegR w a rs) (n : Nat) : SegR w a (rs.take n) := by
  rcases h with h | ⟨g, o, ha, hc⟩
  · left; rw [h]; simp
  · refine .inr ⟨g, o, ha, fun j r hj => hc j r ?_⟩
    rw [List.getElem?_take] at hj
    split at hj
    · exact hj
    · simp at hj
theorem SegR.at {w : World} {a : Option Addr} {rs : List Rgn} (h : SegR w a rs) {j : Nat} {r : Rgn} (hj : rs[j]? = some r) : ∃ g o, a = some ⟨g, o, none⟩ ∧ RgAt w g (o + j * 4) r := by
  rcases h with h | ⟨g, o, ha, hc⟩
  · rw [h] at hj; simp at hj
  · exact ⟨g, o, ha, hc j r hj⟩
theorem Blk.rg {w : World} {b : Nat} {r : Rgn} {t : TypeId} (h : Blk w b r.vs t) : RgAt w b 0 r := ⟨h.cell rfl, h.cell rfl, h.cell rfl, h.cell rfl⟩

set_option maxHeartbeats 2000000 in
theorem rmay_any (r : Rgn) (w : World) (hr : r.Fine) : Calls Try.prog 66 #[r.v] w fun e w' => e = .returned (.bool (decide r.ok)) ∧ Keeps (fun _ => False) w w' := by
  obtain ⟨p, n, f, t⟩ := r
  obtain ⟨⟨a1, a2⟩, ⟨b1, b2⟩, ⟨c1, c2⟩, _, _⟩ := hr
  simp only at a1 a2 b1 b2 c1 c2
  have H1 := fun w => rights_any t w
  by_cases h : (⟨p, n, f, t⟩ : Rgn).ok
  · rw [decide_eq_true h]
    obtain ⟨h1, h2, h3, h4, h5, h6, h7⟩ := h
    simp only at h1 h2 h3 h4 h5 h6 h7
    have e := inR_true h6 h7
    rw [e] at H1
    have H1 : Hid (∀ w, Calls _ _ _ w _) := H1
    have g1 : n ≤ 256 - p := by omega
    have g2 : f ≤ 1024 - n := by omega
    clear e a1 a2 b1 b2 c1 c2 h6 h7
    go_enter Try.func66, Try.ntmps66
    go_wp2_with fail
    refine (H1.out _).mono ?_
    rintro e w1 ⟨rfl, hw⟩
    obtain rfl := hw.symm
    clear hw
    go_wp2
    go_ret
    exact ⟨rfl, (Keeps.refl _ w).alloc _⟩
  · rw [decide_eq_false h]
    have h' : p < 0 ∨ (0 ≤ p ∧ n < 1) ∨ (0 ≤ p ∧ 1 ≤ n ∧ 256 - p < n) ∨ (0 ≤ p ∧ 1 ≤ n ∧ n ≤ 256 - p ∧ f < 0) ∨ (0 ≤ p ∧ 1 ≤ n ∧ n ≤ 256 - p ∧ 0 ≤ f ∧ 1024 - n < f) ∨
        (0 ≤ p ∧ 1 ≤ n ∧ n ≤ 256 - p ∧ 0 ≤ f ∧ f ≤ 1024 - n ∧ ¬ (0 ≤ t ∧ t < 8)) := by
      unfold Rgn.ok at h
      simp only at h
      omega
    clear h
    rcases h' with h1 | ⟨h1, h2⟩ | ⟨h1, h2, h3⟩ | ⟨h1, h2, h3, h4⟩ | ⟨h1, h2, h3, h4, h5⟩ | ⟨h1, h2, h3, h4, h5, h6⟩
    · clear H1 b1 b2 c1 c2
      go_enter Try.func66, Try.ntmps66
      go_wp2
      go_ret
      exact ⟨rfl, (Keeps.refl _ w).alloc _⟩
    · clear H1 c1 c2
      go_enter Try.func66, Try.ntmps66
      go_wp2
      go_ret
      exact ⟨rfl, (Keeps.refl _ w).alloc _⟩
    · clear H1 c1 c2
      go_enter Try.func66, Try.ntmps66
      go_wp2
      go_ret
      exact ⟨rfl, (Keeps.refl _ w).alloc _⟩
    · clear H1
      go_enter Try.func66, Try.ntmps66
      go_wp2
      go_ret
      exact ⟨rfl, (Keeps.refl _ w).alloc _⟩
    · clear H1
      go_enter Try.func66, Try.ntmps66
      go_wp2
      go_ret
      exact ⟨rfl, (Keeps.refl _ w).alloc _⟩
    · rw [inR_false h6] at H1
      have H1 : Hid (∀ w, Calls _ _ _ w _) := H1
      clear h6
      go_enter Try.func66, Try.ntmps66
      go_wp2_with fail
      refine (H1.out _).mono ?_
      rintro e w1 ⟨rfl, hw⟩
      obtain rfl := hw.symm
      clear hw
      go_wp2
      go_ret
      exact ⟨rfl, (Keeps.refl _ w).alloc _⟩

set_option maxHeartbeats 1000000 in
theorem meet_any (r o : Rgn) (b : Nat) (w : World) (hb : RgAt w b 0 r) (hr : r.ok) (ho : o.ok) : Calls Try.prog 72 #[o.v, .pointer (some ⟨b, 0, none⟩)] w fun e w' => e = .returned (.bool (decide (meets r o))) ∧ Keeps (fun _ => False) w w' := by
  obtain ⟨y0, y1, _, _⟩ := hb
  have hlt := World.block_lt_of_cell? w _ y0
  obtain ⟨p, n, f, t⟩ := r
  obtain ⟨p', n', f', t'⟩ := o
  obtain ⟨h1, h2, h3, _⟩ := hr
  obtain ⟨k1, k2, k3, _⟩ := ho
  simp only [Nat.zero_add] at h1 h2 h3 k1 k2 k3 y0 y1
  by_cases a1 : p < p' + n'
  · by_cases a2 : p' < p + n
    · rw [decide_eq_true (show meets _ _ from ⟨a1, a2⟩)]
      go_enter Try.func72, Try.ntmps72
      go_wp2
      go_ret
      exact ⟨ret_bool (by simp), (Keeps.refl _ w).alloc _⟩
    · rw [decide_eq_false (fun h : meets _ _ => a2 h.2)]
      go_enter Try.func72, Try.ntmps72
      go_wp2
      go_ret
      exact ⟨ret_bool (by simp), (Keeps.refl _ w).alloc _⟩
  · rw [decide_eq_false (fun h : meets _ _ => a1 h.1)]
    go_enter Try.func72, Try.ntmps72
    go_wp2
    go_ret
    exact ⟨ret_bool (by simp), (Keeps.refl _ w).alloc _⟩

end Go.Proofs.Ytpccdhoaicabcaa
