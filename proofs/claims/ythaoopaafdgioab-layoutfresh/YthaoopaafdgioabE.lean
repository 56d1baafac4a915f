import Derived.Test.YthaoopaafdgioabD
namespace Go.Proofs.Ythaoopaafdgioab
open Go.RowKit
set_option linter.unusedVariables false
set_option maxRecDepth 6000

/-- A region whose pages are pages of the space. -/
def Rgn.inB (r : Rgn) : Bool := decide (0 ≤ r.page) && decide (1 ≤ r.pages) && decide (r.pages ≤ 256) && decide (r.page ≤ 256 - r.pages)
theorem Rgn.inB_iff {r : Rgn} : r.inB = true ↔ (0 ≤ r.page ∧ 1 ≤ r.pages ∧ r.pages ≤ 256 ∧ r.page ≤ 256 - r.pages) := by unfold Rgn.inB; simp [and_assoc]
/-- A region has one of the pages of the table t. -/
def Rgn.hit (t : Nat) (r : Rgn) : Bool := decide (r.page < 16 * t + 16) && decide ((16 * t : Int) < r.page + r.pages)
def hasT (rs : List Rgn) (t : Nat) : Bool := rs.any (Rgn.hit t)

theorem hasT_next {l : List Rgn} {j t : Nat} {y : Rgn} (hy : l[j]? = some y) (h : hasT (l.take j) t = false) (hh : Rgn.hit t y = false) : hasT (l.take (j + 1)) t = false := by
  unfold hasT at *
  rw [List.take_add_one, hy]
  simp [List.any_append, h, hh]

set_option maxHeartbeats 1000000 in
theorem hasTable_any (a : Option Addr) (c : Nat) (l : List Rgn) (t : Nat) (w : World) (h1 : SegA Rgn.vs 4 w a l) (hl1 : l.length ≤ c ∧ c ≤ maxLen) (hall : ∀ r ∈ l, r.inB = true) (ht : t < 16) :
    Calls Try.prog 53 #[.slice a l.length c, .int .i64 t] w fun e w' => e = .returned (.bool (hasT l t)) ∧ Keeps (fun _ => False) w w' := by
  obtain ⟨L, hL⟩ : ∃ L, l.length = L := ⟨_, rfl⟩
  have HS : Hid (SegA Rgn.vs 4 w a l ∧ l.length = L ∧ ∀ r ∈ l, r.inB = true) := ⟨h1, hL, hall⟩
  rw [hL] at hl1 ⊢
  have hc1 : (L : Int) ≤ c := by omega
  have hc3 : (c : Int) ≤ 9223372036854775807 := by unfold maxLen at hl1; omega
  clear h1 hL hl1 hall
  obtain ⟨T, hT⟩ : ∃ T : Int, (t : Int) * 16 = T := ⟨_, rfl⟩
  have q0 : IntKind.i64.wrap ((t : Int) * 16) = T := by rw [IntKind.wrap_i64]; omega
  have q1 : IntKind.i64.wrap (T + 16) = T + 16 := by rw [IntKind.wrap_i64]; omega
  have HT : Hid ((t : Int) * 16 = T ∧ 0 ≤ T ∧ T ≤ 240) := ⟨hT, by omega, by omega⟩
  clear hT
  go_enter Try.func53, Try.ntmps53
  go_wp2
  go_loopw [12] (fun i wr => ∃ j : Nat, j ≤ L ∧ i = .int .i64 j ∧ hasT (l.take j) t = false ∧ Keeps (fun _ => False) w wr) (fun i _ => L - (intOf i).toNat)
  case atStart => exact ⟨0, by omega, rfl, rfl, Keeps.refl _ _⟩
  case round =>
    obtain ⟨j, hj, rfl, hno, hK⟩ := hrel
    by_cases hlt : j < L
    · obtain ⟨y, hy⟩ : ∃ y, l[j]? = some y := ⟨_, List.getElem?_eq_getElem (by have := HS.out.2.1; omega)⟩
      obtain ⟨g1, o1, rfl, hg1⟩ := (HS.out.1.kept hK fun _ _ _ e => e).at hy
      have y0 := hg1 0 _ rfl
      rw [Nat.add_zero] at y0
      have y1 := hg1 1 _ rfl
      have y2 := hg1 2 _ rfl
      have y3 := hg1 3 _ rfl
      have hin := Rgn.inB_iff.1 (HS.out.2.2 y (List.mem_of_getElem? hy))
      have HK : Hid (Keeps (fun _ => False) w wr ∧ hasT (l.take j) t = false ∧ l[j]? = some y) := ⟨hK, hno, hy⟩
      clear hy hg1 hK hno
      have hTT := HT.out
      by_cases c1 : y.page < T + 16
      · by_cases c2 : T < y.page + y.pages
        · have HY : Hid (hasT l t = true) := List.any_eq_true.2 ⟨y, List.mem_of_getElem? HK.out.2.2, by unfold Rgn.hit; simp; omega⟩
          obtain ⟨p, u, s, r⟩ := y
          dsimp only at hin c1 c2
          have e1 : decide (p < T + 16) = true := by simp [c1]
          have q2 : IntKind.i64.wrap (p + u) = p + u := by rw [IntKind.wrap_i64]; omega
          have e2 : decide (T < p + u) = true := by simp [c2]
          clear hin hTT
          go_wp2
          go_ret
          exact ⟨by rw [HY.out]; rfl, HK.out.1.alloc _⟩
        · have HY : Hid (Rgn.hit t y = false) := by show _ = _; unfold Rgn.hit; simp; omega
          obtain ⟨p, u, s, r⟩ := y
          dsimp only at hin c1 c2
          have e1 : decide (p < T + 16) = true := by simp [c1]
          have q2 : IntKind.i64.wrap (p + u) = p + u := by rw [IntKind.wrap_i64]; omega
          have e2 : decide (T < p + u) = false := by simp [c2]
          clear hin hTT
          go_wp2
          go_roundw
          case rel => exact ⟨j + 1, by omega, by go_num, hasT_next HK.out.2.2 HK.out.2.1 HY.out, HK.out.1.alloc _⟩
          case measure => simp [intOf]; omega
      · have HY : Hid (Rgn.hit t y = false) := by show _ = _; unfold Rgn.hit; simp; omega
        obtain ⟨p, u, s, r⟩ := y
        dsimp only at hin c1
        have e1 : decide (p < T + 16) = false := by simp [c1]
        clear hin hTT
        go_wp2
        go_roundw
        case rel => exact ⟨j + 1, by omega, by go_num, hasT_next HK.out.2.2 HK.out.2.1 HY.out, HK.out.1.alloc _⟩
        case measure => simp [intOf]; omega
    · obtain rfl : j = L := by omega
      have HK : Hid (Keeps (fun _ => False) w wr ∧ hasT l t = false) := by
        rw [List.take_of_length_le (by have := HS.out.2.1; omega)] at hno
        exact ⟨hK, hno⟩
      clear hK hno
      go_wp2
      go_ret
      exact ⟨by rw [HK.out.2]; rfl, HK.out.1⟩
end Go.Proofs.Ythaoopaafdgioab
