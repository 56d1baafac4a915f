import Derived.Test.YtmkeccibminnhaaGa
namespace Go.Proofs.Ytmkeccibminnhaa
open Go.RowKit
set_option linter.unusedVariables false
set_option maxRecDepth 6000

/-- What the cursor's number does. -/
def cuV (B : List UInt8) (p : Nat) (bad : Bool) (n : Nat) : Nat := if bad then 0 else if B.length < p + n then 0 else highN ((B.drop p).take n)
def cuP (B : List UInt8) (p : Nat) (bad : Bool) (n : Nat) : Nat := if bad then p else if B.length < p + n then p else p + n
def cuB (B : List UInt8) (p : Nat) (bad : Bool) (n : Nat) : Bool := bad || decide (B.length < p + n)

theorem take_any' (b g o cap p n : Nat) (bad : Bool) (B : List UInt8) (w : World) (h : Cu w b g o cap B p bad) (hn : n ≤ 255) :
    Calls Try.prog 25 #[.pointer (some ⟨b, 0, none⟩), .int .i64 n] w fun e w' => (∃ a c, e = .returned (.slice a (if cuB B p bad n then 0 else n) c) ∧ Seg w' a (if cuB B p bad n then [] else (B.drop p).take n) ∧ c ≤ maxLen ∧ (cuB B p bad n = false → n ≤ c)) ∧ Cu w' b g o cap B (cuP B p bad n) (cuB B p bad n) ∧ Keeps (· = b) w w' := by
  cases bad
  · by_cases hs : B.length < p + n
    · have e1 : cuB B p false n = true := by simp [cuB, hs]
      have e2 : cuP B p false n = p := by simp [cuP, hs]
      rw [e1, e2]
      refine (take_short b g o cap p n B w h hs (by omega)).mono ?_
      rintro e w' ⟨rfl, h1, h2⟩
      exact ⟨⟨none, 0, rfl, .inl rfl, Nat.zero_le _, fun e => by cases e⟩, h1, h2⟩
    · have e1 : cuB B p false n = false := by simp [cuB]; omega
      have e2 : cuP B p false n = p + n := by simp [cuP, hs]
      rw [e1, e2]
      refine (take_ok b g o cap p n B w h (by omega)).mono ?_
      rintro e w' ⟨⟨x, rfl, hx⟩, h1, h2⟩
      have hc := h1.cap
      unfold maxLen at hc
      have hle := h1.le
      refine ⟨⟨some ⟨g, x, none⟩, cap - p, rfl, ?_, by unfold maxLen; omega, fun _ => by omega⟩, h1, h2⟩
      show Seg w' (some ⟨g, x, none⟩) ((B.drop p).take n)
      rcases hx with rfl | h0
      · rcases h1.seg with h3 | ⟨g', o', h3, hc3⟩
        · left; rw [h3]; simp
        · cases h3
          refine .inr ⟨g, o + p, rfl, fun j hj => ?_⟩
          have hj2 : j < n ∧ p + j < B.length := by rw [List.length_take, List.length_drop] at hj; omega
          have := hc3 (p + j) hj2.2
          rw [List.getElem_take, List.getElem_drop, Nat.add_assoc]
          exact this
      · left; rw [h0]; simp
  · have e1 : cuB B p true n = true := rfl
    have e2 : cuP B p true n = p := rfl
    rw [e1, e2]
    refine (take_bad b g o cap p n B w h).mono ?_
    rintro e w' ⟨rfl, h1, h2⟩
    exact ⟨⟨none, 0, rfl, .inl rfl, Nat.zero_le _, fun e => by cases e⟩, h1, h2⟩

theorem highN_drop (xs : List UInt8) (j : Nat) (hj : j < xs.length) : highN (xs.drop j) = xs[j].toNat + 256 * highN (xs.drop (j + 1)) := by
  rw [List.drop_eq_getElem_cons hj]; rfl

set_option maxHeartbeats 1000000 in
theorem cnumber_any (b g o cap p n : Nat) (bad : Bool) (B : List UInt8) (w : World) (h : Cu w b g o cap B p bad) (hn : n ≤ 4) :
    Calls Try.prog 27 #[.pointer (some ⟨b, 0, none⟩), .int .i64 n] w fun e w' => e = .returned (.int .i64 (cuV B p bad n)) ∧ Cu w' b g o cap B (cuP B p bad n) (cuB B p bad n) ∧ Keeps (· = b) w w' := by
  have HT : Hid (Calls _ _ _ _ _) := take_any' b g o cap p n bad B w h (by omega)
  obtain ⟨xs, hxs⟩ : ∃ xs, xs = if cuB B p bad n then [] else (B.drop p).take n := ⟨_, rfl⟩
  have hlen : xs.length = if cuB B p bad n then 0 else n := by
    rw [hxs]
    by_cases hb : cuB B p bad n = true
    · simp [hb]
    · have hb' : cuB B p bad n = false := by simpa using hb
      rw [hb']
      have : ¬ B.length < p + n := by simp [cuB] at hb'; omega
      simp; omega
  have hV : cuV B p bad n = highN xs := by
    rw [hxs]
    by_cases hb : cuB B p bad n = true
    · have : cuV B p bad n = 0 := by
        unfold cuV; unfold cuB at hb; cases bad
        · simp at hb; simp [hb]
        · rfl
      rw [this, hb]; rfl
    · have hb' : cuB B p bad n = false := by simpa using hb
      rw [hb']
      unfold cuB at hb'; cases bad
      · simp at hb'; unfold cuV; simp; omega
      · simp at hb'
  rw [← hlen, ← hxs] at HT
  have hx4 : xs.length ≤ 4 := by rw [hlen]; split <;> omega
  rw [hV]
  obtain ⟨P', hP'⟩ : ∃ P', cuP B p bad n = P' := ⟨_, rfl⟩
  obtain ⟨B', hB'⟩ : ∃ B', cuB B p bad n = B' := ⟨_, rfl⟩
  rw [hP', hB'] at HT ⊢
  obtain ⟨L, hL⟩ : ∃ L, xs.length = L := ⟨_, rfl⟩
  have HL : Hid (xs.length = L) := hL
  rw [hL] at hx4 HT
  clear h hxs hlen hV hP' hB' hL
  go_enter Try.func27, Try.ntmps27
  go_wp2_with fail
  refine HT.out.mono ?_
  rintro e w1 ⟨⟨a, c, rfl, hs, hc, _⟩, hC, hK⟩
  have H1 : Hid (Seg w1 a xs ∧ Cu w1 b g o cap B P' B' ∧ Keeps (· = b) w w1 ∧ c ≤ maxLen) := ⟨hs, hC, hK, hc⟩
  have hw : IntKind.i64.wrap ((L : Int) - 1) = (L : Int) - 1 := by rw [IntKind.wrap_i64]; omega
  have hcc : (c : Int) ≤ 9223372036854775807 := by unfold maxLen at hc; omega
  clear hs hC hK hc HT
  go_wp2
  go_loopw [6, 7] (fun v i wr => ∃ j : Nat, j ≤ L ∧ i = .int .i64 ((j : Int) - 1) ∧ v = .int .i64 ((highN (xs.drop j) : Nat) : Int) ∧ wr = w1) (fun _ i _ => (intOf i + 1).toNat)
  case atStart => exact ⟨L, Nat.le_refl _, rfl, by rw [List.drop_of_length_le (by have := HL.out; omega)]; rfl, rfl⟩
  case round =>
    obtain ⟨j, hj, rfl, rfl, rfl⟩ := hrel
    cases j with
    | zero =>
      rw [List.drop_zero]
      have hz : ((0 : Nat) : Int) - 1 = -1 := by omega
      rw [hz]
      go_wp2
      go_ret
      exact ⟨rfl, H1.out.2.1, H1.out.2.2.1⟩
    | succ m =>
      have hm : ((m + 1 : Nat) : Int) - 1 = m := by omega
      rw [hm]
      have hml : m < xs.length := by have := HL.out; omega
      obtain ⟨ga, oa, haa, hca⟩ : ∃ ga oa, a = some ⟨ga, oa, none⟩ ∧ ∀ j, (h : j < xs.length) → wr.cell? ⟨ga, oa + j, none⟩ = some (.int .u8 (xs[j].toNat : Int)) := by
        rcases H1.out.1 with h0 | h0
        · rw [h0] at hml; simp at hml
        · exact h0
      subst haa
      have y0 := hca m hml
      have hd := highN_drop xs m hml
      have hub := highN_lt (xs.drop (m + 1))
      have hlb : (xs.drop (m + 1)).length ≤ 3 := by rw [List.length_drop]; have := HL.out; omega
      have h256 : (256 : Nat) ^ (xs.drop (m + 1)).length ≤ 256 ^ 3 := Nat.pow_le_pow_right (by decide) hlb
      have h3 : (256 : Nat) ^ 3 = 16777216 := by decide
      obtain ⟨V, hV⟩ : ∃ V, highN (xs.drop (m + 1)) = V := ⟨_, rfl⟩
      have hx8 := xs[m].toNat_lt
      obtain ⟨Y, hY⟩ : ∃ Y, xs[m].toNat = Y := ⟨_, rfl⟩
      rw [hV, hY] at hd
      rw [hV] at hub ⊢
      rw [hY] at y0 hx8
      have hVb : V < 16777216 := by omega
      have w1' : IntKind.i64.wrap (256 * (V : Int)) = 256 * (V : Int) := by rw [IntKind.wrap_i64]; omega
      have w2' : IntKind.i64.wrap (Y : Int) = Y := by rw [IntKind.wrap_i64]; omega
      have w3' : IntKind.i64.wrap (256 * (V : Int) + Y) = 256 * (V : Int) + Y := by rw [IntKind.wrap_i64]; omega
      have w4' : IntKind.i64.wrap ((m : Int) - 1) = (m : Int) - 1 := by rw [IntKind.wrap_i64]; omega
      have hmL : (m : Int) < L := by omega
      have HD : Hid (highN (xs.drop m) = Y + 256 * V) := hd
      clear hd hub hlb h256 h3 hV hY hca hml
      go_wp2
      go_roundw
      case rel => exact ⟨m, by omega, rfl, by rw [HD.out]; congr 1; omega, by first | rfl | trivial⟩
      case measure => simp [intOf]
end Go.Proofs.Ytmkeccibminnhaa
