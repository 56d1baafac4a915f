import Derived.Test.YtpccdhoaicabcaaBe
import Derived.Test.YtpccdhoaicabcaaLi4
import Derived.Test.YtpccdhoaicabcaaTr
namespace Go.Proofs.Ytpccdhoaicabcaa
open Go.RowKit
set_option linter.unusedVariables false
set_option linter.unusedSimpArgs false

theorem idx_take_none {rs : List Rgn} {p : Nat} (h : ∀ r, r ∈ rs → r.has p = false) : idx rs p = -1 := idx_neg h
theorem idx_hit {rs : List Rgn} {p j : Nat} {y : Rgn} (h : ∀ r, r ∈ rs.take j → r.has p = false) (hy : rs[j]? = some y) (hh : y.has p = true) : idx rs p = j := by
  have hlt := (List.getElem?_eq_some_iff.1 hy).1
  have : rs.findIdx? (fun r => r.has p) = some j := by
    rw [List.findIdx?_eq_some_iff_getElem]
    refine ⟨hlt, ?_, fun k hk => ?_⟩
    · rw [List.getElem?_eq_getElem hlt] at hy
      rw [Option.some.inj hy]; exact hh
    · have := h rs[k] (List.mem_of_getElem? (show (rs.take j)[k]? = some rs[k] by rw [List.getElem?_take, if_pos hk]; exact List.getElem?_eq_getElem (by omega)))
      simp [this]
  unfold idx; rw [this]

set_option maxRecDepth 20000 in
set_option maxHeartbeats 2000000 in
theorem asked_any (a : Option Addr) (rs : List Rgn) (c p : Nat) (w : World) (hl : rs.length ≤ c ∧ c ≤ maxLen) (hs : SegR w a rs) (ho : ∀ r, r ∈ rs → r.ok) (hp : p < 256) :
    Calls Try.prog 15 #[.slice a rs.length c, .int .i64 p] w fun e w' => e = .returned (.int .i64 (idx rs p)) ∧ Keeps (fun _ => False) w w' := by
  obtain ⟨L, hL⟩ : ∃ L, L = rs.length := ⟨_, rfl⟩
  have HS : Hid (SegR w a rs ∧ L = rs.length ∧ ∀ r, r ∈ rs → r.ok) := ⟨hs, hL, ho⟩
  have hc2 : (L : Int) ≤ c := by omega
  have hc3 : (c : Int) ≤ 9223372036854775807 := by unfold maxLen at hl; omega
  have hp' : (p : Int) < 256 := by omega
  rw [← hL]
  clear hl hs hL ho
  go_enter Try.func15, Try.ntmps15
  go_wp2
  go_loopw [5] (fun i wr => ∃ j : Nat, j ≤ L ∧ i = .int .i64 j ∧ (∀ r, r ∈ rs.take j → r.has p = false) ∧ Keeps (fun _ => False) w wr) (fun i _ => L - (intOf i).toNat)
  case atStart => exact ⟨0, by omega, rfl, by simp, Keeps.refl _ _⟩
  case round =>
    obtain ⟨j, hj, rfl, hn, hK⟩ := hrel
    by_cases hlt : j < L
    · obtain ⟨y, hy⟩ : ∃ y, rs[j]? = some y := ⟨_, List.getElem?_eq_getElem (by have := HS.out.2.1; omega)⟩
      obtain ⟨g, o, rfl, hg⟩ := HS.out.1.at hy
      obtain ⟨y0, y1, y2, y3⟩ := hg.kept hK fun h => h
      obtain ⟨k1, k2, k3, k4, k5, k6, k7⟩ := HS.out.2.2 y (List.mem_of_getElem? hy)
      have HJ : Hid ((∀ r, r ∈ rs.take j → r.has p = false) ∧ rs[j]? = some y ∧ Keeps (fun _ => False) w wr) := ⟨hn, hy, hK⟩
      have hlt' : (j : Int) < L := by omega
      have hws : IntKind.i64.wrap ((p : Int) - y.page) = (p : Int) - y.page := by rw [IntKind.wrap_i64]; omega
      clear hn hy hK hg k4 k5 k6 k7
      have next : y.has p = false → Hid (∀ r, r ∈ rs.take (j + 1) → r.has p = false) := fun hh r hr => by
        rw [List.take_add_one, HJ.out.2.1] at hr
        rcases List.mem_append.1 hr with h | h
        · exact HJ.out.1 r h
        · simp at h; rw [h]; exact hh
      by_cases h1 : y.page ≤ p
      · have g1 : decide (y.page ≤ (p : Int)) = true := decide_eq_true h1
        by_cases h2 : (p : Int) - y.page < y.pages
        · have HF : Hid (idx rs p = j) := idx_hit HJ.out.1 HJ.out.2.1 (by simp [Rgn.has]; omega)
          clear next
          go_wp2_with fail
          go_quiet (fail)
          go_wp2
          go_ret
          exact ⟨ret_int HF.out.symm, HJ.out.2.2.drewN _⟩
        · have HF := next (by rw [Bool.eq_false_iff]; intro e; have := has_bounds e; omega)
          clear next
          go_wp2_with fail
          go_quiet (fail)
          go_wp2
          go_roundw
          case rel => exact ⟨j + 1, by omega, by go_num, HF.out, HJ.out.2.2.drewN _⟩
          case measure => simp [intOf]; omega
      · have g1 : decide (y.page ≤ (p : Int)) = false := decide_eq_false h1
        have HF := next (by rw [Bool.eq_false_iff]; intro e; have := has_bounds e; omega)
        clear next
        go_wp2_with fail
        go_quiet (fail)
        go_wp2
        go_roundw
        case rel => exact ⟨j + 1, by omega, by go_num, HF.out, HJ.out.2.2.drewN _⟩
        case measure => simp [intOf]; omega
    · obtain rfl : j = L := by omega
      have HF : Hid (idx rs p = -1 ∧ Keeps (fun _ => False) w wr) := by
        rw [List.take_of_length_le (by have := HS.out.2.1; omega)] at hn
        exact ⟨idx_neg hn, hK⟩
      clear hn hK
      go_wp2
      go_ret
      exact ⟨ret_int HF.out.1.symm, HF.out.2⟩

/-- What is in no frame of root or tables stays. -/
theorem layed_else {f : Nat → Option (Nat × Nat)} {ts : List Int} {root n : Nat} {xs : List UInt32} (h : Lays f ts root n xs) {i : Nat} (hi : ((i / 16 : Nat) : Int) ∉ ts) : ∀ s, s ≤ 16 → (layed f ts xs s)[i]? = xs[i]?
  | 0, _ => rfl
  | s + 1, h16 => by
    have ih := layed_else h hi s (by omega)
    cases hns : needB f s
    · rw [layed_no hns]; exact ih
    · obtain ⟨T', h1, h2, h3, h4⟩ := h.tab (by omega) hns
      have hne : i / 16 ≠ T' := fun e => hi (by rw [e]; exact List.mem_of_getElem? h1)
      rw [layed_yes hns, h2, Int.toNat_natCast, lay_get _ _ _ (by rw [rowL_length, h.layed_len s (by omega)]; omega), rowL_length, if_neg (by omega)]
      exact ih
theorem built_else {f : Nat → Option (Nat × Nat)} {ts : List Int} {root n : Nat} {xs : List UInt32} (h : Lays f ts root n xs) {i : Nat} (hi : ((i / 16 : Nat) : Int) ∉ ts) (hr : i / 16 ≠ root) : (builtL f ts root xs)[i]? = xs[i]? := by
  unfold builtL
  have := h.rl
  rw [lay_get _ _ _ (by rw [topL_length, h.layed_len 16 (Nat.le_refl _)]; omega), topL_length, if_neg (by omega)]
  exact layed_else h hi 16 (Nat.le_refl _)

/-- How many pages stand somewhere. -/
def cntP (f : Nat → Option (Nat × Nat)) : Nat → Nat
  | 0 => 0
  | p + 1 => cntP f p + if (f p).isSome then 1 else 0
theorem cntP_le (f : Nat → Option (Nat × Nat)) (p : Nat) : cntP f p ≤ p := by
  induction p with
  | zero => exact Nat.le_refl _
  | succ p ih => unfold cntP; split <;> omega
theorem cntP_mono (f : Nat → Option (Nat × Nat)) {s t : Nat} (h : s ≤ t) : cntP f s ≤ cntP f t := by
  induction t with
  | zero => rw [Nat.le_zero.1 h]; exact Nat.le_refl _
  | succ t ih =>
    by_cases hs : s = t + 1
    · rw [hs]; exact Nat.le_refl _
    · have := ih (by omega)
      show _ ≤ cntP f t + _
      omega

theorem and_sub (a b : Nat) (ha : a < 8) (hb : b < 8) : (bits .and .i64 (a : Int) (b : Int) == (a : Int)) = subR a b := by
  have all : ∀ a : Fin 8, ∀ b : Fin 8, (bits .and .i64 ((a.val : Nat) : Int) ((b.val : Nat) : Int) == ((a.val : Nat) : Int)) = subR a.val b.val := by decide +kernel
  exact all ⟨a, ha⟩ ⟨b, hb⟩

end Go.Proofs.Ytpccdhoaicabcaa
