import Derived.Test.YtipejahmjdamjaaGreatDoorChEa
import Derived.Test.YtipejahmjdamjaaGreatDoorChRing
import Derived.Maps.Keyed
namespace Go.Proofs.YtipejahmjdamjaaGreatDoor.Ch
open Go.RowKit Go.Shelf
set_option linter.unusedVariables false
set_option maxRecDepth 6000
set_option linter.unusedSimpArgs false
set_option maxRecDepth 6000

theorem canBe_odd (a : Option Addr) (n cap : Nat) (w : World) (h0 : (n : Int) ≠ 0) (h4 : (n : Int) ≠ 4) :
    Calls Tryz.prog 84 #[.slice a n cap] w fun r w' => r = .returned (.bool false) ∧ w' = w := by
  have f0 : ((n : Int) == 0) = false := by simpa using h0
  have f4 : ((n : Int) != 4) = true := by simpa using h4
  go_enter Tryz.func84, Tryz.ntmps84
  go_wp2
  go_ret
  exact ⟨rfl, rfl⟩

theorem canBe_none (a : Option Addr) (cap : Nat) (w : World) :
    Calls Tryz.prog 84 #[.slice a 0 cap] w fun r w' => r = .returned (.bool true) ∧ w' = w := by
  go_enter Tryz.func84, Tryz.ntmps84
  go_wp2
  go_ret
  exact ⟨rfl, rfl⟩

set_option maxHeartbeats 1000000 in
theorem canBe_four (a : Option Addr) (lls : List (List Int)) (cap : Nat) (w : World) (hs : SegL w a lls) (hl : lls.length = 4) :
    Calls Tryz.prog 84 #[.slice a 4 cap] w fun r w' => Says (MayL lls) r ∧ w' = w := by
  have HS : Hid (SegL w a lls ∧ lls.length = 4) := ⟨hs, hl⟩
  rcases hs with h0 | ⟨G, O, rfl, h9⟩
  · rw [h0] at hl; simp at hl
  clear hl h9
  go_enter Tryz.func84, Tryz.ntmps84
  go_wp2
  go_loopw [13] (fun i wr => ∃ j : Nat, j ≤ 4 ∧ i = .int .i64 j ∧ wr = w ∧ ∀ s, s < j → ∀ l, lls[s]? = some l → l.length ≤ 2 ∧ okRow s l l.length) (fun i _ => 4 - (intOf i).toNat)
  case atStart => exact ⟨0, by omega, rfl, rfl, fun s hs => by omega⟩
  case round =>
    obtain ⟨j, hj, rfl, hw, hall⟩ := hrel
    obtain rfl := hw.symm
    clear hw
    have HA : Hid (∀ s, s < j → ∀ l, lls[s]? = some l → l.length ≤ 2 ∧ okRow s l l.length) := hall
    clear hall
    by_cases hlt : j < 4
    · obtain ⟨l, hl⟩ : ∃ l, lls[j]? = some l := ⟨_, List.getElem?_eq_getElem (by rw [HS.out.2]; exact hlt)⟩
      rcases HS.out.1 with h0 | ⟨G', O', e, hc⟩
      · have := HS.out.2; rw [h0] at this; simp at this
      cases e
      obtain ⟨x, c, hcell, hseg, hlc, hlm⟩ := hc j l hl
      have hji : (j : Int) < 4 := by omega
      have H1 : Hid (Calls _ _ _ _ _) := fits_says j x c l w hseg hlc hlm
      have HL : Hid (lls[j]? = some l) := hl
      obtain ⟨n, en⟩ : ∃ n, n = l.length := ⟨_, rfl⟩
      rw [← en] at hcell H1 hlm
      have HN : Hid (n = l.length) := en
      clear hl hseg en hc hlc
      go_wp2_with fail
      refine H1.out.mono ?_
      rintro r w1 ⟨⟨t, rfl, ht⟩, rfl⟩
      clear H1
      cases t with
      | true =>
        have hok := ht.1 rfl
        have HE : Hid (∀ s, s < j + 1 → ∀ l, lls[s]? = some l → l.length ≤ 2 ∧ okRow s l l.length) := fun s hs l' hl' => by
          by_cases e : s = j
          · subst e
            rw [HL.out] at hl'
            cases hl'
            rw [← HN.out]
            exact hok
          · exact HA.out s (by omega) l' hl'
        clear hok ht hcell
        go_wp2
        go_roundw
        case rel => exact ⟨j + 1, by omega, by go_num, trivial, HE.out⟩
        case measure => simp [intOf]; omega
      | false =>
        have HE : Hid (¬ MayL lls) := fun hM => by
          have h2 := hM.2 j l HL.out
          rw [← HN.out] at h2
          exact absurd (ht.2 h2) (by simp)
        clear ht hcell
        go_wp2
        go_ret
        exact ⟨says_false HE.out, rfl⟩
    · obtain rfl : j = 4 := by omega
      have HE : Hid (MayL lls) := ⟨.inr HS.out.2, fun s l hl => HA.out s (by have := (List.getElem?_eq_some_iff.1 hl).1; have := HS.out.2; omega) l hl⟩
      clear hj hlt
      go_wp2
      go_ret
      exact ⟨says_true HE.out, rfl⟩

theorem canBe_says (a : Option Addr) (lls : List (List Int)) (cap : Nat) (w : World) (hs : SegL w a lls) :
    Calls Tryz.prog 84 #[.slice a lls.length cap] w fun r w' => Says (MayL lls) r ∧ w' = w := by
  by_cases h0 : lls.length = 0
  · have e : lls = [] := List.eq_nil_of_length_eq_zero h0
    subst e
    refine (canBe_none a cap w).mono ?_
    rintro r w' ⟨rfl, rfl⟩
    exact ⟨says_true ⟨.inl rfl, fun s l hl => by simp at hl⟩, rfl⟩
  · by_cases h4 : lls.length = 4
    · rw [h4]
      exact canBe_four a lls cap w hs h4
    · refine (canBe_odd a lls.length cap w (by omega) (by omega)).mono ?_
      rintro r w' ⟨rfl, rfl⟩
      exact ⟨says_false fun h => h.1.elim h0 h4, rfl⟩

theorem restore_not (c : Nat) (a : Option Addr) (lls : List (List Int)) (cap : Nat) (w : World) (hs : SegL w a lls) (hm : ¬ MayL lls) :
    Calls Tryz.prog 51 #[ptr c, .slice a lls.length cap] w fun r w' => r = .returned (.int .i64 71) ∧ w' = w := by
  have H1 : Hid (Calls _ _ _ _ _) := canBe_says a lls cap w hs
  have HM : Hid (¬ MayL lls) := hm
  clear hs hm
  obtain ⟨n, en⟩ : ∃ n, n = lls.length := ⟨_, rfl⟩
  rw [← en] at H1 ⊢
  clear en
  go_enter Tryz.func51, Tryz.ntmps51
  go_wp2_with fail
  refine H1.out.mono ?_
  rintro r w1 ⟨⟨t, rfl, ht⟩, rfl⟩
  cases t with
  | true => exact (HM.out (ht.1 rfl)).elim
  | false =>
    clear ht H1
    go_wp2
    go_ret
    exact ⟨rfl, rfl⟩

theorem restore_none (c : Nat) (st : Nat → List Int) (F : Nat → Prop) (a : Option Addr) (cap : Nat) (w : World) (h : Ca w c st F) :
    Calls Tryz.prog 51 #[ptr c, .slice a 0 cap] w fun r w' => r = .returned (.int .i64 0) ∧ NowC w w' c (fun _ => []) F := by
  obtain ⟨s, Fs, g1, g2, g3, g4⟩ := h
  have H1 : Hid (Calls _ _ _ _ _) := canBe_none a cap w
  have H2 : Hid (Calls _ _ _ _ _) := flush_any c s st F w w (SF.of g1 g2 g3 g4)
  clear g1 g2 g3 g4
  go_enter Tryz.func51, Tryz.ntmps51
  go_wp2_with fail
  refine H1.out.mono ?_
  rintro e w1 ⟨rfl, rfl⟩
  clear H1
  go_wp2_with fail
  refine H2.out.mono ?_
  rintro e w2 ⟨rfl, hS⟩
  have H3 : Hid (NowC w1 w2 c (fun _ => []) F) := hS.now
  clear H2 hS
  go_wp2
  go_loopw [18] (fun i wr => i = .int .i64 0 ∧ wr = w2) (fun _ _ => 0)
  case atStart => exact ⟨rfl, rfl⟩
  case round =>
    obtain ⟨rfl, rfl⟩ := hrel
    go_wp2
    go_ret
    exact ⟨rfl, H3.out⟩

theorem flushC_any (c : Nat) (st : Nat → List Int) (F : Nat → Prop) (w : World) (h : Ca w c st F) :
    Calls Tryz.prog 59 #[ptr c] w fun r w' => r = .returned (.tuple #[]) ∧ NowC w w' c (fun _ => []) F := by
  obtain ⟨s, Fs, g1, g2, g3, g4⟩ := h
  refine (flush_any c s st F w w (SF.of g1 g2 g3 g4)).mono ?_
  rintro r w' ⟨rfl, hS⟩
  exact ⟨rfl, hS.now⟩

/-- The lists by number. -/
def nth (lls : List (List Int)) (i : Nat) : List Int := (lls[i]?).getD []
theorem nth_some {lls : List (List Int)} {i : Nat} (h : i < lls.length) : lls[i]? = some (nth lls i) := by
  unfold nth
  rw [List.getElem?_eq_getElem h]
  rfl
theorem SegL.lst {w : World} {G : Nat} {lls : List (List Int)} (h : SegL w (some ⟨G, 0, none⟩) lls) (hl : lls.length = 4) : ∃ vs, ∀ w', (∀ k, k < lls.length → True) → w' = w → Lst w' G vs (nth lls) := by
  rcases h with h0 | ⟨g, o, e, hc⟩
  · rw [h0] at hl; simp at hl
  cases e
  have hx : ∀ i, ∃ v, i < 4 → w.cell? ⟨G, i, none⟩ = some v ∧ ∃ a c, v = .slice a (nth lls i).length c ∧ SegI w a (nth lls i) ∧ (nth lls i).length ≤ c := fun i => by
    by_cases hi : i < 4
    · obtain ⟨x, c, h1, h2, h3, h4⟩ := hc i (nth lls i) (nth_some (by omega))
      rw [Nat.zero_add] at h1
      exact ⟨_, fun _ => ⟨h1, x, c, rfl, h2, h3⟩⟩
    · exact ⟨undef, fun h => (hi h).elim⟩
  obtain ⟨vs, hv⟩ := Classical.axiomOfChoice hx
  refine ⟨vs, fun w' _ e => ?_⟩
  subst e
  exact ⟨fun i hi => (hv i hi).1, fun i hi => (hv i hi).2⟩

theorem MayL.good {lls : List (List Int)} (h : MayL lls) (hl : lls.length = 4) : Good (nth lls) ∧ ∀ i, i < 4 → (nth lls i).length ≤ 2 ∧ (nth lls i).Nodup := by
  refine ⟨fun i hi z hz => ?_, fun i hi => ?_⟩
  · obtain ⟨h1, h2⟩ := h.2 i (nth lls i) (nth_some (by omega))
    obtain ⟨m, hm, e⟩ := List.mem_iff_getElem.1 hz
    obtain ⟨a1, a2, a3, a4⟩ := h2 m hm z (by rw [List.getElem?_eq_getElem hm, e])
    rw [Int.tmod_eq_emod_of_nonneg a1] at a3
    exact ⟨a1, a2, a3⟩
  · obtain ⟨h1, h2⟩ := h.2 i (nth lls i) (nth_some (by omega))
    refine ⟨h1, ?_⟩
    unfold List.Nodup
    rw [List.pairwise_iff_getElem]
    intro p q hp hq hpq e
    have h3 := h2 q hq _ (List.getElem?_eq_getElem hq)
    refine h3.2.2.2 ?_
    rw [List.mem_iff_getElem?]
    exact ⟨p, by rw [List.getElem?_take, if_pos hpq, List.getElem?_eq_getElem hp, e]⟩

end Go.Proofs.YtipejahmjdamjaaGreatDoor.Ch
namespace Go.Proofs.YtipejahmjdamjaaGreatDoor.Ch
open Go.RowKit Go.Shelf
set_option linter.unusedVariables false
set_option maxRecDepth 6000
set_option linter.unusedSimpArgs false
set_option maxRecDepth 6000

/-- How many numbers stand in the first lists. -/
def tot (lls : List (List Int)) (j : Nat) : Nat := (lls.take j).flatten.length
theorem tot_succ {lls : List (List Int)} {j : Nat} {l : List Int} (h : lls[j]? = some l) : tot lls (j + 1) = tot lls j + l.length := by
  unfold tot; rw [flatten_take h, List.length_append]
theorem tot_le (lls : List (List Int)) (j : Nat) : tot lls j ≤ tot lls lls.length := by
  unfold tot
  rw [List.take_length, ← List.take_append_drop j lls, List.flatten_append, List.length_append]
  have e : List.take j (List.take j lls ++ List.drop j lls) = List.take j lls := by rw [List.take_append_drop]
  rw [e]
  omega
theorem tot_one {lls : List (List Int)} {j : Nat} {l : List Int} (h : lls[j]? = some l) : l.length ≤ tot lls lls.length := by
  have := tot_succ h; have := tot_le lls (j + 1); omega

/-- What vast tells. -/
def VastP (lls : List (List Int)) (r : Ending) : Prop := ∃ b : Bool, r = .returned (.bool b) ∧ (b = false → lls.length ≤ 2147483647 ∧ tot lls lls.length ≤ 2147483647)

end Go.Proofs.YtipejahmjdamjaaGreatDoor.Ch
namespace Go.Proofs.YtipejahmjdamjaaGreatDoor.Ch
open Go.RowKit Go.Shelf
set_option linter.unusedVariables false
set_option maxRecDepth 6000
set_option linter.unusedSimpArgs false
set_option maxRecDepth 6000

theorem append_row2 {w : World} (a : Option Addr) (m c : Nat) (v : Value) (n : Nat) (vs : List Value) (hown : w.ownsRow 0 99 1 v n vs) (hn : n ≤ 4294967296) :
    ∃ v' W', (∀ ty, (Builtin.append_ #[41, 41] ty #[v, .slice (some ⟨w.heap.size, 0, none⟩) 1 1]).run Tryz.prog (w.alloc (.cells #[.slice a m c] 99)) = .ok v' W') ∧ W'.ownsRow 0 99 1 v' (n + 1) (vs ++ [.slice a m c]) ∧ Grew w v W' v' := by
  obtain ⟨i0, hi, hz0, hz1, hz2⟩ := info_parts Tryz.info99
  obtain ⟨v', W', h1, h2, h3, h4⟩ := append_new 41 99 i0 (.slice none 0 0) 1 24 Tryz.underlying41 hi hz0 hz1 hz2 rfl (by omega) v n vs hown #[.slice a m c] rfl (by
    intro y hy
    simp at hy
    rw [hy]; rfl) (by unfold maxLen; omega) (by omega)
  exact ⟨v', W', h1, h2, h3, h4⟩

/-- What copied leaves. -/
def CopP (w w' : World) (lls : List (List Int)) (e : Ending) : Prop := ∃ v rows, e = .returned v ∧ CR w w' v rows (nth lls) lls.length

/-- Lists that can be read, in blocks from B on. -/
def SegB (w : World) (a : Option Addr) (lls : List (List Int)) (B : Nat) : Prop :=
  lls = [] ∨ ∃ g o, a = some ⟨g, o, none⟩ ∧ B ≤ g ∧ ∀ (j : Nat) (l : List Int), lls[j]? = some l → ∃ x c, w.cell? ⟨g, o + j, none⟩ = some (.slice x l.length c) ∧ SegI w x l ∧ l.length ≤ c ∧ (l.length : Int) ≤ 9223372036854775807 ∧ ∀ y, x = some y → B ≤ y.block
theorem SegB.segL {w : World} {a : Option Addr} {lls : List (List Int)} {B : Nat} (h : SegB w a lls B) : SegL w a lls := by
  rcases h with h | ⟨g, o, e, hb, hc⟩
  · exact .inl h
  · refine .inr ⟨g, o, e, fun j l hl => ?_⟩
    obtain ⟨x, c, h1, h2, h3, h4, h5⟩ := hc j l hl
    exact ⟨x, c, h1, h2, h3, h4⟩
theorem SegB.kept {S : Nat → Prop} {w w' : World} {a : Option Addr} {lls : List (List Int)} {B : Nat} (h : SegB w a lls B) (hK : Keeps S w w') (hS : ∀ k, S k → k < B) : SegB w' a lls B := by
  rcases h with h | ⟨g, o, e, hb, hc⟩
  · exact .inl h
  · refine .inr ⟨g, o, e, hb, fun j l hl => ?_⟩
    obtain ⟨x, c, h1, h2, h3, h4, h5⟩ := hc j l hl
    refine ⟨x, c, cell_kept h1 hK (fun (hs : S g) => by have := hS g hs; omega), h2.kept hK fun y hy hs => by have := hS _ hs; have := h5 y hy; omega, h3, h4, h5⟩
theorem CR.segB {w W : World} {v : Value} {rows : Nat → Value} {lls : List (List Int)} (h : CR w W v rows (nth lls) lls.length) (ht : tot lls lls.length ≤ 2147483647) : ∃ a cap, v = .slice a lls.length cap ∧ SegB W a lls w.heap.size := by
  have hh := h.own
  rcases hh.2 with ⟨e, h0⟩ | ⟨G, cap, cur, rfl, h5, h6, h7⟩
  · exact ⟨none, 0, by rw [e, h0], .inl (List.eq_nil_of_length_eq_zero h0)⟩
  · refine ⟨some ⟨G, 0, none⟩, cap, rfl, .inr ⟨G, 0, rfl, h.fresh G rfl, fun j l hl => ?_⟩⟩
    have hj := (List.getElem?_eq_some_iff.1 hl).1
    have hn := nth_some hj
    rw [hl] at hn
    cases hn
    obtain ⟨a, c, g1, g2, g3, g4⟩ := h.row j hj
    have hcell := hh.cells (g := G) rfl j (rows j) (by simp [hj])
    rw [addr_add, g1] at hcell
    have := tot_one hl
    exact ⟨a, c, hcell, g2, g3, by omega, fun y hy => (g4 y hy).1⟩

theorem Four.segL {w : World} {G : Nat} {vs : Nat → Value} {ls : Nat → List Int} {D : Nat → Prop} (h : Lst w G vs ls) (hf : ∀ i, i < 4 → (ls i).length ≤ 2) : SegL w (some ⟨G, 0, none⟩) [ls 0, ls 1, ls 2, ls 3] := by
  refine .inr ⟨G, 0, rfl, fun j l hl => ?_⟩
  have hj : j < 4 := (List.getElem?_eq_some_iff.1 hl).1
  have e : l = ls j := by
    have : j = 0 ∨ j = 1 ∨ j = 2 ∨ j = 3 := by omega
    rcases this with rfl | rfl | rfl | rfl <;> simpa using hl.symm
  subst e
  obtain ⟨a, c, h1, h2, h3⟩ := h.seg j hj
  refine ⟨a, c, by rw [Nat.zero_add, h.cell j hj, h1], h2, h3, by have := hf j hj; omega⟩

end Go.Proofs.YtipejahmjdamjaaGreatDoor.Ch
namespace Go.Proofs.YtipejahmjdamjaaGreatDoor.Ch
open Go.RowKit Go.Shelf
set_option linter.unusedVariables false
set_option maxRecDepth 6000
set_option linter.unusedSimpArgs false

/-- Both caches hold the same. -/
structure Rel (st : Nat → List Int) (us : List Int) : Prop where
  eq : ∀ i : Nat, i < 4 → hd (i : Int) us = st i
  pos : ∀ x ∈ us, 0 ≤ x

theorem flt_append (s : Int) (a b : List Int) : flt s (a ++ b) = flt s a ++ flt s b := by unfold flt; rw [List.filter_append]
theorem flt_all {s : Int} {l : List Int} (h : ∀ x ∈ l, x.tmod 4 = s) : flt s l = l := by
  unfold flt
  rw [List.filter_eq_self]
  intro x hx
  simpa using h x hx
theorem flt_no {s : Int} {l : List Int} (h : ∀ x ∈ l, x.tmod 4 ≠ s) : flt s l = [] := by
  unfold flt
  rw [List.filter_eq_nil_iff]
  intro x hx
  simpa using h x hx
theorem mem_hd {s x : Int} {us : List Int} (h : x ∈ hd s us) : x ∈ us ∧ x.tmod 4 = s := by
  have h1 : x ∈ flt s us := List.mem_of_mem_drop h
  unfold flt at h1
  rw [List.mem_filter] at h1
  exact ⟨h1.1, by simpa using h1.2⟩
theorem mem_wo {n x : Int} {l : List Int} (h : x ∈ woN n l) : x ∈ l ∧ x ≠ n := by
  unfold woN at h
  rw [List.mem_filter] at h
  exact ⟨h.1, by simpa using h.2⟩
theorem lastTwo_short {l : List Int} (h : l.length ≤ 2) : lastTwo l = l := by
  unfold lastTwo
  rw [show l.length - 2 = 0 by omega]
  rfl

theorem rel_none : Rel (fun _ => []) [] := ⟨fun i _ => by simp [hd, flt, lastTwo], fun x hx => by simp at hx⟩

theorem flt_pre (l : Int) (us : List Int) (s : Nat) : ∀ j, flt (s : Int) (pre l us j) = if s < j then woN l (hd (s : Int) us) else []
  | 0 => by simp [pre, flt]
  | j + 1 => by
    rw [pre_succ, flt_append, flt_pre l us s j]
    by_cases e : s = j
    · subst e
      rw [if_neg (by omega), if_pos (by omega), List.nil_append]
      exact flt_all fun x hx => (mem_hd (mem_wo hx).1).2
    · rw [flt_no (l := woN l (hd (j : Int) us)) fun x hx h => e (by have := (mem_hd (mem_wo hx).1).2; omega), List.append_nil]
      by_cases h : s < j
      · rw [if_pos h, if_pos (by omega)]
      · rw [if_neg h, if_neg (by omega)]

theorem wo_not {n : Int} {l : List Int} (h : n ∉ l) : woN n l = l := by
  unfold woN
  rw [List.filter_eq_self]
  intro x hx
  simp only [bne_iff_ne, ne_eq]
  exact fun e => h (e ▸ hx)
theorem wo_erase {n : Int} {l : List Int} (h : l.Nodup) : woN n l = l.erase n := by
  rw [h.erase_eq_filter]
  unfold woN
  rfl

theorem rel_touch {st : Nat → List Int} {us : List Int} (h : Rel st us) (hn : ∀ i, i < 4 → (st i).Nodup) (l : Nat) : Rel (step l st) (tch l us) := by
  refine ⟨fun i hi => ?_, fun x hx => ?_⟩
  · have hf := h.eq i hi
    have hl2 : (st i).length ≤ 2 := by rw [← hf]; exact hd_len _ _
    have htm : ((l : Int)).tmod 4 = ((l % 4 : Nat) : Int) := by rw [Int.tmod_eq_emod_of_nonneg (by omega)]; omega
    unfold hd tch
    rw [flt_append, flt_pre, if_pos hi, hf]
    by_cases e : i = l % 4
    · subst e
      rw [step_same, flt_all (l := [(l : Int)]) fun x hx => by simp at hx; rw [hx]; exact htm]
      unfold putL
      by_cases hm : (l : Int) ∈ st (l % 4)
      · rw [if_pos hm, ← wo_erase (hn _ hi)]
        refine lastTwo_short ?_
        rw [wo_erase (hn _ hi), List.length_append, List.length_erase_of_mem hm]
        simp
        omega
      · rw [if_neg hm, wo_not hm]
        by_cases h2 : (st (l % 4)).length < 2
        · rw [if_pos h2]
          exact lastTwo_short (by rw [List.length_append]; simp; omega)
        · rw [if_neg h2]
          have h3 : (st (l % 4)).length = 2 := by omega
          unfold lastTwo
          rw [List.length_append, h3]
          match hst : st (l % 4), h3 with
          | [x, y], _ => rfl
    · rw [step_other e, flt_no (l := [(l : Int)]) fun x hx h => e (by simp at hx; subst hx; omega), List.append_nil]
      rw [wo_not]
      · exact lastTwo_short hl2
      · intro hm
        rw [← hf] at hm
        have := (mem_hd hm).2
        omega
  · unfold tch pre at hx
    rcases List.mem_append.1 hx with h1 | h1
    · obtain ⟨s, _, h2⟩ := List.mem_flatMap.1 h1
      exact h.pos x (mem_hd (mem_wo h2).1).1
    · simp at h1
      omega

theorem rel_has {st : Nat → List Int} {us : List Int} (h : Rel st us) (l : Nat) : decide ((l : Int) ∈ st (l % 4)) = has us l := by
  unfold has
  rw [h.eq (l % 4) (by omega)]
theorem rel_cost {st : Nat → List Int} {us : List Int} (h : Rel st us) (l : Nat) : cost l st = costR l us := by
  unfold cost costR
  rw [← rel_has h]
  by_cases hm : (l : Int) ∈ st (l % 4) <;> simp [hm]

theorem rel_restore {lls : List (List Int)} (h : MayL lls) (hl : lls.length = 4) : Rel (nth lls) lls.flatten := by
  obtain ⟨hg, h2⟩ := h.good hl
  obtain ⟨a, b, c, d, rfl⟩ : ∃ a b c d, lls = [a, b, c, d] := by
    match lls, hl with
    | [a, b, c, d], _ => exact ⟨a, b, c, d, rfl⟩
  have htm : ∀ i : Nat, i < 4 → ∀ z ∈ nth [a, b, c, d] i, z.tmod 4 = (i : Int) := fun i hi z hz => by
    obtain ⟨h1, h2, h3⟩ := hg i hi z hz
    rw [Int.tmod_eq_emod_of_nonneg h1]; exact h3
  refine ⟨fun i hi => ?_, fun x hx => ?_⟩
  · have e : flt (i : Int) [a, b, c, d].flatten = nth [a, b, c, d] i := by
      have ha := htm 0 (by omega); have hb := htm 1 (by omega); have hc := htm 2 (by omega); have hd' := htm 3 (by omega)
      change ∀ z ∈ a, z.tmod 4 = ((0 : Nat) : Int) at ha
      change ∀ z ∈ b, z.tmod 4 = ((1 : Nat) : Int) at hb
      change ∀ z ∈ c, z.tmod 4 = ((2 : Nat) : Int) at hc
      change ∀ z ∈ d, z.tmod 4 = ((3 : Nat) : Int) at hd'
      simp only [List.flatten_cons, List.flatten_nil, List.append_nil, flt_append]
      have : i = 0 ∨ i = 1 ∨ i = 2 ∨ i = 3 := by omega
      rcases this with rfl | rfl | rfl | rfl
      · rw [flt_all ha, flt_no fun x hx h => by have := hb x hx; omega, flt_no fun x hx h => by have := hc x hx; omega, flt_no fun x hx h => by have := hd' x hx; omega]
        simp [nth]
      · rw [flt_all hb, flt_no fun x hx h => by have := ha x hx; omega, flt_no fun x hx h => by have := hc x hx; omega, flt_no fun x hx h => by have := hd' x hx; omega]
        simp [nth]
      · rw [flt_all hc, flt_no fun x hx h => by have := ha x hx; omega, flt_no fun x hx h => by have := hb x hx; omega, flt_no fun x hx h => by have := hd' x hx; omega]
        simp [nth]
      · rw [flt_all hd', flt_no fun x hx h => by have := ha x hx; omega, flt_no fun x hx h => by have := hb x hx; omega, flt_no fun x hx h => by have := hc x hx; omega]
        simp [nth]
    unfold hd
    rw [e]
    exact lastTwo_short (h2 i hi).1
  · obtain ⟨l, hl1, hl2⟩ := List.mem_flatten.1 hx
    obtain ⟨i, hi, e⟩ := List.mem_iff_getElem.1 hl1
    have : nth [a, b, c, d] i = l := by unfold nth; rw [List.getElem?_eq_getElem hi, e]; rfl
    exact (hg i hi x (by rw [this]; exact hl2)).1

end Go.Proofs.YtipejahmjdamjaaGreatDoor.Ch
namespace Go.Proofs.YtipejahmjdamjaaGreatDoor.Tl
open Go.RowKit
set_option linter.unusedVariables false

/-! ### A ring of numbers: nw goes on, od goes back -/
def Chain (nw od : Nat → Nat) : Nat → List Nat → Nat → Prop
  | p, [], q => nw p = q ∧ od q = p
  | p, b :: bs, q => nw p = b ∧ od b = p ∧ Chain nw od b bs q

theorem Chain.split {nw od : Nat → Nat} {p b q : Nat} {A C : List Nat} : Chain nw od p (A ++ b :: C) q ↔ Chain nw od p A b ∧ Chain nw od b C q := by
  induction A generalizing p with
  | nil => simp [Chain, and_assoc]
  | cons a A ih => simp only [List.cons_append, Chain, ih, and_assoc]

theorem Chain.prev_mem {nw od : Nat → Nat} {p q : Nat} {A : List Nat} (h : Chain nw od p A q) : od q ∈ p :: A := by
  induction A generalizing p with
  | nil => simp [Chain] at h; simp [h.2]
  | cons a A ih => exact List.mem_cons_of_mem _ (ih h.2.2)

theorem Chain.next_mem {nw od : Nat → Nat} {p q : Nat} {A : List Nat} (h : Chain nw od p A q) : nw p ∈ A ++ [q] := by
  cases A with
  | nil => simp [Chain] at h; simp [h.1]
  | cons a A => simp [h.1]

theorem Chain.same {nw od nw' od' : Nat → Nat} {p q : Nat} {A : List Nat} (h : Chain nw od p A q) (hn : ∀ z ∈ p :: A, nw' z = nw z) (ho : ∀ z ∈ A ++ [q], od' z = od z) : Chain nw' od' p A q := by
  induction A generalizing p with
  | nil => exact ⟨(hn p (by simp)).trans h.1, (ho q (by simp)).trans h.2⟩
  | cons a A ih =>
    exact ⟨(hn p (by simp)).trans h.1, (ho a (by simp)).trans h.2.1, ih h.2.2 (fun z hz => hn z (List.mem_cons_of_mem _ hz)) (fun z hz => ho z (by simp at hz ⊢; exact .inr hz))⟩

theorem Chain.turn {nw od nw' od' : Nat → Nat} {p q y : Nat} {A : List Nat} (h : Chain nw od p A q) (nd : (p :: A).Nodup) (hn : ∀ z ∈ p :: A, z ≠ od q → nw' z = nw z) (hx : nw' (od q) = y)
    (ho : ∀ z ∈ A, od' z = od z) (hy : od' y = od q) : Chain nw' od' p A y := by
  induction A generalizing p with
  | nil =>
    have h2 : od q = p := h.2
    exact ⟨h2 ▸ hx, by rw [hy, h2]⟩
  | cons a A ih =>
    have hm := h.2.2.prev_mem
    have hne : p ≠ od q := fun e => (List.nodup_cons.1 nd).1 (e ▸ hm)
    exact ⟨(hn p (by simp) hne).trans h.1, (ho a (by simp)).trans h.2.1, ih h.2.2 (List.nodup_cons.1 nd).2 (fun z hz => hn z (List.mem_cons_of_mem _ hz)) (fun z hz => ho z (List.mem_cons_of_mem _ hz))⟩

def upd (f : Nat → Nat) (x y : Nat) : Nat → Nat := fun z => if z = x then y else f z
theorem upd_same (f : Nat → Nat) (x y : Nat) : upd f x y x = y := if_pos rfl
theorem upd_ne (f : Nat → Nat) {x z : Nat} (y : Nat) (h : z ≠ x) : upd f x y z = f z := if_neg h

/-- One goes out of the ring. -/
theorem Chain.leave {nw od : Nat → Nat} {e b : Nat} {A C : List Nat} (h : Chain nw od e (A ++ b :: C) e) (nd : (e :: (A ++ b :: C)).Nodup) :
    Chain (upd nw (od b) (nw b)) (upd od (nw b) (od b)) e (A ++ C) e := by
  obtain ⟨h1, h2⟩ := Chain.split.1 h
  have hx := h1.prev_mem
  have nd1 : (e :: A).Nodup := nd.sublist (by simp)
  have hbe : b ≠ e := fun he => by rw [he] at nd; simp at nd
  cases C with
  | nil =>
    have e1 : nw b = e := h2.1
    rw [List.append_nil, e1]
    refine h1.turn nd1 (fun z hz hne => upd_ne _ _ hne) (upd_same _ _ _) (fun z hz => upd_ne _ _ fun he => ?_) (upd_same _ _ _)
    rw [he] at hz; simp at nd; exact nd.1.1 hz
  | cons c C =>
    have e1 : nw b = c := h2.1
    have hc := h2.2.2
    rw [e1]
    have dA : ∀ z ∈ e :: A, z ∉ b :: c :: C := by
      intro z hz hz2
      have : (e :: A ++ (b :: c :: C)).Nodup := by simpa using nd
      exact (List.nodup_append.1 this).2.2 z hz z hz2 rfl
    have dC : (c :: C).Nodup := by
      have h5 : (e :: A ++ (b :: c :: C)).Nodup := by simpa using nd
      exact (List.nodup_cons.1 (List.nodup_append.1 h5).2.1).2
    have hec : e ≠ c := fun he => dA e (by simp) (by simp [he])
    refine Chain.split.2 ⟨h1.turn nd1 (fun z hz hne => upd_ne _ _ hne) (upd_same _ _ _) (fun z hz => upd_ne _ _ fun he => ?_) (upd_same _ _ _), hc.same (fun z hz => upd_ne _ _ fun he => ?_) (fun z hz => upd_ne _ _ fun he => ?_)⟩
    · exact dA z (by simp [hz]) (by simp [he])
    · exact dA (od b) hx (by rw [← he]; exact List.mem_cons_of_mem _ hz)
    · rw [he] at hz
      rcases List.mem_append.1 hz with h' | h'
      · exact (List.nodup_cons.1 dC).1 h'
      · simp at h'; exact hec h'.symm

/-- One comes in, at the end. -/
theorem Chain.enter {nw od : Nat → Nat} {e b : Nat} {A : List Nat} (h : Chain nw od e A e) (nd : (e :: A).Nodup) (hb : b ∉ e :: A) :
    Chain (upd (upd nw b e) (od e) b) (upd (upd od b (od e)) e b) e (A ++ [b]) e := by
  have hx := h.prev_mem
  have hbe : b ≠ e := fun he => hb (by simp [he])
  have hbx : b ≠ od e := fun he => hb (he ▸ hx)
  refine Chain.split.2 ⟨h.turn nd (fun z hz hne => ?_) (upd_same _ _ _) (fun z hz => ?_) ?_, ?_, upd_same _ _ _⟩
  · rw [upd_ne _ _ hne, upd_ne _ _ fun he : z = b => hb (he ▸ hz)]
  · rw [upd_ne _ _ fun he : z = e => (List.nodup_cons.1 nd).1 (he ▸ hz), upd_ne _ _ fun he : z = b => hb (by rw [← he]; exact List.mem_cons_of_mem _ hz)]
  · rw [upd_ne _ _ hbe, upd_same]
  · rw [upd_ne _ _ hbx, upd_same]

/-! ### The ring's places in the memory -/
/-- A leaf: page, frame, rights. -/
structure Lf where
  p : Int
  f : Int
  r : Int
deriving DecidableEq

abbrev Lf.v (l : Lf) : Value := .agg #[.int .i64 l.p, .int .i64 l.f, .int .i64 l.r]
abbrev Lf.vs (l : Lf) : List Value := [.int .i64 l.p, .int .i64 l.f, .int .i64 l.r]

structure N where
  blk : Nat
  key : Int
  thing : Lf

abbrev ptr (b : Nat) : Value := .pointer (some ⟨b, 0, none⟩)

/-- Each of these places has its block. -/
def Nodes (w : World) (t : TypeId) (L : List N) (nw od : Nat → Nat) : Prop :=
  ∀ x ∈ L, Blk w x.blk [.int .i64 x.key, .int .i64 x.thing.p, .int .i64 x.thing.f, .int .i64 x.thing.r, ptr (od x.blk), ptr (nw x.blk)] t

theorem Nodes.kept {S : Nat → Prop} {w w' : World} {t : TypeId} {L : List N} {nw od : Nat → Nat} (h : Nodes w t L nw od) (k : Keeps S w w') (hn : ∀ x ∈ L, ¬ S x.blk) : Nodes w' t L nw od :=
  fun x hx => (h x hx).kept k (hn x hx)
theorem Nodes.sub {w : World} {t : TypeId} {L L' : List N} {nw od : Nat → Nat} (h : Nodes w t L nw od) (hs : ∀ x ∈ L', x ∈ L) : Nodes w t L' nw od := fun x hx => h x (hs x hx)
theorem Nodes.setNew {w : World} {t : TypeId} {L : List N} {nw od : Nat → Nat} (h : Nodes w t L nw od) (x y : Nat) : Nodes (w.setCell ⟨x, 5, none⟩ (ptr y)) t L (upd nw x y) od := by
  intro z hz
  by_cases e : z.blk = x
  · have h1 := h z hz
    rw [e] at h1 ⊢
    rw [upd_same]
    exact h1.setCell 5 (ptr y)
  · rw [upd_ne _ _ e]
    exact (h z hz).setCell_ne e _
theorem Nodes.setOld {w : World} {t : TypeId} {L : List N} {nw od : Nat → Nat} (h : Nodes w t L nw od) (x y : Nat) : Nodes (w.setCell ⟨x, 4, none⟩ (ptr y)) t L nw (upd od x y) := by
  intro z hz
  by_cases e : z.blk = x
  · have h1 := h z hz
    rw [e] at h1 ⊢
    rw [upd_same]
    exact h1.setCell 4 (ptr y)
  · rw [upd_ne _ _ e]
    exact (h z hz).setCell_ne e _

/-- A ring in the memory: the end and its places. -/
structure Rg (w : World) (t : TypeId) (e : N) (xs : List N) (nw od : Nat → Nat) : Prop where
  chain : Chain nw od e.blk (xs.map N.blk) e.blk
  nodup : (e.blk :: xs.map N.blk).Nodup
  nodes : Nodes w t (e :: xs) nw od

theorem Rg.kept {S : Nat → Prop} {w w' : World} {t : TypeId} {e : N} {xs : List N} {nw od : Nat → Nat} (h : Rg w t e xs nw od) (k : Keeps S w w') (hn : ∀ x ∈ e :: xs, ¬ S x.blk) : Rg w' t e xs nw od :=
  ⟨h.chain, h.nodup, h.nodes.kept k hn⟩

/-! ### A map in the memory -/
theorem val_one : ∀ {l : List (Value × Value)}, (l.map Prod.fst).Nodup → ∀ {a x y : Value}, (a, x) ∈ l → (a, y) ∈ l → x = y
  | [], _, _, _, _, h, _ => by simp at h
  | p :: r, hn, a, x, y, hx, hy => by
    obtain ⟨h1, h2⟩ := List.nodup_cons.1 (by simpa using hn : (p.1 :: r.map Prod.fst).Nodup)
    rcases List.mem_cons.1 hx with hx | hx
    · rcases List.mem_cons.1 hy with hy | hy
      · rw [← hx] at hy; exact (congrArg Prod.snd hy).symm
      · exact absurd (List.mem_map.2 ⟨_, hy, by rw [← hx]⟩) h1
    · rcases List.mem_cons.1 hy with hy | hy
      · exact absurd (List.mem_map.2 ⟨_, hx, by rw [← hy]⟩) h1
      · exact val_one h2 hx hy

/-- Block m is a map with these keys and their values, in some order. -/
def MapIs (P : Program) (k : TypeId) (w : World) (m : Nat) (l : List (Value × Value)) : Prop :=
  ∃ es clock, w.heap[m]? = some (.map es clock) ∧ (es.toList.map fun e => (e.key, e.val)).Perm l ∧ (l.map Prod.fst).Nodup ∧ ∀ p ∈ l, ∃ lit, keyOf P k p.1 = some lit

section
variable {P : Program} {k : TypeId} {w : World} {m : Nat} {l l' : List (Value × Value)}
theorem MapIs.perm (h : MapIs P k w m l) (hp : l.Perm l') : MapIs P k w m l' := by
  obtain ⟨es, c, h1, h2, h3, h4⟩ := h
  exact ⟨es, c, h1, h2.trans hp, (hp.map _).nodup_iff.1 h3, fun p hm => h4 p (hp.mem_iff.2 hm)⟩
theorem MapIs.lt (h : MapIs P k w m l) : m < w.heap.size := by
  obtain ⟨es, c, h1, _⟩ := h
  exact (Array.getElem?_eq_some_iff.1 h1).1
theorem MapIs.kept {S : Nat → Prop} {w' : World} (h : MapIs P k w m l) (hK : Keeps S w w') (hn : ¬ S m) : MapIs P k w' m l := by
  have hlt := h.lt
  obtain ⟨es, c, h1, h2⟩ := h
  exact ⟨es, c, (hK.block m hlt hn).trans h1, h2⟩
theorem MapIs.new (P : Program) (k : TypeId) (w : World) : MapIs P k (w.alloc (.map #[] 0)) w.heap.size [] :=
  ⟨#[], 0, (MapKept.heap_alloc w _).1, by simp, by simp, by simp⟩
theorem MapIs.setCell (h : MapIs P k w m l) {a : Addr} (ha : m ≠ a.block) (u : Value) : MapIs P k (w.setCell a u) m l := by
  obtain ⟨es, c, h1, h2⟩ := h
  exact ⟨es, c, by rw [Below.heap_setCell _ _ _ _ ha]; exact h1, h2⟩

theorem MapIs.entries {es : Array MapEntry} (h2 : (es.toList.map fun e => (e.key, e.val)).Perm l) (h4 : ∀ p ∈ l, ∃ lit, keyOf P k p.1 = some lit) : ∀ e ∈ es.toList, ∃ lit, keyOf P k e.key = some lit :=
  fun e he => h4 (e.key, e.val) (h2.mem_iff.1 (List.mem_map.2 ⟨e, he, rfl⟩))

variable {t e : TypeId}
theorem MapIs.look_none (h : MapIs P k w m l) (K : Maps.Keyed P k) (ht : P.underlying t = some (.map k e)) {z : Value} (hz : (zeroValue e).run P w = .ok z w) {key : Value} {kl : Lit} (hkey : keyOf P k key = some kl)
    (hn : ∀ p ∈ l, p.1 ≠ key) : (Instr.lookup t (.map (some m)) key false).run P w = .ok z w := by
  obtain ⟨es, c, h1, h2, h3, h4⟩ := h
  rcases K.find w hkey es.toList (MapIs.entries h2 h4) with ⟨f1, _⟩ | ⟨j, e0, f1, f2, f3⟩
  · simp [Instr.lookup, run_underlying ht, MapKept.run_getObj_map h1, K.check w _ hkey, f1, hz, Result.andThen]
  · exact absurd f3 (hn (e0.key, e0.val) (h2.mem_iff.1 (List.mem_map.2 ⟨e0, List.mem_of_getElem? f2, rfl⟩)))

theorem MapIs.look_some (h : MapIs P k w m l) (K : Maps.Keyed P k) (ht : P.underlying t = some (.map k e)) {key v : Value} {kl : Lit} (hkey : keyOf P k key = some kl)
    (hm : (key, v) ∈ l) : (Instr.lookup t (.map (some m)) key false).run P w = .ok v w := by
  obtain ⟨es, c, h1, h2, h3, h4⟩ := h
  rcases K.find w hkey es.toList (MapIs.entries h2 h4) with ⟨f1, f2⟩ | ⟨j, e0, f1, f2, f3⟩
  · obtain ⟨e0, he0, h0⟩ := List.mem_map.1 (h2.mem_iff.2 hm)
    exact absurd (congrArg Prod.fst h0) (f2 e0 he0)
  · have hm0 : (e0.key, e0.val) ∈ l := h2.mem_iff.1 (List.mem_map.2 ⟨e0, List.mem_of_getElem? f2, rfl⟩)
    have hv : e0.val = v := by
      rw [f3] at hm0
      exact val_one h3 hm0 hm
    simp [Instr.lookup, run_underlying ht, MapKept.run_getObj_map h1, K.check w _ hkey, f1, hv, Result.andThen]

/-- A key that is not there gets a value. -/
theorem MapIs.store (h : MapIs P k w m l) (K : Maps.Keyed P k) (ht : P.underlying t = some (.map k e)) {key v : Value} {kl : Lit} (hkey : keyOf P k key = some kl) (hroom : l.length < maxLen)
    (hn : ∀ p ∈ l, p.1 ≠ key) : ∃ w', (Instr.mapUpdate t (.map (some m)) key v).run P w = .ok () w' ∧ MapIs P k w' m ((key, v) :: l) ∧ Keeps (fun b => b = m) w w' := by
  obtain ⟨es, c, h1, h2, h3, h4⟩ := h
  rcases K.find w hkey es.toList (MapIs.entries h2 h4) with ⟨f1, _⟩ | ⟨j, e0, f1, f2, f3⟩
  · have hsz : es.size < maxLen := by
      have := h2.length_eq
      simp at this; omega
    refine ⟨ChangeMaps.setBlock w m (.map (es.push ⟨key, v, c⟩) (c + 1)), ?_, ⟨es.push ⟨key, v, c⟩, c + 1, ChangeMaps.heap_setBlock_same h1 _, ?_, ?_, ?_⟩, ⟨rfl, rfl, rfl, by simp [ChangeMaps.setBlock], fun i _ hi => ChangeMaps.heap_setBlock_other h1 _ hi⟩⟩
    · simp [Instr.mapUpdate, run_underlying ht, MapKept.run_getObj_map h1, K.check w false hkey, f1, MapKept.run_setObj_map _ h1, Result.andThen, ChangeMaps.setBlock]
    · rw [Array.toList_push, List.map_append]
      exact (List.perm_append_singleton _ _).trans (h2.cons _)
    · simp only [List.map_cons, List.nodup_cons]
      refine ⟨fun hm => ?_, h3⟩
      obtain ⟨p, hp, he⟩ := List.mem_map.1 hm
      exact hn p hp he
    · intro p hp
      rcases List.mem_cons.1 hp with rfl | hp
      · exact ⟨kl, hkey⟩
      · exact h4 p hp
  · exact absurd f3 (hn (e0.key, e0.val) (h2.mem_iff.1 (List.mem_map.2 ⟨e0, List.mem_of_getElem? f2, rfl⟩)))

/-- A key that is there goes. -/
theorem MapIs.drop {A C : List (Value × Value)} {key v : Value} (h : MapIs P k w m (A ++ (key, v) :: C)) (K : Maps.Keyed P k) (ht : P.underlying t = some (.map k e)) {kl : Lit} (hkey : keyOf P k key = some kl) :
    ∃ w', (∀ ty, (Builtin.delete_ #[t, k] ty #[.map (some m), key]).run P w = .ok (.tuple #[]) w') ∧ MapIs P k w' m (A ++ C) ∧ Keeps (fun b => b = m) w w' := by
  obtain ⟨es, c, h1, h2, h3, h4⟩ := h
  rcases K.find w hkey es.toList (MapIs.entries h2 h4) with ⟨f1, f2⟩ | ⟨j, e0, f1, f2, f3⟩
  · obtain ⟨e0, he0, h0⟩ := List.mem_map.1 (h2.mem_iff.2 (show (key, v) ∈ A ++ (key, v) :: C by simp))
    exact absurd (congrArg Prod.fst h0) (f2 e0 he0)
  · have hjl : j < es.toList.length := (List.getElem?_eq_some_iff.1 f2).1
    have hjs : j < es.size := by simpa using hjl
    have hsub : (es.eraseIdxIfInBounds j).toList = es.toList.eraseIdx j := by
      unfold Array.eraseIdxIfInBounds
      rw [dif_pos hjs]
      simp
    have hlist : es.toList = es.toList.take j ++ e0 :: es.toList.drop (j + 1) := by
      have := List.getElem_of_getElem? f2
      obtain ⟨hh, he⟩ := this
      rw [← he, List.getElem_cons_drop, List.take_append_drop]
    have hperm : ((es.toList.eraseIdx j).map fun e => (e.key, e.val)).Perm (A ++ C) := by
      have hm0 : (e0.key, e0.val) ∈ A ++ (key, v) :: C := h2.mem_iff.1 (List.mem_map.2 ⟨e0, List.mem_of_getElem? f2, rfl⟩)
      have hv : e0.val = v := by
        rw [f3] at hm0
        exact val_one h3 hm0 (show (key, v) ∈ A ++ (key, v) :: C by simp)
      rw [hlist, List.map_append, List.map_cons, f3, hv] at h2
      have h5 := (List.perm_middle.symm.trans (h2.trans List.perm_middle)).cons_inv
      rw [List.eraseIdx_eq_take_drop_succ, List.map_append]
      exact h5
    refine ⟨ChangeMaps.setBlock w m (.map (es.eraseIdxIfInBounds j) c), fun ty => ?_, ⟨_, c, ChangeMaps.heap_setBlock_same h1 _, by rw [hsub]; exact hperm, ?_, fun p hp => h4 p ?_⟩, ⟨rfl, rfl, rfl, by simp [ChangeMaps.setBlock], fun i _ hi => ChangeMaps.heap_setBlock_other h1 _ hi⟩⟩
    · simp [Builtin.delete_, run_underlying ht, MapKept.run_getObj_map h1, K.check w _ hkey, f1, MapKept.run_setObj_map _ h1, Result.andThen, ChangeMaps.setBlock]
    · refine h3.sublist ?_
      simp
    · rcases List.mem_append.1 hp with h | h
      · simp [h]
      · simp [h]

theorem MapIs.len (h : MapIs P k w m l) (ht : P.underlying t = some (.map k e)) (ty : TypeId) : (Builtin.len_ #[t] ty #[.map (some m)]).run P w = .ok (.int .i64 l.length) w := by
  obtain ⟨es, c, h1, h2, h3, h4⟩ := h
  have e1 : es.size = l.length := by have := h2.length_eq; simpa using this
  simp [Builtin.len_, run_underlying ht, MapKept.run_getObj_map h1, goInt, Result.andThen, e1]
end

end Go.Proofs.YtipejahmjdamjaaGreatDoor.Tl
