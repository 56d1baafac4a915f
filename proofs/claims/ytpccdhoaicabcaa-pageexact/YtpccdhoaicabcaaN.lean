import Derived.Test.YtpccdhoaicabcaaF
import Derived.Handy
namespace Go.Proofs.Ytpccdhoaicabcaa
open Go.RowKit
set_option linter.unusedVariables false

def memB (v : Int) (ts : List Int) : Bool := decide (v ∈ ts)
theorem memB_true {v : Int} {ts : List Int} (h : v ∈ ts) : memB v ts = true := decide_eq_true h
theorem memB_false {v : Int} {ts : List Int} (h : v ∉ ts) : memB v ts = false := decide_eq_false h
/-- These numbers can be read at this address. -/
def SegI (w : World) (a : Option Addr) (ts : List Int) : Prop :=
  ts = [] ∨ ∃ g o, a = some ⟨g, o, none⟩ ∧ ∀ (j : Nat) (t : Int), ts[j]? = some t → w.cell? ⟨g, o + j, none⟩ = some (.int .i64 t)
theorem SegI.kept {S : Nat → Prop} {w w' : World} {a : Option Addr} {ts : List Int} (h : SegI w a ts) (hK : Keeps S w w') (hn : ∀ x, a = some x → ¬ S x.block) : SegI w' a ts := by
  rcases h with h | ⟨g, o, ha, hc⟩
  · exact .inl h
  · refine .inr ⟨g, o, ha, fun j t hj => ?_⟩
    have h1 := hc j t hj
    rw [World.cell?_of_block (w := w) (hK.block g (World.block_lt_of_cell? w ⟨g, o + j, none⟩ h1) (hn _ ha))]
    exact h1
theorem SegI.grown {w w' : World} {a : Option Addr} {ts : List Int} (h : SegI w a ts) (hK : Keeps (fun _ => False) w w') : SegI w' a ts := h.kept hK fun _ _ e => e
theorem SegI.take {w : World} {a : Option Addr} {ts : List Int} (h : SegI w a ts) (n : Nat) : SegI w a (ts.take n) := by
  rcases h with h | ⟨g, o, ha, hc⟩
  · left; rw [h]; simp
  · refine .inr ⟨g, o, ha, fun j r hj => hc j r ?_⟩
    rw [List.getElem?_take] at hj
    split at hj
    · exact hj
    · simp at hj
theorem SegI.at {w : World} {a : Option Addr} {ts : List Int} (h : SegI w a ts) {j : Nat} {t : Int} (hj : ts[j]? = some t) : ∃ g o, a = some ⟨g, o, none⟩ ∧ w.cell? ⟨g, o + j, none⟩ = some (.int .i64 t) := by
  rcases h with h | ⟨g, o, ha, hc⟩
  · rw [h] at hj; simp at hj
  · exact ⟨g, o, ha, hc j t hj⟩

set_option maxHeartbeats 1000000 in
theorem indexI_any (a : Option Addr) (ts : List Int) (c : Nat) (v : Int) (w : World) (hl : ts.length ≤ c ∧ c ≤ maxLen) (hs : SegI w a ts) :
    Calls Try.prog 71 #[.slice a ts.length c, .int .i64 v] w fun e w' => (∃ z : Int, e = .returned (.int .i64 z) ∧ decide (0 ≤ z) = memB v ts) ∧ w' = w := by
  obtain ⟨L, hL⟩ : ∃ L, L = ts.length := ⟨_, rfl⟩
  have HS : Hid (SegI w a ts ∧ L = ts.length) := ⟨hs, hL⟩
  have hc2 : (L : Int) ≤ c := by omega
  have hc3 : (c : Int) ≤ 9223372036854775807 := by unfold maxLen at hl; omega
  rw [← hL]
  clear hl hs hL
  go_enter Try.func71, Try.ntmps71
  go_wp2
  go_loopw [8] (fun i wr => ∃ j : Nat, j ≤ L ∧ i = .int .i64 j ∧ v ∉ ts.take j ∧ wr = w) (fun i _ => L - (intOf i).toNat)
  case atStart => exact ⟨0, by omega, rfl, by simp, rfl⟩
  case round =>
    obtain ⟨j, hj, rfl, hn, hwr⟩ := hrel
    have hwr := hwr.symm
    subst hwr
    by_cases hlt : j < L
    · obtain ⟨y, hy⟩ : ∃ y, ts[j]? = some y := ⟨_, List.getElem?_eq_getElem (by have := HS.out.2; omega)⟩
      obtain ⟨g, o, rfl, y0⟩ := HS.out.1.at hy
      have HJ : Hid (v ∉ ts.take j ∧ ts[j]? = some y) := ⟨hn, hy⟩
      clear hn hy
      by_cases hq : v = y
      · have hq' : (v == y) = true := by simpa using hq
        have HF : Hid (v ∈ ts) := by rw [hq]; exact List.mem_of_getElem? HJ.out.2
        clear hq
        go_wp2
        go_ret
        exact ⟨⟨j, rfl, by rw [memB_true HF.out]; simp⟩, rfl⟩
      · have hq' : (v == y) = false := by simpa using hq
        have HF : Hid (v ∉ ts.take (j + 1)) := by
          show v ∉ ts.take (j + 1)
          rw [List.take_add_one, HJ.out.2]
          intro h
          rcases List.mem_append.1 h with h | h
          · exact HJ.out.1 h
          · simp at h; exact hq h
        clear hq
        go_wp2
        go_roundw
        case rel => exact ⟨j + 1, by omega, by go_num, HF.out, by first | rfl | trivial⟩
        case measure => simp [intOf]; omega
    · obtain rfl : j = L := by omega
      have HH : Hid (v ∉ ts) := by
        rw [List.take_of_length_le (by have := HS.out.2; omega)] at hn
        exact hn
      clear hn
      go_wp2
      go_ret
      exact ⟨⟨-1, rfl, by rw [memB_false HH.out]; rfl⟩, rfl⟩

set_option maxHeartbeats 400000 in
theorem containsI_any (a : Option Addr) (ts : List Int) (c : Nat) (v : Int) (w : World) (hl : ts.length ≤ c ∧ c ≤ maxLen) (hs : SegI w a ts) :
    Calls Try.prog 61 #[.slice a ts.length c, .int .i64 v] w fun e w' => e = .returned (.bool (memB v ts)) ∧ w' = w := by
  have HC : Hid (Calls _ _ _ _ _) := indexI_any a ts c v w hl hs
  obtain ⟨L, hL⟩ : ∃ L, L = ts.length := ⟨_, rfl⟩
  rw [← hL] at HC ⊢
  clear hl hs hL
  go_enter Try.func61, Try.ntmps61
  go_wp2_with fail
  refine HC.out.mono ?_
  rintro r w1 ⟨⟨z, rfl, hz⟩, hw⟩
  obtain rfl := hw.symm
  have HK : Hid (decide (0 ≤ z) = memB v ts) := hz
  clear hz hw HC
  go_wp2
  go_ret
  exact ⟨ret_bool HK.out, rfl⟩

/-- What was answered says whether it is so. -/
def Says (e : Ending) (P : Prop) : Prop := ∃ b, e = .returned (.bool b) ∧ (b = true ↔ P)
theorem says_t {P : Prop} (h : P) : Says (.returned (.bool true)) P := ⟨true, rfl, ⟨fun _ => h, fun _ => rfl⟩⟩
theorem says_f {P : Prop} (h : ¬ P) : Says (.returned (.bool false)) P := ⟨false, rfl, ⟨fun e => (by cases e), fun e => absurd e h⟩⟩

/-- Root and tables are frames of the memory, no two the same. -/
def TabsOk (n : Nat) (root : Int) (ts : List Int) : Prop := ∀ (i : Nat) (t : Int), ts[i]? = some t → (0 ≤ t ∧ t < n) ∧ t ≠ root ∧ t ∉ ts.take i
def Apart (n : Nat) (root : Int) (ts : List Int) : Prop := (0 ≤ root ∧ root < n) ∧ TabsOk n root ts

theorem tabs_step {n : Nat} {root : Int} {ts : List Int} {j : Nat} {y : Int} (h : TabsOk n root (ts.take j)) (hy : ts[j]? = some y) (h1 : 0 ≤ y ∧ y < n) (h2 : y ≠ root) (h3 : y ∉ ts.take j) : TabsOk n root (ts.take (j + 1)) := by
  intro i t hi
  have hjl := (List.getElem?_eq_some_iff.1 hy).1
  rw [List.getElem?_take] at hi
  split at hi
  · rename_i hlt
    by_cases hij : i = j
    · subst hij
      rw [hy] at hi
      obtain rfl := Option.some.inj hi
      refine ⟨h1, h2, ?_⟩
      rw [List.take_take, Nat.min_eq_left (by omega)]; exact h3
    · have := h i t (by rw [List.getElem?_take, if_pos (by omega)]; exact hi)
      rw [List.take_take, Nat.min_eq_left (by omega)] at this
      rw [List.take_take, Nat.min_eq_left (by omega)]; exact this
  · simp at hi
theorem tabs_not {n : Nat} {root : Int} {ts : List Int} {j : Nat} {y : Int} (hy : ts[j]? = some y) (h : ¬ ((0 ≤ y ∧ y < n) ∧ y ≠ root ∧ y ∉ ts.take j)) : ¬ TabsOk n root ts := fun k => h (k j y hy)

set_option maxHeartbeats 2000000 in
theorem apart_any (b g n : Nat) (xs : List UInt32) (root : Int) (a : Option Addr) (ts : List Int) (c : Nat) (w : World) (h : Mn w b g n xs) (hl : ts.length ≤ c ∧ c ≤ maxLen) (hs : SegI w a ts) :
    Calls Try.prog 35 #[.pointer (some ⟨b, 0, none⟩), .int .i64 root, .slice a ts.length c] w fun e w' => Says e (Apart n root ts) ∧ Keeps (fun _ => False) w w' := by
  have H1 := has_any b g n xs root w h
  obtain ⟨L, hL⟩ : ∃ L, L = ts.length := ⟨_, rfl⟩
  have HS : Hid (SegI w a ts ∧ L = ts.length ∧ (L ≤ c ∧ c ≤ maxLen) ∧ Mn w b g n xs) := ⟨hs, hL, by rw [hL]; exact hl, h⟩
  have hc2 : (L : Int) ≤ c := by omega
  have hc3 : (c : Int) ≤ 9223372036854775807 := by unfold maxLen at hl; omega
  rw [← hL]
  clear hl hs hL h
  by_cases hr : 0 ≤ root ∧ root < n
  · rw [inR_true hr.1 hr.2] at H1
    have H1 : Hid (Calls _ _ _ _ _) := H1
    have HR : Hid (0 ≤ root ∧ root < n) := hr
    clear hr
    go_enter Try.func35, Try.ntmps35
    go_wp2_with fail
    refine H1.out.mono ?_
    rintro e w1 ⟨rfl, hw⟩
    obtain rfl := hw.symm
    clear hw
    go_wp2
    go_loopw [15] (fun i wr => ∃ j : Nat, j ≤ L ∧ i = .int .i64 j ∧ TabsOk n root (ts.take j) ∧ wr = w) (fun i _ => L - (intOf i).toNat)
    case atStart => exact ⟨0, by omega, rfl, by intro i t h; simp at h, rfl⟩
    case round =>
      obtain ⟨j, hj, rfl, hp, hwr⟩ := hrel
      have hwr := hwr.symm
      subst hwr
      by_cases hlt : j < L
      · obtain ⟨y, hy⟩ : ∃ y, ts[j]? = some y := ⟨_, List.getElem?_eq_getElem (by have := HS.out.2.1; omega)⟩
        obtain ⟨gi, o, rfl, y0⟩ := HS.out.1.at hy
        have H2 := has_any b g n xs y w HS.out.2.2.2
        have H3 := containsI_any (some ⟨gi, o, none⟩) (ts.take j) c y w ⟨by have := HS.out.2; simp; omega, HS.out.2.2.1.2⟩ (HS.out.1.take j)
        rw [show (ts.take j).length = j by have := HS.out.2.1; simp; omega] at H3
        have HJ : Hid (TabsOk n root (ts.take j) ∧ ts[j]? = some y) := ⟨hp, hy⟩
        have hlt' : (j : Int) < L := by omega
        have hjc : (j : Int) ≤ c := by omega
        clear hp hy
        by_cases h1 : 0 ≤ y ∧ y < n
        · rw [inR_true h1.1 h1.2] at H2
          have H2 : Hid (Calls _ _ _ _ _) := H2
          have HY : Hid (0 ≤ y ∧ y < n) := h1
          clear h1
          by_cases h2 : y = root
          · have h2' : (y == root) = true := by simpa using h2
            have HB : Hid (¬ Apart n root ts) := fun k => tabs_not HJ.out.2 (fun q => q.2.1 h2) k.2
            clear h2 H3
            go_wp2_with fail
            refine H2.out.mono ?_
            rintro e w1 ⟨rfl, hw⟩
            obtain rfl := hw.symm
            clear hw
            go_wp2
            go_ret
            exact ⟨says_f HB.out, Keeps.refl _ _⟩
          · have h2' : (y == root) = false := by simpa using h2
            by_cases h3 : y ∈ ts.take j
            · rw [memB_true h3] at H3
              have H3 : Hid (Calls _ _ _ _ _) := H3
              have HB : Hid (¬ Apart n root ts) := fun k => tabs_not HJ.out.2 (fun q => q.2.2 h3) k.2
              clear h2 h3
              go_wp2_with fail
              refine H2.out.mono ?_
              rintro e w1 ⟨rfl, hw⟩
              obtain rfl := hw.symm
              clear hw
              go_wp2_with fail
              refine H3.out.mono ?_
              rintro e w1 ⟨rfl, hw⟩
              obtain rfl := hw.symm
              clear hw
              go_wp2
              go_ret
              exact ⟨says_f HB.out, Keeps.refl _ _⟩
            · rw [memB_false h3] at H3
              have H3 : Hid (Calls _ _ _ _ _) := H3
              have HP : Hid (TabsOk n root (ts.take (j + 1))) := tabs_step HJ.out.1 HJ.out.2 HY.out h2 h3
              clear h2 h3
              go_wp2_with fail
              refine H2.out.mono ?_
              rintro e w1 ⟨rfl, hw⟩
              obtain rfl := hw.symm
              clear hw
              go_wp2_with fail
              refine H3.out.mono ?_
              rintro e w1 ⟨rfl, hw⟩
              obtain rfl := hw.symm
              clear hw
              go_wp2
              go_roundw
              case rel => exact ⟨j + 1, by omega, by go_num, HP.out, by first | rfl | trivial⟩
              case measure => simp [intOf]; omega
        · rw [inR_false h1] at H2
          have H2 : Hid (Calls _ _ _ _ _) := H2
          have HB : Hid (¬ Apart n root ts) := fun k => tabs_not HJ.out.2 (fun q => h1 q.1) k.2
          clear h1 H3
          go_wp2_with fail
          refine H2.out.mono ?_
          rintro e w1 ⟨rfl, hw⟩
          obtain rfl := hw.symm
          clear hw
          go_wp2
          go_ret
          exact ⟨says_f HB.out, Keeps.refl _ _⟩
      · obtain rfl : j = L := by omega
        have HH : Hid (Apart n root ts) := by
          rw [List.take_of_length_le (by have := HS.out.2.1; omega)] at hp
          exact ⟨HR.out, hp⟩
        clear hp
        go_wp2
        go_ret
        exact ⟨says_t HH.out, Keeps.refl _ _⟩
  · rw [inR_false hr] at H1
    have H1 : Hid (Calls _ _ _ _ _) := H1
    have HB : Hid (¬ Apart n root ts) := fun k => hr k.1
    clear hr
    go_enter Try.func35, Try.ntmps35
    go_wp2_with fail
    refine H1.out.mono ?_
    rintro e w1 ⟨rfl, hw⟩
    obtain rfl := hw.symm
    clear hw
    go_wp2
    go_ret
    exact ⟨says_f HB.out, Keeps.refl _ _⟩

end Go.Proofs.Ytpccdhoaicabcaa
