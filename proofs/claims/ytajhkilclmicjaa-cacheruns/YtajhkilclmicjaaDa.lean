import Derived.Test.YtajhkilclmicjaaOu
import Derived.Test.YtajhkilclmicjaaHo
namespace Go.Proofs.Ytajhkilclmicjaa
open Go.RowKit Go.Shelf
set_option linter.unusedVariables false
set_option linter.unusedSimpArgs false
set_option maxRecDepth 6000

/-- The lines of a set, and the last two of them. -/
def flt (s : Int) (l : List Int) : List Int := l.filter fun x => x.tmod 4 == s
def lastTwo (l : List Int) : List Int := l.drop (l.length - 2)
def hd (s : Int) (l : List Int) : List Int := lastTwo (flt s l)
theorem flt_take {s : Int} {l : List Int} {i : Nat} {x : Int} (h : l[i]? = some x) : flt s (l.take (i + 1)) = if x.tmod 4 == s then flt s (l.take i) ++ [x] else flt s (l.take i) := by
  have e1 : l.take (i + 1) = l.take i ++ [x] := by rw [List.take_add_one, h]; rfl
  rw [e1]
  unfold flt
  rw [List.filter_append]
  cases hx : x.tmod 4 == s with
  | true => simp [hx]
  | false => simp [hx]
theorem flt_le (s : Int) (l : List Int) (i : Nat) : (flt s (l.take i)).length ≤ (flt s l).length := by
  unfold flt
  exact (List.Sublist.filter _ (List.take_sublist i l)).length_le
theorem flt_len (s : Int) (l : List Int) : (flt s l).length ≤ l.length := List.length_filter_le _ _

/-- The document's cache in block b. -/
structure Rc (w : World) (b : Nat) (us : List Int) (u : Value) (F : Nat → Prop) : Prop where
  blk : Blk w b [u] 61
  row : w.ownsRow 0 3 1 u us.length (flat us)
  few : us.length ≤ 64
  fu : ∀ g, u.ownBlock = some g → F g ∧ g ≠ b
  fb : F b
  lt : ∀ k, F k → k < w.heap.size
theorem Rc.kept {S : Nat → Prop} {w w' : World} {b : Nat} {us : List Int} {u : Value} {F : Nat → Prop} (h : Rc w b us u F) (hK : Keeps S w w') (hS : ∀ k, F k → ¬ S k) : Rc w' b us u F :=
  { h with blk := h.blk.kept hK (hS b h.fb), row := owns_kept h.row hK fun k e => hS k (h.fu k e).1, lt := fun k hk => Nat.lt_of_lt_of_le (h.lt k hk) hK.size }

theorem owns_slice {w : World} {v : Value} {n : Nat} {xs : List Value} (h : w.ownsRow 0 3 1 v n xs) : ∃ a cap, v = .slice a n cap ∧ ∀ i x, xs[i]? = some x → ∃ g, a = some ⟨g, 0, none⟩ ∧ w.cell? ⟨g, i, none⟩ = some x := by
  rcases h.2 with ⟨rfl, rfl⟩ | ⟨g, cap, cur, rfl, _⟩
  · refine ⟨none, 0, rfl, fun i x hx => ?_⟩
    have h1 := h.1
    have := (List.getElem?_eq_some_iff.1 hx).1
    omega
  · refine ⟨some ⟨g, 0, none⟩, cap, rfl, fun i x hx => ⟨g, rfl, ?_⟩⟩
    have := h.cells rfl i x hx
    rw [addr_add] at this
    simpa using this

set_option maxHeartbeats 4000000 in
theorem held_any (b : Nat) (us : List Int) (u : Value) (F : Nat → Prop) (s : Int) (w : World) (h : Rc w b us u F) (hus : ∀ x ∈ us, 0 ≤ x) :
    Calls Try.prog 32 #[ptr b, .int .i64 s] w fun r w' => ∃ v, r = .returned v ∧ w'.ownsRow 0 3 1 v (hd s us).length (flat (hd s us)) ∧ (∀ g, v.ownBlock = some g → w.heap.size ≤ g) ∧ Keeps (fun _ => False) w w' := by
  obtain ⟨a, cap, rfl, hc⟩ := owns_slice h.row
  have c0 := h.blk.cell (i := 0) rfl
  obtain ⟨L, eL⟩ : ∃ L, L = us.length := ⟨_, rfl⟩
  obtain ⟨T, eT⟩ : ∃ T, T = (flt s us).length := ⟨_, rfl⟩
  have hTL : T ≤ L := by rw [eT, eL]; exact flt_len s us
  have hlb : (L : Int) ≤ 64 := by have := h.few; omega
  rw [← eL] at c0
  have HC : Hid (∀ i x, (flat us)[i]? = some x → ∃ g, a = some ⟨g, 0, none⟩ ∧ w.cell? ⟨g, i, none⟩ = some x) := hc
  have HL : Hid (L = us.length ∧ T = (flt s us).length ∧ ∀ x ∈ us, 0 ≤ x) := ⟨eL, eT, hus⟩
  have hTb : (T : Int) ≤ 64 := by omega
  have HB : Hid (w.cell? ⟨b, 0, none⟩ = some (.slice a L cap)) := c0
  clear h hc eL eT hus
  go_enter Try.func32, Try.ntmps32
  go_wp2
  go_loopw [5, 14] (fun n i wr => ∃ j : Nat, j ≤ L ∧ i = .int .i64 j ∧ n = .int .i64 ((flt s (us.take j)).length : Nat) ∧ wr = w) (fun _ i _ => L - (intOf i).toNat)
  case atStart => exact ⟨0, by omega, rfl, by simp [flt], rfl⟩
  case round =>
    obtain ⟨j, hj, rfl, rfl, hw⟩ := hrel
    obtain rfl := hw.symm
    clear hw
    by_cases hlt : j < L
    · obtain ⟨x, hx⟩ : ∃ x, us[j]? = some x := ⟨_, List.getElem?_eq_getElem (by have := HL.out.1; omega)⟩
      obtain ⟨g, rfl, hg⟩ := HC.out j _ (flat_get us j x hx)
      have hm : (flt s (us.take j)).length ≤ T := by rw [HL.out.2.1]; exact flt_le s us j
      have hn : (flt s (us.take (j + 1))).length = if x.tmod 4 == s then (flt s (us.take j)).length + 1 else (flt s (us.take j)).length := by
        rw [flt_take hx]; cases x.tmod 4 == s <;> simp
      have HN : Hid ((flt s (us.take (j + 1))).length = if x.tmod 4 == s then (flt s (us.take j)).length + 1 else (flt s (us.take j)).length) := hn
      obtain ⟨m, em⟩ : ∃ m, m = (flt s (us.take j)).length := ⟨_, rfl⟩
      rw [← em] at hm HN ⊢
      have hmb : (m : Int) ≤ 64 := by omega
      have hji : (j : Int) < L := by omega
      have hjb : (j : Int) ≤ 64 := by omega
      clear hx em hn
      by_cases hxs : x.tmod 4 = s
      · have f1 : (x.tmod 4 == s) = true := by simpa using hxs
        rw [f1] at HN
        clear hxs
        go_wp2
        go_roundw
        case rel => exact ⟨j + 1, by omega, by go_num, by rw [HN.out]; go_num, trivial⟩
        case measure => simp [intOf]; omega
      · have f1 : (x.tmod 4 == s) = false := by simpa using hxs
        rw [f1] at HN
        clear hxs
        go_wp2
        go_roundw
        case rel => exact ⟨j + 1, by omega, by go_num, by rw [HN.out]; rfl, trivial⟩
        case measure => simp [intOf]; omega
    · obtain rfl : j = L := by omega
      rw [List.take_of_length_le (by have := HL.out.1; omega), ← HL.out.2.1]
      have hjj : ¬ ((j : Nat) : Int) < (j : Nat) := by omega
      clear hlt hj
      have c0 := HB.out
      go_wp2
      clear c0
      go_loopw [5, 7, 35] (fun n o i wr => ∃ m : Nat, m ≤ j ∧ i = .int .i64 m ∧ n = .int .i64 ((T : Int) - ((flt s (us.take m)).length : Nat)) ∧ wr.ownsRow 0 3 1 o ((flt s (us.take m)).drop (T - 2)).length (flat ((flt s (us.take m)).drop (T - 2))) ∧ (∀ g, o.ownBlock = some g → w.heap.size ≤ g) ∧ Keeps (fun _ => False) w wr) (fun _ _ i _ => j - (intOf i).toNat)
      case atStart => exact ⟨0, by omega, rfl, by simp [flt], ⟨by simp [flt, flat], .inl ⟨rfl, by simp [flt]⟩⟩, fun g e => by simp [Value.ownBlock] at e, Keeps.refl _ _⟩
      case round =>
        obtain ⟨m, hm, rfl, rfl, hO, hN, hK⟩ := hrel
        have c0 := cell_kept HB.out hK fun h => h
        by_cases hlt : m < j
        · obtain ⟨x, hx⟩ : ∃ x, us[m]? = some x := ⟨_, List.getElem?_eq_getElem (by have := HL.out.1; omega)⟩
          obtain ⟨g, rfl, hg0⟩ := HC.out m _ (flat_get us m x hx)
          have hg := cell_kept hg0 hK fun h => h
          have hle : (flt s (us.take m)).length ≤ T := by rw [HL.out.2.1]; exact flt_le s us m
          have hle1 : (flt s (us.take (m + 1))).length ≤ T := by rw [HL.out.2.1]; exact flt_le s us (m + 1)
          have hft := flt_take (s := s) hx
          have hmi : (m : Int) < j := by omega
          have hmb : (m : Int) ≤ 64 := by omega
          by_cases hxs : x.tmod 4 = s
          · have f1 : (x.tmod 4 == s) = true := by simpa using hxs
            have f2 : (x.tmod 4 != s) = false := by simp [hxs]
            rw [f1, if_pos rfl] at hft
            obtain ⟨q, eq⟩ : ∃ q, q = (flt s (us.take m)).length := ⟨_, rfl⟩
            rw [hft, List.length_append, ← eq] at hle1
            simp only [List.length_cons, List.length_nil] at hle1
            by_cases h2 : T - 2 ≤ q
            · have hdrop : (flt s (us.take (m + 1))).drop (T - 2) = (flt s (us.take m)).drop (T - 2) ++ [x] := by rw [hft, List.drop_append_of_le_length (by omega)]
              obtain ⟨v', W', happ, hO', hG⟩ := append_int x u7 _ _ hO (by have := flt_len s (us.take m); simp; omega)
              have HAP : Hid (∀ ty, _) := happ
              have HE : Hid (W'.ownsRow 0 3 1 v' ((flt s (us.take (m + 1))).drop (T - 2)).length (flat ((flt s (us.take (m + 1))).drop (T - 2))) ∧ (∀ g, v'.ownBlock = some g → w.heap.size ≤ g) ∧ Keeps (fun _ => False) w W') := by
                refine ⟨by rw [hdrop, flat_append, List.length_append]; exact hO', fun k e => ?_, hK.trans hG.keeps fun k hk e => by have := hN k e.symm; omega⟩
                rcases hG.fresh with f | ⟨k', f, hk'⟩
                · exact hN k (f ▸ e)
                · rw [f] at e; cases e; have := hK.size; omega
              have hn1 : (flt s (us.take (m + 1))).length = q + 1 := by rw [hft, List.length_append, ← eq]; rfl
              have HN : Hid ((flt s (us.take (m + 1))).length = q + 1) := hn1
              rw [← eq]
              have hcmp : ((T : Int) - (q : Nat)) ≤ 2 := by omega
              have hqb : (q : Int) ≤ 64 := by omega
              clear hO hN hK hx hle hft hxs eq hdrop happ hO' hG hn1 hg0
              go_wp2_with (at_builtin; go_must (refine wpList_append_run rfl (.tmp 50) (.tmp 58) 59 59 rfl u7 (.slice (some ⟨wr.heap.size, 0, none⟩) 1 1) v' W' rfl rfl HAP.out ?_; refine Hid.out ?_))
              unfold Hid
              clear c0 hg
              go_wp2
              go_roundw
              case rel => exact ⟨m + 1, by omega, by go_num, by rw [HN.out]; go_num, HE.out⟩
              case measure => simp [intOf]; omega
            · have hdrop : (flt s (us.take (m + 1))).drop (T - 2) = (flt s (us.take m)).drop (T - 2) := by
                rw [List.drop_of_length_le (by rw [hft, List.length_append, ← eq]; simp; omega), List.drop_of_length_le (by omega)]
              have HE : Hid (wr.ownsRow 0 3 1 u7 ((flt s (us.take (m + 1))).drop (T - 2)).length (flat ((flt s (us.take (m + 1))).drop (T - 2))) ∧ (∀ g, u7.ownBlock = some g → w.heap.size ≤ g) ∧ Keeps (fun _ => False) w wr) := ⟨by rw [hdrop]; exact hO, hN, hK⟩
              have hn1 : (flt s (us.take (m + 1))).length = q + 1 := by rw [hft, List.length_append, ← eq]; rfl
              have HN : Hid ((flt s (us.take (m + 1))).length = q + 1) := hn1
              rw [← eq]
              have hcmp : ¬ ((T : Int) - (q : Nat)) ≤ 2 := by omega
              have hqb : (q : Int) ≤ 64 := by omega
              clear hO hN hK hx hle hft hxs eq hdrop hn1 hg0
              go_wp2
              go_roundw
              case rel => exact ⟨m + 1, by omega, by go_num, by rw [HN.out]; go_num, HE.out⟩
              case measure => simp [intOf]; omega
          · have f1 : (x.tmod 4 == s) = false := by simpa using hxs
            have f2 : (x.tmod 4 != s) = true := by simpa using hxs
            rw [f1, if_neg (by simp)] at hft
            have HE : Hid ((wr.ownsRow 0 3 1 u7 ((flt s (us.take (m + 1))).drop (T - 2)).length (flat ((flt s (us.take (m + 1))).drop (T - 2))) ∧ (∀ g, u7.ownBlock = some g → w.heap.size ≤ g) ∧ Keeps (fun _ => False) w wr) ∧ (flt s (us.take (m + 1))).length = (flt s (us.take m)).length) := ⟨⟨by rw [hft]; exact hO, hN, hK⟩, by rw [hft]⟩
            clear hO hN hK hx hle hle1 hft hxs hg0
            go_wp2
            go_roundw
            case rel => exact ⟨m + 1, by omega, by go_num, by rw [HE.out.2], HE.out.1⟩
            case measure => simp [intOf]; omega
        · obtain rfl : m = j := by omega
          rw [List.take_of_length_le (by have := HL.out.1; omega)] at hO
          have HE : Hid (wr.ownsRow 0 3 1 u7 (hd s us).length (flat (hd s us)) ∧ (∀ g, u7.ownBlock = some g → w.heap.size ≤ g) ∧ Keeps (fun _ => False) w wr) := by
            rw [HL.out.2.1] at hO
            exact ⟨hO, hN, hK⟩
          clear hO hN hK
          go_wp2
          go_ret
          exact ⟨_, rfl, HE.out⟩

end Go.Proofs.Ytajhkilclmicjaa
