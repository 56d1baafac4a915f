import Derived.Test.YtajhkilclmicjaaDa
import Derived.Test.YtajhkilclmicjaaRe
namespace Go.Proofs.Ytajhkilclmicjaa
open Go.RowKit Go.Shelf
set_option linter.unusedVariables false
set_option linter.unusedSimpArgs false
set_option maxRecDepth 6000

theorem among_any (a : Option Addr) (ls : List Int) (cap : Nat) (n : Int) (w : World) (hs : SegI w a ls) (hl : (ls.length : Int) ≤ 2147483647) :
    Calls Try.prog 45 #[.slice a ls.length cap, .int .i64 n] w fun r w' => r = .returned (.bool (decide (n ∈ ls))) ∧ w' = w := by
  obtain ⟨L, eL⟩ : ∃ L, L = ls.length := ⟨_, rfl⟩
  rw [← eL] at hl ⊢
  have HS : Hid (SegI w a ls ∧ L = ls.length) := ⟨hs, eL⟩
  clear hs eL
  go_enter Try.func45, Try.ntmps45
  go_wp2
  go_loopw [8] (fun i wr => ∃ j : Nat, j ≤ L ∧ i = .int .i64 j ∧ wr = w ∧ ∀ m, m < j → ls[m]? ≠ some n) (fun i _ => L - (intOf i).toNat)
  case atStart => exact ⟨0, by omega, rfl, rfl, fun m hm => by omega⟩
  case round =>
    obtain ⟨j, hj, rfl, hw, hall⟩ := hrel
    obtain rfl := hw.symm
    clear hw
    have HA : Hid (∀ m, m < j → ls[m]? ≠ some n) := hall
    by_cases hlt : j < L
    · have hjl : j < ls.length := by have := HS.out.2; omega
      rcases HS.out.1 with h0 | ⟨g, o, rfl, hc⟩
      · rw [h0] at hjl; simp at hjl
      have hg := hc j hjl
      obtain ⟨x, ex⟩ : ∃ x, x = ls[j] := ⟨_, rfl⟩
      rw [← ex] at hg
      have hX : ls[j]? = some x := by rw [List.getElem?_eq_getElem hjl, ex]
      have HX : Hid (ls[j]? = some x) := hX
      have hji : (j : Int) < L := by omega
      have hjb : (j : Int) ≤ 2147483647 := by omega
      clear hall hc hjl ex hX
      by_cases he : x = n
      · subst he
        have f1 : (x == x) = true := by simp
        have hd : Hid (decide (x ∈ ls) = true) := decide_eq_true (List.mem_of_getElem? HX.out)
        go_wp2
        go_ret
        exact ⟨by rw [hd.out]; rfl, rfl⟩
      · have f1 : (x == n) = false := by simpa using he
        go_wp2
        go_roundw
        case rel => exact ⟨j + 1, by omega, by go_num, trivial, fun m hm e => by
          by_cases em : m = j
          · subst em; rw [HX.out] at e; exact he (Option.some.inj e)
          · exact HA.out m (by omega) e⟩
        case measure => simp [intOf]; omega
    · obtain rfl : j = L := by omega
      clear hall
      go_wp2
      go_ret
      have hd : decide (n ∈ ls) = false := decide_eq_false fun hm => by
        obtain ⟨m, hm, e'⟩ := List.mem_iff_getElem.1 hm
        exact HA.out m (by have := HS.out.2; omega) (by rw [List.getElem?_eq_getElem hm, e'])
      exact ⟨by rw [hd]; rfl, rfl⟩

/-- A list without a number. -/
def woN (n : Int) (l : List Int) : List Int := l.filter fun x => x != n
theorem wo_take {n : Int} {l : List Int} {i : Nat} {x : Int} (h : l[i]? = some x) : woN n (l.take (i + 1)) = if x != n then woN n (l.take i) ++ [x] else woN n (l.take i) := by
  have e1 : l.take (i + 1) = l.take i ++ [x] := by rw [List.take_add_one, h]; rfl
  rw [e1]
  unfold woN
  rw [List.filter_append]
  cases hx : x != n with
  | true => simp [hx]
  | false => simp [hx]

set_option maxHeartbeats 4000000 in
theorem wo_any (a : Option Addr) (ls : List Int) (cap : Nat) (n : Int) (w : World) (hs : SegI w a ls) (hl : (ls.length : Int) ≤ 64) :
    Calls Try.prog 44 #[.slice a ls.length cap, .int .i64 n] w fun r w' => ∃ v, r = .returned v ∧ w'.ownsRow 0 3 1 v (woN n ls).length (flat (woN n ls)) ∧ (∀ g, v.ownBlock = some g → w.heap.size ≤ g) ∧ Keeps (fun _ => False) w w' := by
  obtain ⟨L, eL⟩ : ∃ L, L = ls.length := ⟨_, rfl⟩
  rw [← eL] at hl ⊢
  have HS : Hid (SegI w a ls ∧ L = ls.length) := ⟨hs, eL⟩
  clear hs eL
  go_enter Try.func44, Try.ntmps44
  go_wp2
  go_loopw [5, 9] (fun o i wr => ∃ j : Nat, j ≤ L ∧ i = .int .i64 j ∧ wr.ownsRow 0 3 1 o (woN n (ls.take j)).length (flat (woN n (ls.take j))) ∧ (∀ g, o.ownBlock = some g → w.heap.size ≤ g) ∧ Keeps (fun _ => False) w wr) (fun _ i _ => L - (intOf i).toNat)
  case atStart => exact ⟨0, by omega, rfl, ⟨by simp [woN, flat], .inl ⟨rfl, by simp [woN]⟩⟩, fun g e => by simp [Value.ownBlock] at e, Keeps.refl _ _⟩
  case round =>
    obtain ⟨j, hj, rfl, hO, hN, hK⟩ := hrel
    by_cases hlt : j < L
    · have hjl : j < ls.length := by have := HS.out.2; omega
      rcases HS.out.1 with h0 | ⟨g, o, rfl, hc⟩
      · rw [h0] at hjl; simp at hjl
      have hg := cell_kept (hc j hjl) hK fun h => h
      obtain ⟨x, ex⟩ : ∃ x, x = ls[j] := ⟨_, rfl⟩
      rw [← ex] at hg
      have hx : ls[j]? = some x := by rw [List.getElem?_eq_getElem hjl, ex]
      have hw := wo_take (n := n) hx
      have hji : (j : Int) < L := by omega
      have hjb : (j : Int) ≤ 64 := by omega
      by_cases he : x = n
      · have f1 : (x != n) = false := by simp [he]
        rw [f1, if_neg (by simp)] at hw
        have HE : Hid (wr.ownsRow 0 3 1 u5 (woN n (ls.take (j + 1))).length (flat (woN n (ls.take (j + 1)))) ∧ (∀ g, u5.ownBlock = some g → w.heap.size ≤ g) ∧ Keeps (fun _ => False) w wr) := ⟨by rw [hw]; exact hO, hN, hK⟩
        clear hO hN hK hx hw hc hjl ex he
        go_wp2
        go_roundw
        case rel => exact ⟨j + 1, by omega, by go_num, HE.out⟩
        case measure => simp [intOf]; omega
      · have f1 : (x != n) = true := by simpa using he
        rw [f1, if_pos rfl] at hw
        obtain ⟨v', W', happ, hO', hG⟩ := append_int x u5 _ _ hO (by have := List.length_filter_le (fun y => y != n) (ls.take j); simp [woN] at this ⊢; omega)
        have HAP : Hid (∀ ty, _) := happ
        have HE : Hid (W'.ownsRow 0 3 1 v' (woN n (ls.take (j + 1))).length (flat (woN n (ls.take (j + 1)))) ∧ (∀ g, v'.ownBlock = some g → w.heap.size ≤ g) ∧ Keeps (fun _ => False) w W') := by
          refine ⟨by rw [hw, flat_append, List.length_append]; exact hO', fun k e => ?_, hK.trans hG.keeps fun k hk e => by have := hN k e.symm; omega⟩
          rcases hG.fresh with f | ⟨k', f, hk'⟩
          · exact hN k (f ▸ e)
          · rw [f] at e; cases e; have := hK.size; omega
        clear hO hN hK hx hw hc hjl ex he happ hO' hG
        go_wp2_with (at_builtin; go_must (refine wpList_append_run rfl (.tmp 18) (.tmp 23) 59 59 rfl u5 (.slice (some ⟨wr.heap.size, 0, none⟩) 1 1) v' W' rfl rfl HAP.out ?_; refine Hid.out ?_))
        unfold Hid
        clear hg
        go_wp2
        go_roundw
        case rel => exact ⟨j + 1, by omega, by go_num, HE.out⟩
        case measure => simp [intOf]; omega
    · obtain rfl : j = L := by omega
      rw [List.take_of_length_le (by have := HS.out.2; omega)] at hO
      have HE : Hid (wr.ownsRow 0 3 1 u5 (woN n ls).length (flat (woN n ls)) ∧ (∀ g, u5.ownBlock = some g → w.heap.size ≤ g) ∧ Keeps (fun _ => False) w wr) := ⟨hO, hN, hK⟩
      clear hO hN hK
      go_wp2
      go_ret
      exact ⟨_, rfl, HE.out⟩

theorem isWord_any (z : Int) (w : World) : Calls Try.prog 43 #[.int .i64 z] w fun r w' => r = .returned (.bool (decide (0 ≤ z ∧ z < 16384))) ∧ w' = w := by
  by_cases h1 : 0 ≤ z
  · by_cases h2 : z < 16384
    · rw [decide_eq_true ⟨h1, h2⟩]
      go_enter Try.func43, Try.ntmps43
      go_wp2
      go_ret
      exact ⟨rfl, rfl⟩
    · rw [decide_eq_false fun h => h2 h.2]
      go_enter Try.func43, Try.ntmps43
      go_wp2
      go_ret
      exact ⟨rfl, rfl⟩
  · rw [decide_eq_false fun h => h1 h.1]
    go_enter Try.func43, Try.ntmps43
    go_wp2
    go_ret
    exact ⟨rfl, rfl⟩

end Go.Proofs.Ytajhkilclmicjaa
