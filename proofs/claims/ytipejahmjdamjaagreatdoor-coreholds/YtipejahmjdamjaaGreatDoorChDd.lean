import Derived.Test.YtipejahmjdamjaaGreatDoorChOu
import Derived.Test.YtipejahmjdamjaaGreatDoorChHo
namespace Go.Proofs.YtipejahmjdamjaaGreatDoor.Ch
open Go.RowKit Go.Shelf
set_option linter.unusedVariables false
set_option maxRecDepth 6000
set_option linter.unusedSimpArgs false
set_option maxRecDepth 6000

/-- The lines of a set, and the last two of them. -/
def flt (s : Int) (l : List Int) : List Int := l.filter fun x => x.tmod 4 == s
def lastTwo (l : List Int) : List Int := l.drop (l.length - 2)
def hd (s : Int) (l : List Int) : List Int := lastTwo (flt s l)
theorem flt_take {s : Int} {l : List Int} {i : Nat} {x : Int} (h : l[i]? = some x) : flt s (l.take (i + 1)) = if x.tmod 4 == s then flt s (l.take i) ++ [x] else flt s (l.take i) := by
  have e1 : l.take (i + 1) = l.take i ++ [x] := by rw [List.take_add_one, h]; rfl
  rw [e1]
  unfold flt
  rw [List.filter_append]
  cases hx : x.tmod 4 == s with
  | true => simp [hx]
  | false => simp [hx]
theorem flt_le (s : Int) (l : List Int) (i : Nat) : (flt s (l.take i)).length ≤ (flt s l).length := by
  unfold flt
  exact (List.Sublist.filter _ (List.take_sublist i l)).length_le
theorem flt_len (s : Int) (l : List Int) : (flt s l).length ≤ l.length := List.length_filter_le _ _

/-- The document's cache in block b. -/
structure Rc (w : World) (b : Nat) (us : List Int) (u : Value) (F : Nat → Prop) : Prop where
  blk : Blk w b [u] 135
  row : w.ownsRow 0 3 1 u us.length (flat us)
  few : us.length ≤ 64
  fu : ∀ g, u.ownBlock = some g → F g ∧ g ≠ b
  fb : F b
  lt : ∀ k, F k → k < w.heap.size
theorem Rc.kept {S : Nat → Prop} {w w' : World} {b : Nat} {us : List Int} {u : Value} {F : Nat → Prop} (h : Rc w b us u F) (hK : Keeps S w w') (hS : ∀ k, F k → ¬ S k) : Rc w' b us u F :=
  { h with blk := h.blk.kept hK (hS b h.fb), row := owns_kept h.row hK fun k e => hS k (h.fu k e).1, lt := fun k hk => Nat.lt_of_lt_of_le (h.lt k hk) hK.size }

theorem owns_slice {w : World} {v : Value} {n : Nat} {xs : List Value} (h : w.ownsRow 0 3 1 v n xs) : ∃ a cap, v = .slice a n cap ∧ ∀ i x, xs[i]? = some x → ∃ g, a = some ⟨g, 0, none⟩ ∧ w.cell? ⟨g, i, none⟩ = some x := by
  rcases h.2 with ⟨rfl, rfl⟩ | ⟨g, cap, cur, rfl, _⟩
  · refine ⟨none, 0, rfl, fun i x hx => ?_⟩
    have h1 := h.1
    have := (List.getElem?_eq_some_iff.1 hx).1
    omega
  · refine ⟨some ⟨g, 0, none⟩, cap, rfl, fun i x hx => ⟨g, rfl, ?_⟩⟩
    have := h.cells rfl i x hx
    rw [addr_add] at this
    simpa using this

set_option maxHeartbeats 4000000 in
theorem held_any (b : Nat) (us : List Int) (u : Value) (F : Nat → Prop) (s : Int) (w : World) (h : Rc w b us u F) (hus : ∀ x ∈ us, 0 ≤ x) :
    Calls Tryz.prog 115 #[ptr b, .int .i64 s] w fun r w' => ∃ v, r = .returned v ∧ w'.ownsRow 0 3 1 v (hd s us).length (flat (hd s us)) ∧ (∀ g, v.ownBlock = some g → w.heap.size ≤ g) ∧ Keeps (fun _ => False) w w' := by
  obtain ⟨a, cap, rfl, hc⟩ := owns_slice h.row
  have c0 := h.blk.cell (i := 0) rfl
  obtain ⟨L, eL⟩ : ∃ L, L = us.length := ⟨_, rfl⟩
  obtain ⟨T, eT⟩ : ∃ T, T = (flt s us).length := ⟨_, rfl⟩
  have hTL : T ≤ L := by rw [eT, eL]; exact flt_len s us
  have hlb : (L : Int) ≤ 64 := by have := h.few; omega
  rw [← eL] at c0
  have HC : Hid (∀ i x, (flat us)[i]? = some x → ∃ g, a = some ⟨g, 0, none⟩ ∧ w.cell? ⟨g, i, none⟩ = some x) := hc
  have HL : Hid (L = us.length ∧ T = (flt s us).length ∧ ∀ x ∈ us, 0 ≤ x) := ⟨eL, eT, hus⟩
  have hTb : (T : Int) ≤ 64 := by omega
  have HB : Hid (w.cell? ⟨b, 0, none⟩ = some (.slice a L cap)) := c0
  clear h hc eL eT hus
  go_enter Tryz.func115, Tryz.ntmps115
  go_wp2
  go_loopw [5, 14] (fun n i wr => ∃ j : Nat, j ≤ L ∧ i = .int .i64 j ∧ n = .int .i64 ((flt s (us.take j)).length : Nat) ∧ wr = w) (fun _ i _ => L - (intOf i).toNat)
  case atStart => exact ⟨0, by omega, rfl, by simp [flt], rfl⟩
  case round =>
    obtain ⟨j, hj, rfl, rfl, hw⟩ := hrel
    obtain rfl := hw.symm
    clear hw
    by_cases hlt : j < L
    · obtain ⟨x, hx⟩ : ∃ x, us[j]? = some x := ⟨_, List.getElem?_eq_getElem (by have := HL.out.1; omega)⟩
      obtain ⟨g, rfl, hg⟩ := HC.out j _ (flat_get us j x hx)
      have hm : (flt s (us.take j)).length ≤ T := by rw [HL.out.2.1]; exact flt_le s us j
      have hn : (flt s (us.take (j + 1))).length = if x.tmod 4 == s then (flt s (us.take j)).length + 1 else (flt s (us.take j)).length := by
        rw [flt_take hx]; cases x.tmod 4 == s <;> simp
      have HN : Hid ((flt s (us.take (j + 1))).length = if x.tmod 4 == s then (flt s (us.take j)).length + 1 else (flt s (us.take j)).length) := hn
      obtain ⟨m, em⟩ : ∃ m, m = (flt s (us.take j)).length := ⟨_, rfl⟩
      rw [← em] at hm HN ⊢
      have hmb : (m : Int) ≤ 64 := by omega
      have hji : (j : Int) < L := by omega
      have hjb : (j : Int) ≤ 64 := by omega
      clear hx em hn
      by_cases hxs : x.tmod 4 = s
      · have f1 : (x.tmod 4 == s) = true := by simpa using hxs
        rw [f1] at HN
        clear hxs
        go_wp2
        go_roundw
        case rel => exact ⟨j + 1, by omega, by go_num, by rw [HN.out]; go_num, trivial⟩
        case measure => simp [intOf]; omega
      · have f1 : (x.tmod 4 == s) = false := by simpa using hxs
        rw [f1] at HN
        clear hxs
        go_wp2
        go_roundw
        case rel => exact ⟨j + 1, by omega, by go_num, by rw [HN.out]; rfl, trivial⟩
        case measure => simp [intOf]; omega
    · obtain rfl : j = L := by omega
      rw [List.take_of_length_le (by have := HL.out.1; omega), ← HL.out.2.1]
      have hjj : ¬ ((j : Nat) : Int) < (j : Nat) := by omega
      clear hlt hj
      have c0 := HB.out
      go_wp2
      clear c0
      go_loopw [5, 7, 35] (fun n o i wr => ∃ m : Nat, m ≤ j ∧ i = .int .i64 m ∧ n = .int .i64 ((T : Int) - ((flt s (us.take m)).length : Nat)) ∧ wr.ownsRow 0 3 1 o ((flt s (us.take m)).drop (T - 2)).length (flat ((flt s (us.take m)).drop (T - 2))) ∧ (∀ g, o.ownBlock = some g → w.heap.size ≤ g) ∧ Keeps (fun _ => False) w wr) (fun _ _ i _ => j - (intOf i).toNat)
      case atStart => exact ⟨0, by omega, rfl, by simp [flt], ⟨by simp [flt, flat], .inl ⟨rfl, by simp [flt]⟩⟩, fun g e => by simp [Value.ownBlock] at e, Keeps.refl _ _⟩
      case round =>
        obtain ⟨m, hm, rfl, rfl, hO, hN, hK⟩ := hrel
        have c0 := cell_kept HB.out hK fun h => h
        by_cases hlt : m < j
        · obtain ⟨x, hx⟩ : ∃ x, us[m]? = some x := ⟨_, List.getElem?_eq_getElem (by have := HL.out.1; omega)⟩
          obtain ⟨g, rfl, hg0⟩ := HC.out m _ (flat_get us m x hx)
          have hg := cell_kept hg0 hK fun h => h
          have hle : (flt s (us.take m)).length ≤ T := by rw [HL.out.2.1]; exact flt_le s us m
          have hle1 : (flt s (us.take (m + 1))).length ≤ T := by rw [HL.out.2.1]; exact flt_le s us (m + 1)
          have hft := flt_take (s := s) hx
          have hmi : (m : Int) < j := by omega
          have hmb : (m : Int) ≤ 64 := by omega
          by_cases hxs : x.tmod 4 = s
          · have f1 : (x.tmod 4 == s) = true := by simpa using hxs
            have f2 : (x.tmod 4 != s) = false := by simp [hxs]
            rw [f1, if_pos rfl] at hft
            obtain ⟨q, eq⟩ : ∃ q, q = (flt s (us.take m)).length := ⟨_, rfl⟩
            rw [hft, List.length_append, ← eq] at hle1
            simp only [List.length_cons, List.length_nil] at hle1
            by_cases h2 : T - 2 ≤ q
            · have hdrop : (flt s (us.take (m + 1))).drop (T - 2) = (flt s (us.take m)).drop (T - 2) ++ [x] := by rw [hft, List.drop_append_of_le_length (by omega)]
              obtain ⟨v', W', happ, hO', hG⟩ := append_int x u7 _ _ hO (by have := flt_len s (us.take m); simp; omega)
              have HAP : Hid (∀ ty, _) := happ
              have HE : Hid (W'.ownsRow 0 3 1 v' ((flt s (us.take (m + 1))).drop (T - 2)).length (flat ((flt s (us.take (m + 1))).drop (T - 2))) ∧ (∀ g, v'.ownBlock = some g → w.heap.size ≤ g) ∧ Keeps (fun _ => False) w W') := by
                refine ⟨by rw [hdrop, flat_append, List.length_append]; exact hO', fun k e => ?_, hK.trans hG.keeps fun k hk e => by have := hN k e.symm; omega⟩
                rcases hG.fresh with f | ⟨k', f, hk'⟩
                · exact hN k (f ▸ e)
                · rw [f] at e; cases e; have := hK.size; omega
              have hn1 : (flt s (us.take (m + 1))).length = q + 1 := by rw [hft, List.length_append, ← eq]; rfl
              have HN : Hid ((flt s (us.take (m + 1))).length = q + 1) := hn1
              rw [← eq]
              have hcmp : ((T : Int) - (q : Nat)) ≤ 2 := by omega
              have hqb : (q : Int) ≤ 64 := by omega
              clear hO hN hK hx hle hft hxs eq hdrop happ hO' hG hn1 hg0
              go_wp2_with (at_builtin; go_must (refine wpList_append_run rfl (.tmp 50) (.tmp 58) 99 99 rfl u7 (.slice (some ⟨wr.heap.size, 0, none⟩) 1 1) v' W' rfl rfl HAP.out ?_; refine Hid.out ?_))
              unfold Hid
              clear c0 hg
              go_wp2
              go_roundw
              case rel => exact ⟨m + 1, by omega, by go_num, by rw [HN.out]; go_num, HE.out⟩
              case measure => simp [intOf]; omega
            · have hdrop : (flt s (us.take (m + 1))).drop (T - 2) = (flt s (us.take m)).drop (T - 2) := by
                rw [List.drop_of_length_le (by rw [hft, List.length_append, ← eq]; simp; omega), List.drop_of_length_le (by omega)]
              have HE : Hid (wr.ownsRow 0 3 1 u7 ((flt s (us.take (m + 1))).drop (T - 2)).length (flat ((flt s (us.take (m + 1))).drop (T - 2))) ∧ (∀ g, u7.ownBlock = some g → w.heap.size ≤ g) ∧ Keeps (fun _ => False) w wr) := ⟨by rw [hdrop]; exact hO, hN, hK⟩
              have hn1 : (flt s (us.take (m + 1))).length = q + 1 := by rw [hft, List.length_append, ← eq]; rfl
              have HN : Hid ((flt s (us.take (m + 1))).length = q + 1) := hn1
              rw [← eq]
              have hcmp : ¬ ((T : Int) - (q : Nat)) ≤ 2 := by omega
              have hqb : (q : Int) ≤ 64 := by omega
              clear hO hN hK hx hle hft hxs eq hdrop hn1 hg0
              go_wp2
              go_roundw
              case rel => exact ⟨m + 1, by omega, by go_num, by rw [HN.out]; go_num, HE.out⟩
              case measure => simp [intOf]; omega
          · have f1 : (x.tmod 4 == s) = false := by simpa using hxs
            have f2 : (x.tmod 4 != s) = true := by simpa using hxs
            rw [f1, if_neg (by simp)] at hft
            have HE : Hid ((wr.ownsRow 0 3 1 u7 ((flt s (us.take (m + 1))).drop (T - 2)).length (flat ((flt s (us.take (m + 1))).drop (T - 2))) ∧ (∀ g, u7.ownBlock = some g → w.heap.size ≤ g) ∧ Keeps (fun _ => False) w wr) ∧ (flt s (us.take (m + 1))).length = (flt s (us.take m)).length) := ⟨⟨by rw [hft]; exact hO, hN, hK⟩, by rw [hft]⟩
            clear hO hN hK hx hle hle1 hft hxs hg0
            go_wp2
            go_roundw
            case rel => exact ⟨m + 1, by omega, by go_num, by rw [HE.out.2], HE.out.1⟩
            case measure => simp [intOf]; omega
        · obtain rfl : m = j := by omega
          rw [List.take_of_length_le (by have := HL.out.1; omega)] at hO
          have HE : Hid (wr.ownsRow 0 3 1 u7 (hd s us).length (flat (hd s us)) ∧ (∀ g, u7.ownBlock = some g → w.heap.size ≤ g) ∧ Keeps (fun _ => False) w wr) := by
            rw [HL.out.2.1] at hO
            exact ⟨hO, hN, hK⟩
          clear hO hN hK
          go_wp2
          go_ret
          exact ⟨_, rfl, HE.out⟩

end Go.Proofs.YtipejahmjdamjaaGreatDoor.Ch
namespace Go.Proofs.YtipejahmjdamjaaGreatDoor.Ch
open Go.RowKit Go.Shelf
set_option linter.unusedVariables false
set_option maxRecDepth 6000

/-- These numbers can be read at this address. -/
def SegI (w : World) (a : Option Addr) (ws : List Int) : Prop :=
  ws = [] ∨ ∃ g o, a = some ⟨g, o, none⟩ ∧ ∀ j, (h : j < ws.length) → w.cell? ⟨g, o + j, none⟩ = some (.int .i64 (ws[j]))

theorem SegI.kept {S : Nat → Prop} {w w' : World} {a : Option Addr} {ws : List Int} (h : SegI w a ws) (hK : Keeps S w w') (hn : ∀ x, a = some x → ¬ S x.block) : SegI w' a ws := by
  rcases h with h | ⟨g, o, ha, hc⟩
  · exact .inl h
  · exact .inr ⟨g, o, ha, fun j hj => cell_kept (hc j hj) hK (show ¬ S g from hn _ ha)⟩

/-- Four lists that can be read. -/
structure Lst (w : World) (G : Nat) (vs : Nat → Value) (ls : Nat → List Int) : Prop where
  cell : ∀ i, i < 4 → w.cell? ⟨G, i, none⟩ = some (vs i)
  seg : ∀ i, i < 4 → ∃ a c, vs i = .slice a (ls i).length c ∧ SegI w a (ls i) ∧ (ls i).length ≤ c

theorem owns_seg {w : World} {v : Value} {n : Nat} {ws : List Int} (h : w.ownsRow 0 3 1 v n (flat ws)) : ∃ a c, v = .slice a ws.length c ∧ SegI w a ws ∧ (∀ x, a = some x → v.ownBlock = some x.block) ∧ ws.length ≤ c := by
  have hn : n = ws.length := by have := h.1; rw [flat_length] at this; omega
  rcases h.2 with ⟨rfl, h0⟩ | ⟨g, cap, cur, rfl, _, _, h5, _⟩
  · refine ⟨none, 0, ?_, .inl (List.eq_nil_of_length_eq_zero (by omega)), fun x hx => (by cases hx), by omega⟩
    rw [← hn, h0]
  · refine ⟨some ⟨g, 0, none⟩, cap, by rw [hn], .inr ⟨g, 0, rfl, fun j hj => ?_⟩, fun x hx => (by cases hx; rfl), by omega⟩
    have := h.cells (g := g) rfl j (.int .i64 (ws[j])) (by simp [flat, hj])
    rw [addr_add] at this
    exact this
theorem Four.lst {w : World} {G : Nat} {vs : Nat → Value} {ls : Nat → List Int} {D : Nat → Prop} (h : Four w G vs ls D) : Lst w G vs ls :=
  ⟨fun i hi => h.blk.cell (four_get vs hi), fun i hi => by obtain ⟨a, c, h1, h2, _, h3⟩ := owns_seg (h.row i hi); exact ⟨a, c, h1, h2, h3⟩⟩
theorem Lst.kept {w w' : World} {G : Nat} {vs : Nat → Value} {ls : Nat → List Int} (h : Lst w G vs ls) (hK : Keeps (fun _ => False) w w') : Lst w' G vs ls :=
  ⟨fun i hi => cell_kept (h.cell i hi) hK fun h => h, fun i hi => by obtain ⟨a, c, h1, h2, h3⟩ := h.seg i hi; exact ⟨a, c, h1, h2.kept hK fun _ _ h => h, h3⟩⟩

theorem isLine_in (z : Int) (w : World) (h0 : 0 ≤ z) (h1 : z < 4096) : Calls Tryz.prog 162 #[.int .i64 z] w fun r w' => r = .returned (.bool true) ∧ w' = w := by
  go_enter Tryz.func162, Tryz.ntmps162
  go_wp2
  go_ret
  exact ⟨rfl, rfl⟩

theorem setOf_z (z : Int) (k : Nat) (w : World) (h0 : 0 ≤ z) (hk : z % 4 = k) : Calls Tryz.prog 163 #[.int .i64 z] w fun r w' => r = .returned (.int .i64 (k : Int)) ∧ w' = w := by
  obtain ⟨l, rfl⟩ : ∃ l : Nat, z = l := ⟨z.toNat, by omega⟩
  refine (setOf_in l w).mono ?_
  rintro r w' ⟨rfl, rfl⟩
  exact ⟨by rw [show ((l % 4 : Nat) : Int) = (k : Int) by omega], rfl⟩

set_option maxHeartbeats 1000000 in
theorem index_out (a : Option Addr) (n c : Nat) (ws : List Int) (k : Int) (w : World) (hs : SegI w a ws) (hn : n = ws.length) (hl : (n : Int) ≤ 4) (hk : k ∉ ws) :
    Calls Tryz.prog 196 #[.slice a n c, .int .i64 k] w fun e w' => e = .returned (.int .i64 (-1)) ∧ w' = w := by
  have HS : Hid (SegI w a ws ∧ n = ws.length ∧ k ∉ ws) := ⟨hs, hn, hk⟩
  clear hs hn hk
  go_enter Tryz.func196, Tryz.ntmps196
  go_wp2
  go_loopw [8] (fun i wr => ∃ j : Nat, j ≤ n ∧ i = .int .i64 j ∧ wr = w) (fun i _ => n - (intOf i).toNat)
  case atStart => exact ⟨0, by omega, rfl, rfl⟩
  case round =>
    obtain ⟨j, hj, rfl, rfl⟩ := hrel
    by_cases hlt : j < n
    · have hju : j < ws.length := by have := HS.out.2; omega
      rcases HS.out.1 with h0 | ⟨b, o, rfl, hcell⟩
      · exact absurd hju (by rw [h0]; simp)
      · have cu := hcell j hju
        have hx : ws[j]'hju ≠ k := fun e => HS.out.2.2 (e ▸ List.getElem_mem hju)
        obtain ⟨x, hxx⟩ : ∃ x, x = ws[j]'hju := ⟨_, rfl⟩
        rw [← hxx] at cu hx
        have he : (k == x) = false := by simp; exact fun e => hx e.symm
        clear hju hcell hxx hx
        go_wp2
        go_roundw
        case rel => exact ⟨j + 1, by omega, by go_num, trivial⟩
        case measure => simp [intOf]; omega
    · obtain rfl : j = n := by omega
      go_wp2
      go_ret
      exact ⟨rfl, rfl⟩

theorem contains_out (a : Option Addr) (n c : Nat) (ws : List Int) (k : Int) (w : World) (hs : SegI w a ws) (hn : n = ws.length) (hl : (n : Int) ≤ 4) (hk : k ∉ ws) :
    Calls Tryz.prog 164 #[.slice a n c, .int .i64 k] w fun e w' => e = .returned (.bool false) ∧ w' = w := by
  have H : Hid (Calls _ _ _ _ _) := index_out a n c ws k w hs hn hl hk
  clear hs hn hk
  go_enter Tryz.func164, Tryz.ntmps164
  go_wp2_with fail
  refine H.out.mono ?_
  rintro e w1 ⟨rfl, rfl⟩
  clear H
  go_wp2
  go_ret
  exact ⟨rfl, rfl⟩

end Go.Proofs.YtipejahmjdamjaaGreatDoor.Ch
namespace Go.Proofs.YtipejahmjdamjaaGreatDoor.Ch
open Go.RowKit Go.Shelf
set_option linter.unusedVariables false
set_option maxRecDepth 6000
set_option linter.unusedSimpArgs false
set_option maxRecDepth 6000

theorem among_any (a : Option Addr) (ls : List Int) (cap : Nat) (n : Int) (w : World) (hs : SegI w a ls) (hl : (ls.length : Int) ≤ 2147483647) :
    Calls Tryz.prog 125 #[.slice a ls.length cap, .int .i64 n] w fun r w' => r = .returned (.bool (decide (n ∈ ls))) ∧ w' = w := by
  obtain ⟨L, eL⟩ : ∃ L, L = ls.length := ⟨_, rfl⟩
  rw [← eL] at hl ⊢
  have HS : Hid (SegI w a ls ∧ L = ls.length) := ⟨hs, eL⟩
  clear hs eL
  go_enter Tryz.func125, Tryz.ntmps125
  go_wp2
  go_loopw [8] (fun i wr => ∃ j : Nat, j ≤ L ∧ i = .int .i64 j ∧ wr = w ∧ ∀ m, m < j → ls[m]? ≠ some n) (fun i _ => L - (intOf i).toNat)
  case atStart => exact ⟨0, by omega, rfl, rfl, fun m hm => by omega⟩
  case round =>
    obtain ⟨j, hj, rfl, hw, hall⟩ := hrel
    obtain rfl := hw.symm
    clear hw
    have HA : Hid (∀ m, m < j → ls[m]? ≠ some n) := hall
    by_cases hlt : j < L
    · have hjl : j < ls.length := by have := HS.out.2; omega
      rcases HS.out.1 with h0 | ⟨g, o, rfl, hc⟩
      · rw [h0] at hjl; simp at hjl
      have hg := hc j hjl
      obtain ⟨x, ex⟩ : ∃ x, x = ls[j] := ⟨_, rfl⟩
      rw [← ex] at hg
      have hX : ls[j]? = some x := by rw [List.getElem?_eq_getElem hjl, ex]
      have HX : Hid (ls[j]? = some x) := hX
      have hji : (j : Int) < L := by omega
      have hjb : (j : Int) ≤ 2147483647 := by omega
      clear hall hc hjl ex hX
      by_cases he : x = n
      · subst he
        have f1 : (x == x) = true := by simp
        have hd : Hid (decide (x ∈ ls) = true) := decide_eq_true (List.mem_of_getElem? HX.out)
        go_wp2
        go_ret
        exact ⟨by rw [hd.out]; rfl, rfl⟩
      · have f1 : (x == n) = false := by simpa using he
        go_wp2
        go_roundw
        case rel => exact ⟨j + 1, by omega, by go_num, trivial, fun m hm e => by
          by_cases em : m = j
          · subst em; rw [HX.out] at e; exact he (Option.some.inj e)
          · exact HA.out m (by omega) e⟩
        case measure => simp [intOf]; omega
    · obtain rfl : j = L := by omega
      clear hall
      go_wp2
      go_ret
      have hd : decide (n ∈ ls) = false := decide_eq_false fun hm => by
        obtain ⟨m, hm, e'⟩ := List.mem_iff_getElem.1 hm
        exact HA.out m (by have := HS.out.2; omega) (by rw [List.getElem?_eq_getElem hm, e'])
      exact ⟨by rw [hd]; rfl, rfl⟩

/-- A list without a number. -/
def woN (n : Int) (l : List Int) : List Int := l.filter fun x => x != n
theorem wo_take {n : Int} {l : List Int} {i : Nat} {x : Int} (h : l[i]? = some x) : woN n (l.take (i + 1)) = if x != n then woN n (l.take i) ++ [x] else woN n (l.take i) := by
  have e1 : l.take (i + 1) = l.take i ++ [x] := by rw [List.take_add_one, h]; rfl
  rw [e1]
  unfold woN
  rw [List.filter_append]
  cases hx : x != n with
  | true => simp [hx]
  | false => simp [hx]

set_option maxHeartbeats 4000000 in
theorem wo_any (a : Option Addr) (ls : List Int) (cap : Nat) (n : Int) (w : World) (hs : SegI w a ls) (hl : (ls.length : Int) ≤ 64) :
    Calls Tryz.prog 153 #[.slice a ls.length cap, .int .i64 n] w fun r w' => ∃ v, r = .returned v ∧ w'.ownsRow 0 3 1 v (woN n ls).length (flat (woN n ls)) ∧ (∀ g, v.ownBlock = some g → w.heap.size ≤ g) ∧ Keeps (fun _ => False) w w' := by
  obtain ⟨L, eL⟩ : ∃ L, L = ls.length := ⟨_, rfl⟩
  rw [← eL] at hl ⊢
  have HS : Hid (SegI w a ls ∧ L = ls.length) := ⟨hs, eL⟩
  clear hs eL
  go_enter Tryz.func153, Tryz.ntmps153
  go_wp2
  go_loopw [5, 9] (fun o i wr => ∃ j : Nat, j ≤ L ∧ i = .int .i64 j ∧ wr.ownsRow 0 3 1 o (woN n (ls.take j)).length (flat (woN n (ls.take j))) ∧ (∀ g, o.ownBlock = some g → w.heap.size ≤ g) ∧ Keeps (fun _ => False) w wr) (fun _ i _ => L - (intOf i).toNat)
  case atStart => exact ⟨0, by omega, rfl, ⟨by simp [woN, flat], .inl ⟨rfl, by simp [woN]⟩⟩, fun g e => by simp [Value.ownBlock] at e, Keeps.refl _ _⟩
  case round =>
    obtain ⟨j, hj, rfl, hO, hN, hK⟩ := hrel
    by_cases hlt : j < L
    · have hjl : j < ls.length := by have := HS.out.2; omega
      rcases HS.out.1 with h0 | ⟨g, o, rfl, hc⟩
      · rw [h0] at hjl; simp at hjl
      have hg := cell_kept (hc j hjl) hK fun h => h
      obtain ⟨x, ex⟩ : ∃ x, x = ls[j] := ⟨_, rfl⟩
      rw [← ex] at hg
      have hx : ls[j]? = some x := by rw [List.getElem?_eq_getElem hjl, ex]
      have hw := wo_take (n := n) hx
      have hji : (j : Int) < L := by omega
      have hjb : (j : Int) ≤ 64 := by omega
      by_cases he : x = n
      · have f1 : (x != n) = false := by simp [he]
        rw [f1, if_neg (by simp)] at hw
        have HE : Hid (wr.ownsRow 0 3 1 u5 (woN n (ls.take (j + 1))).length (flat (woN n (ls.take (j + 1)))) ∧ (∀ g, u5.ownBlock = some g → w.heap.size ≤ g) ∧ Keeps (fun _ => False) w wr) := ⟨by rw [hw]; exact hO, hN, hK⟩
        clear hO hN hK hx hw hc hjl ex he
        go_wp2
        go_roundw
        case rel => exact ⟨j + 1, by omega, by go_num, HE.out⟩
        case measure => simp [intOf]; omega
      · have f1 : (x != n) = true := by simpa using he
        rw [f1, if_pos rfl] at hw
        obtain ⟨v', W', happ, hO', hG⟩ := append_int x u5 _ _ hO (by have := List.length_filter_le (fun y => y != n) (ls.take j); simp [woN] at this ⊢; omega)
        have HAP : Hid (∀ ty, _) := happ
        have HE : Hid (W'.ownsRow 0 3 1 v' (woN n (ls.take (j + 1))).length (flat (woN n (ls.take (j + 1)))) ∧ (∀ g, v'.ownBlock = some g → w.heap.size ≤ g) ∧ Keeps (fun _ => False) w W') := by
          refine ⟨by rw [hw, flat_append, List.length_append]; exact hO', fun k e => ?_, hK.trans hG.keeps fun k hk e => by have := hN k e.symm; omega⟩
          rcases hG.fresh with f | ⟨k', f, hk'⟩
          · exact hN k (f ▸ e)
          · rw [f] at e; cases e; have := hK.size; omega
        clear hO hN hK hx hw hc hjl ex he happ hO' hG
        go_wp2_with (at_builtin; go_must (refine wpList_append_run rfl (.tmp 18) (.tmp 23) 99 99 rfl u5 (.slice (some ⟨wr.heap.size, 0, none⟩) 1 1) v' W' rfl rfl HAP.out ?_; refine Hid.out ?_))
        unfold Hid
        clear hg
        go_wp2
        go_roundw
        case rel => exact ⟨j + 1, by omega, by go_num, HE.out⟩
        case measure => simp [intOf]; omega
    · obtain rfl : j = L := by omega
      rw [List.take_of_length_le (by have := HS.out.2; omega)] at hO
      have HE : Hid (wr.ownsRow 0 3 1 u5 (woN n ls).length (flat (woN n ls)) ∧ (∀ g, u5.ownBlock = some g → w.heap.size ≤ g) ∧ Keeps (fun _ => False) w wr) := ⟨hO, hN, hK⟩
      clear hO hN hK
      go_wp2
      go_ret
      exact ⟨_, rfl, HE.out⟩

theorem isWord_any (z : Int) (w : World) : Calls Tryz.prog 151 #[.int .i64 z] w fun r w' => r = .returned (.bool (decide (0 ≤ z ∧ z < 16384))) ∧ w' = w := by
  by_cases h1 : 0 ≤ z
  · by_cases h2 : z < 16384
    · rw [decide_eq_true ⟨h1, h2⟩]
      go_enter Tryz.func151, Tryz.ntmps151
      go_wp2
      go_ret
      exact ⟨rfl, rfl⟩
    · rw [decide_eq_false fun h => h2 h.2]
      go_enter Tryz.func151, Tryz.ntmps151
      go_wp2
      go_ret
      exact ⟨rfl, rfl⟩
  · rw [decide_eq_false fun h => h1 h.1]
    go_enter Tryz.func151, Tryz.ntmps151
    go_wp2
    go_ret
    exact ⟨rfl, rfl⟩

end Go.Proofs.YtipejahmjdamjaaGreatDoor.Ch
namespace Go.Proofs.YtipejahmjdamjaaGreatDoor.Ch
open Go.RowKit Go.Shelf
set_option linter.unusedVariables false
set_option maxRecDepth 6000
set_option linter.unusedSimpArgs false
set_option maxRecDepth 6000

/-- A line's set, and whether a cache that used these lines holds one. -/
def has (us : List Int) (l : Nat) : Bool := decide ((l : Int) ∈ hd ((l % 4 : Nat) : Int) us)

theorem holdsR_nil (z : Int) (w : World) : Calls Tryz.prog 152 #[.pointer none, .int .i64 z] w fun r w' => r = .returned (.bool false) ∧ w' = w := by
  go_enter Tryz.func152, Tryz.ntmps152
  go_wp2
  go_ret
  exact ⟨rfl, rfl⟩

theorem holdsR_out (b : Nat) (z : Int) (w : World) (hz : ¬ (0 ≤ z ∧ z < 16384)) : Calls Tryz.prog 152 #[ptr b, .int .i64 z] w fun r w' => r = .returned (.bool false) ∧ w' = w := by
  have H1 : Hid (Calls _ _ _ _ _) := isWord_any z w
  rw [decide_eq_false hz] at H1
  clear hz
  go_enter Tryz.func152, Tryz.ntmps152
  go_wp2_with fail
  refine H1.out.mono ?_
  rintro r w1 ⟨rfl, rfl⟩
  clear H1
  go_wp2
  go_ret
  exact ⟨rfl, rfl⟩

theorem hd_len (s : Int) (us : List Int) : (hd s us).length ≤ 2 := by
  unfold hd lastTwo
  rw [List.length_drop]
  omega

set_option maxHeartbeats 1000000 in
theorem holdsR_any (b : Nat) (us : List Int) (u : Value) (F : Nat → Prop) (a l : Nat) (w : World) (h : Rc w b us u F) (hus : ∀ x ∈ us, 0 ≤ x) (ha : a < 16384) (hl : l = a / 4) :
    Calls Tryz.prog 152 #[ptr b, .int .i64 a] w fun r w' => r = .returned (.bool (has us l)) ∧ Keeps (fun _ => False) w w' := by
  have H1 : Hid (Calls _ _ _ _ _) := isWord_any a w
  rw [decide_eq_true (by omega)] at H1
  have H2 : Hid (Calls _ _ _ _ _) := held_any b us u F ((l % 4 : Nat) : Int) w h hus
  have hq : ((a : Int).tdiv 4) = l := by rw [Int.tdiv_eq_ediv_of_nonneg (by omega)]; omega
  have hr : Hid ((l : Int) % 4 = ((l % 4 : Nat) : Int)) := (by omega : (l : Int) % 4 = ((l % 4 : Nat) : Int))
  have ha2 : (a : Int) < 16384 := by omega
  have hw : wrap64 (l : Int) = l := by unfold wrap64; omega
  clear h hus ha hl
  go_enter Tryz.func152, Tryz.ntmps152
  go_wp2_with fail
  refine H1.out.mono ?_
  rintro r w1 ⟨rfl, rfl⟩
  clear H1
  go_wp2_with fail
  rw [hr.out]
  refine H2.out.mono ?_
  rintro r w2 ⟨v, rfl, hO, hN, hK⟩
  obtain ⟨c1, c2, rfl, hs, _, _⟩ := owns_seg hO
  have H3 : Hid (Calls _ _ _ _ _) := among_any c1 (hd ((l % 4 : Nat) : Int) us) c2 l w2 hs (by have := hd_len ((l % 4 : Nat) : Int) us; omega)
  have HK : Hid (Keeps (fun _ => False) w1 w2) := hK
  clear hO hN hK hs H2
  go_wp2_with fail
  refine H3.out.mono ?_
  rintro r w3 ⟨rfl, rfl⟩
  clear H3
  go_wp2
  go_ret
  exact ⟨rfl, HK.out⟩

end Go.Proofs.YtipejahmjdamjaaGreatDoor.Ch
namespace Go.Proofs.YtipejahmjdamjaaGreatDoor.Ch
open Go.RowKit Go.Shelf
set_option linter.unusedVariables false
set_option maxRecDepth 6000
set_option linter.unusedSimpArgs false
set_option maxRecDepth 6000

/-- Behind a step of the document's cache. -/
def NowR (w w' : World) (b : Nat) (us : List Int) (F : Nat → Prop) : Prop :=
  (∃ u F', Rc w' b us u F' ∧ ∀ k, F' k → F k ∨ w.heap.size ≤ k) ∧ Keeps F w w'

theorem newR_any (w : World) : Calls Tryz.prog 41 #[] w fun r w' => r = .returned (ptr w.heap.size) ∧ (∃ u F, Rc w' w.heap.size [] u F ∧ ∀ k, F k → w.heap.size ≤ k) ∧ Keeps (fun _ => False) w w' := by
  go_enter Tryz.func41, Tryz.ntmps41
  go_wp2
  go_ret
  refine ⟨rfl, ⟨.slice none 0 0, fun k => k = w.heap.size, ⟨Blk.new w _ _, ⟨rfl, .inl ⟨rfl, rfl⟩⟩, by simp, fun g e => by simp [Value.ownBlock] at e, rfl, fun k hk => by rw [hk]; simp⟩, fun k hk => by rw [hk]; exact Nat.le_refl _⟩, (Keeps.refl _ w).alloc _⟩

theorem flushR_nil (w : World) : Calls Tryz.prog 79 #[.pointer none] w fun r w' => r = .returned (.tuple #[]) ∧ w' = w := by
  go_enter Tryz.func79, Tryz.ntmps79
  go_wp2
  go_end0
  exact ⟨rfl, rfl⟩

theorem flushR_any (b : Nat) (us : List Int) (u : Value) (F : Nat → Prop) (w : World) (h : Rc w b us u F) : Calls Tryz.prog 79 #[ptr b] w fun r w' => r = .returned (.tuple #[]) ∧ NowR w w' b [] F := by
  have c0 := h.blk.cell (i := 0) rfl
  have f0 := h.blk.frozen 0
  have H : Hid (Rc w b us u F) := h
  clear h
  go_enter Tryz.func79, Tryz.ntmps79
  go_wp2
  go_end0
  refine ⟨rfl, ⟨.slice none 0 0, F, ?_, fun k hk => .inl hk⟩, (Keeps.refl _ w).setCell _ _ fun _ => H.out.fb⟩
  exact { blk := H.out.blk.setCell 0 _, row := ⟨rfl, .inl ⟨rfl, rfl⟩⟩, few := by simp, fu := fun g e => by simp [Value.ownBlock] at e, fb := H.out.fb, lt := fun k hk => by simpa using H.out.lt k hk }

theorem append_seg {w : World} (v : Value) (n : Nat) (vs : List Value) (hown : w.ownsRow 0 3 1 v n vs) (a : Option Addr) (ls : List Int) (c : Nat) (hs : SegI w a ls) (hn : n + ls.length ≤ 4294967296) :
    ∃ v' W', (∀ ty, (Builtin.append_ #[99, 99] ty #[v, .slice a ls.length c]).run Tryz.prog w = .ok v' W') ∧ W'.ownsRow 0 3 1 v' (n + ls.length) (vs ++ flat ls) ∧ Grew w v W' v' := by
  obtain ⟨i0, hi, hz0, hz1, hz2⟩ := info_parts Tryz.info3
  have hone : ∀ y ∈ flat ls, y.oneCell' = true := by
    intro y hy
    simp only [flat, List.mem_map] at hy
    obtain ⟨x, _, rfl⟩ := hy
    rfl
  cases a with
  | none =>
    rcases hs with h0 | ⟨g, o, e, _⟩
    · subst h0
      refine ⟨v, w, fun ty => append_none 99 3 i0 1 Tryz.underlying99 hi hz1 (by omega) v n c vs hown ty, ?_, Grew.refl _ _⟩
      simpa [flat] using hown
    · cases e
  | some x =>
    obtain ⟨v', W', h1, h2, h3, h4⟩ := append_many 99 3 i0 (.int .i64 0) 1 8 Tryz.underlying99 hi hz0 hz1 hz2 rfl (by omega) v n vs hown x ls.length c (flat ls) (by rw [flat_length]; omega) (by
      intro j y hj
      rcases hs with h0 | ⟨g, o, e, hc⟩
      · subst h0; simp [flat] at hj
      · cases e
        have hjl : j < ls.length := by have := (List.getElem?_eq_some_iff.1 hj).1; rwa [flat_length] at this
        have e2 := flat_get ls j _ (List.getElem?_eq_getElem hjl)
        rw [hj] at e2
        cases e2
        rw [addr_add]
        exact hc j hjl) hone (by unfold maxLen; omega) (by omega)
    exact ⟨v', W', h1, h2, h3, h4⟩

/-- What is kept of the lines of the first sets, without a line. -/
def pre (l : Int) (us : List Int) (j : Nat) : List Int := (List.range j).flatMap fun (s : Nat) => woN l (hd (s : Int) us)
theorem pre_succ (l : Int) (us : List Int) (j : Nat) : pre l us (j + 1) = pre l us j ++ woN l (hd (j : Int) us) := by
  unfold pre
  rw [List.range_succ, List.flatMap_append]
  simp
theorem wo_len (l s : Int) (us : List Int) : (woN l (hd s us)).length ≤ 2 := Nat.le_trans (List.length_filter_le _ _) (hd_len s us)
theorem pre_len (l : Int) (us : List Int) : ∀ j, (pre l us j).length ≤ 2 * j
  | 0 => by simp [pre]
  | j + 1 => by rw [pre_succ, List.length_append]; have := pre_len l us j; have := wo_len l (j : Int) us; omega
/-- The lines that were used, behind a use. -/
def tch (l : Nat) (us : List Int) : List Int := pre (l : Int) us 4 ++ [(l : Int)]
def costR (l : Nat) (us : List Int) : Int := if has us l then 1 else 7

theorem touchR_nil (z : Int) (w : World) : Calls Tryz.prog 103 #[.pointer none, .int .i64 z] w fun r w' => r = .returned (.tuple #[.int .i64 0, .int .i64 3]) ∧ w' = w := by
  go_enter Tryz.func103, Tryz.ntmps103
  go_wp2
  go_ret2
  exact ⟨rfl, rfl⟩

theorem touchR_out (b : Nat) (z : Int) (w : World) (hz : ¬ (0 ≤ z ∧ z < 16384)) : Calls Tryz.prog 103 #[ptr b, .int .i64 z] w fun r w' => r = .returned (.tuple #[.int .i64 0, .int .i64 70]) ∧ w' = w := by
  have H1 : Hid (Calls _ _ _ _ _) := isWord_any z w
  rw [decide_eq_false hz] at H1
  clear hz
  go_enter Tryz.func103, Tryz.ntmps103
  go_wp2_with fail
  refine H1.out.mono ?_
  rintro r w1 ⟨rfl, rfl⟩
  clear H1
  go_wp2
  go_ret2
  exact ⟨rfl, rfl⟩


set_option maxHeartbeats 4000000 in
theorem touchR_any (b : Nat) (us : List Int) (u : Value) (F : Nat → Prop) (a l : Nat) (w : World) (h : Rc w b us u F) (hus : ∀ x ∈ us, 0 ≤ x) (ha : a < 16384) (hl : l = a / 4) :
    Calls Tryz.prog 103 #[ptr b, .int .i64 a] w fun r w' => r = .returned (.tuple #[.int .i64 (costR l us), .int .i64 0]) ∧ NowR w w' b (tch l us) F := by
  have H1 : Hid (Calls _ _ _ _ _) := isWord_any a w
  rw [decide_eq_true (by omega)] at H1
  have H2 : Hid (Calls _ _ _ _ _) := holdsR_any b us u F a l w h hus ha hl
  have H3 : Hid (∀ (s : Int) (w' : World), Keeps (fun _ => False) w w' → Calls Tryz.prog 115 #[ptr b, .int .i64 s] w' fun r w'' => ∃ v, r = .returned v ∧ w''.ownsRow 0 3 1 v (hd s us).length (flat (hd s us)) ∧ (∀ g, v.ownBlock = some g → w'.heap.size ≤ g) ∧ Keeps (fun _ => False) w' w'') :=
    fun s w' hK => held_any b us u F s w' (h.kept hK fun _ _ h => h) hus
  have HR : Hid (Rc w b us u F) := h
  have hq : ((a : Int).tdiv 4) = l := by rw [Int.tdiv_eq_ediv_of_nonneg (by omega)]; omega
  have hw : wrap64 (l : Int) = l := by unfold wrap64; omega
  have ha2 : (a : Int) < 16384 := by omega
  clear h hus ha hl
  obtain ⟨hit, eh⟩ : ∃ hit, hit = has us l := ⟨_, rfl⟩
  have ec : costR l us = if hit then 1 else 7 := by rw [eh]; rfl
  rw [← eh] at H2
  rw [ec]
  clear ec eh
  go_enter Tryz.func103, Tryz.ntmps103
  go_wp2_with fail
  refine H1.out.mono ?_
  rintro r w1 ⟨rfl, rfl⟩
  clear H1
  go_wp2_with fail
  refine H2.out.mono ?_
  rintro r w2 ⟨rfl, hK2⟩
  have HK2 : Hid (Keeps (fun _ => False) w1 w2) := hK2
  clear hK2 H2
  cases hit
  all_goals
    go_wp2
    go_loopw [7, 17] (fun v i wr => ∃ j : Nat, j ≤ 4 ∧ i = .int .i64 j ∧ wr.ownsRow 0 3 1 v (pre l us j).length (flat (pre l us j)) ∧ (∀ g, v.ownBlock = some g → w1.heap.size ≤ g) ∧ Keeps (fun _ => False) w1 wr) (fun _ i _ => 4 - (intOf i).toNat)
    case atStart => exact ⟨0, by omega, rfl, ⟨by simp [pre, flat], .inl ⟨rfl, by simp [pre]⟩⟩, fun g e => by simp [Value.ownBlock] at e, HK2.out⟩
    case round =>
      obtain ⟨j, hj, rfl, hO, hN, hK⟩ := hrel
      by_cases hlt : j < 4
      · have H4 : Hid (Calls _ _ _ _ _) := H3.out j wr hK
        have hji : (j : Int) < 4 := by omega
        have HO : Hid (wr.ownsRow 0 3 1 u7 (pre l us j).length (flat (pre l us j)) ∧ (∀ g, u7.ownBlock = some g → w1.heap.size ≤ g) ∧ Keeps (fun _ => False) w1 wr) := ⟨hO, hN, hK⟩
        clear hO hN hK
        go_wp2_with fail
        refine H4.out.mono ?_
        rintro r w3 ⟨v3, rfl, hO3, hN3, hK3⟩
        obtain ⟨a3, c3, rfl, hs3, _, _⟩ := owns_seg hO3
        have H5 : Hid (Calls _ _ _ _ _) := wo_any a3 (hd (j : Int) us) c3 l w3 hs3 (by have := hd_len (j : Int) us; omega)
        have HK3 : Hid (Keeps (fun _ => False) wr w3) := hK3
        clear hO3 hN3 hK3 hs3 H4
        go_wp2_with fail
        refine H5.out.mono ?_
        rintro r w4 ⟨v4, rfl, hO4, hN4, hK4⟩
        obtain ⟨a4, c4, rfl, hs4, _, _⟩ := owns_seg hO4
        have hKw : Keeps (fun _ => False) wr w4 := HK3.out.trans hK4 fun _ _ h => h
        obtain ⟨v', W', happ, hO', hG⟩ := append_seg u7 _ _ (owns_kept HO.out.1 hKw fun _ _ h => h) a4 (woN l (hd (j : Int) us)) c4 hs4 (by have := pre_len l us j; have := wo_len l (j : Int) us; omega)
        have HAP : Hid (∀ ty, _) := happ
        have HE : Hid (W'.ownsRow 0 3 1 v' (pre l us (j + 1)).length (flat (pre l us (j + 1))) ∧ (∀ g, v'.ownBlock = some g → w1.heap.size ≤ g) ∧ Keeps (fun _ => False) w1 W') := by
          refine ⟨by rw [pre_succ, flat_append, List.length_append]; exact hO', fun k e => ?_, (HO.out.2.2.trans hKw fun _ _ h => h).trans hG.keeps fun k hk e => by have := HO.out.2.1 k e.symm; omega⟩
          rcases hG.fresh with f | ⟨k', f, hk'⟩
          · exact HO.out.2.1 k (f ▸ e)
          · rw [f] at e; cases e; have := hKw.size; have := HO.out.2.2.size; omega
        clear hO4 hN4 hK4 hs4 H5 HK3 HO happ hO' hG hKw
        go_wp2_with (at_builtin; go_must (refine wpList_append_run rfl (.tmp 20) (.tmp 26) 99 99 rfl u7 (.slice a4 (woN l (hd (j : Int) us)).length c4) v' W' rfl rfl HAP.out ?_; refine Hid.out ?_))
        unfold Hid
        go_wp2
        go_roundw
        case rel => exact ⟨j + 1, by omega, by go_num, HE.out⟩
        case measure => simp [intOf]; omega
      · obtain rfl : j = 4 := by omega
        obtain ⟨v', W', happ, hO', hG⟩ := append_int l u7 _ _ hO (by have := pre_len l us 4; omega)
        have HAP : Hid (∀ ty, _) := happ
        have hbl := HR.out.blk.lt
        have hKW : Keeps (fun _ => False) w1 W' := hK.trans hG.keeps fun k hk e => by have := hN k e.symm; omega
        have hB := HR.out.blk.kept hKW fun h => h
        have c0 := hB.cell (i := 0) rfl
        have f0 := hB.frozen 0
        have HE : Hid (NowR w1 (W'.setCell ⟨b, 0, none⟩ v') b (tch l us) F) := by
          have hS : Keeps (fun k => k = b) W' (W'.setCell ⟨b, 0, none⟩ v') := (Keeps.refl _ W').setCell _ _ fun _ => rfl
          have hv : ∀ g, v'.ownBlock = some g → w1.heap.size ≤ g := fun k e => by
            rcases hG.fresh with f | ⟨k', f, hk'⟩
            · exact hN k (f ▸ e)
            · rw [f] at e; cases e; have := hK.size; omega
          have hrow : W'.ownsRow 0 3 1 v' (tch l us).length (flat (tch l us)) := by unfold tch; rw [flat_append, List.length_append]; exact hO'
          refine ⟨⟨v', fun k => k < W'.heap.size ∧ (k = b ∨ w1.heap.size ≤ k), ⟨hB.setCell 0 _, owns_kept hrow hS fun k e h => by have := hv k e; omega, ?_, fun g e => ⟨⟨owns_lt hrow e, .inr (hv g e)⟩, fun h => by have := hv g e; omega⟩, ⟨hB.lt, .inl rfl⟩, fun k hk => Nat.lt_of_lt_of_le hk.1 hS.size⟩, fun k hk => hk.2.elim (fun e => .inl (by rw [e]; exact HR.out.fb)) .inr⟩, ?_⟩
          · unfold tch; rw [List.length_append]; have := pre_len l us 4; simp; omega
          · exact (hKW.mono fun _ _ h => h.elim).trans (hS.mono fun k _ e => by rw [e]; exact HR.out.fb) fun _ _ h => h
        obtain ⟨a', c', ev, _⟩ := owns_slice hO'
        obtain ⟨n', en⟩ : ∃ n', n' = (pre l us 4).length + 1 := ⟨_, rfl⟩
        rw [← en] at ev
        subst ev
        clear hO hN hK hO' hG happ hKW hB H3 HK2 HR en hbl
        go_wp2_with (at_builtin; go_must (refine wpList_append_run rfl (.tmp 30) (.tmp 33) 99 99 rfl u7 (.slice (some ⟨wr.heap.size, 0, none⟩) 1 1) (.slice a' n' c') W' rfl rfl HAP.out ?_; refine Hid.out ?_))
        unfold Hid
        clear hq hw ha2 hlt hj
        go_wp2
        go_ret2
        exact ⟨rfl, HE.out⟩

end Go.Proofs.YtipejahmjdamjaaGreatDoor.Ch
