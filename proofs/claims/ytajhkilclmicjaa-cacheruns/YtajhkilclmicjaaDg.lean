import Derived.Test.YtajhkilclmicjaaDf
namespace Go.Proofs.Ytajhkilclmicjaa
open Go.RowKit Go.Shelf
set_option linter.unusedVariables false
set_option linter.unusedSimpArgs false
set_option maxRecDepth 6000

theorem SegL.kept {w w' : World} {a : Option Addr} {lls : List (List Int)} (h : SegL w a lls) (hK : Keeps (fun _ => False) w w') : SegL w' a lls := by
  rcases h with h | ⟨g, o, e, hc⟩
  · exact .inl h
  · refine .inr ⟨g, o, e, fun j l hl => ?_⟩
    obtain ⟨x, c, h1, h2, h3, h4⟩ := hc j l hl
    exact ⟨x, c, cell_kept h1 hK fun h => h, h2.kept hK fun _ _ h => h, h3, h4⟩

theorem may_any (a : Option Addr) (lls : List (List Int)) (cap : Nat) (w : World) (hs : SegL w a lls) :
    Calls Try.prog 46 #[.slice a lls.length cap] w fun r w' => Says (MayL lls) r ∧ w' = w := by
  by_cases h0 : lls.length = 0
  · have e : lls = [] := List.eq_nil_of_length_eq_zero h0
    subst e
    refine (may_none a cap w).mono ?_
    rintro r w' ⟨rfl, rfl⟩
    exact ⟨says_true ⟨.inl rfl, fun s l hl => by simp at hl⟩, rfl⟩
  · by_cases h4 : lls.length = 4
    · rw [h4]
      exact may_four a lls cap w hs h4
    · refine (may_odd a lls.length cap w (by omega) (by omega)).mono ?_
      rintro r w' ⟨rfl, rfl⟩
      exact ⟨says_false fun h => h.1.elim h0 h4, rfl⟩

theorem restoreR_nil (v : Value) (w : World) : Calls Try.prog 30 #[.pointer none, v] w fun r w' => r = .returned (.int .i64 3) ∧ w' = w := by
  go_enter Try.func30, Try.ntmps30
  go_wp2
  go_ret
  exact ⟨rfl, rfl⟩

theorem restoreR_not (b : Nat) (a : Option Addr) (lls : List (List Int)) (cap : Nat) (w : World) (hs : SegL w a lls) (hm : ¬ MayL lls) :
    Calls Try.prog 30 #[ptr b, .slice a lls.length cap] w fun r w' => r = .returned (.int .i64 71) ∧ w' = w := by
  have H1 : Hid (Calls _ _ _ _ _) := may_any a lls cap w hs
  have HM : Hid (¬ MayL lls) := hm
  clear hs hm
  obtain ⟨n, en⟩ : ∃ n, n = lls.length := ⟨_, rfl⟩
  rw [← en] at H1 ⊢
  clear en
  go_enter Try.func30, Try.ntmps30
  go_wp2_with fail
  refine H1.out.mono ?_
  rintro r w1 ⟨⟨t, rfl, ht⟩, rfl⟩
  cases t with
  | true => exact (HM.out (ht.1 rfl)).elim
  | false =>
    clear ht H1
    go_wp2
    go_ret
    exact ⟨rfl, rfl⟩

theorem flatten_take {lls : List (List Int)} {j : Nat} {l : List Int} (h : lls[j]? = some l) : (lls.take (j + 1)).flatten = (lls.take j).flatten ++ l := by
  rw [List.take_add_one, h]
  simp
theorem flatten_len {lls : List (List Int)} (h : ∀ (s : Nat) (l : List Int), lls[s]? = some l → l.length ≤ 2) : ∀ j, (lls.take j).flatten.length ≤ 2 * j
  | 0 => by simp
  | j + 1 => by
    have ih := flatten_len h j
    cases e : lls[j]? with
    | none => rw [List.take_add_one, e]; simp only [Option.toList_none, List.append_nil]; omega
    | some l => rw [flatten_take e, List.length_append]; have := h j l e; omega

set_option maxHeartbeats 4000000 in
theorem restoreR_may (b : Nat) (us : List Int) (u : Value) (F : Nat → Prop) (a : Option Addr) (lls : List (List Int)) (cap : Nat) (w : World) (h : Rc w b us u F) (hs : SegL w a lls) (hm : MayL lls) :
    Calls Try.prog 30 #[ptr b, .slice a lls.length cap] w fun r w' => r = .returned (.int .i64 0) ∧ NowR w w' b lls.flatten F := by
  have H1 : Hid (Calls _ _ _ _ _) := may_any a lls cap w hs
  have HM : Hid (MayL lls ∧ SegL w a lls) := ⟨hm, hs⟩
  have HR : Hid (Rc w b us u F) := h
  have hn4 : ((lls.length : Nat) : Int) ≤ 4 := by rcases hm.1 with e | e <;> omega
  clear hs hm h
  obtain ⟨n, en⟩ : ∃ n, n = lls.length := ⟨_, rfl⟩
  rw [← en] at H1 hn4 ⊢
  have HN : Hid (n = lls.length) := en
  clear en
  go_enter Try.func30, Try.ntmps30
  go_wp2_with fail
  refine H1.out.mono ?_
  rintro r w1 ⟨⟨t, rfl, ht⟩, rfl⟩
  cases t with
  | false => exact absurd (ht.2 HM.out.1) (by simp)
  | true =>
    clear ht H1
    go_wp2
    go_loopw [5, 14] (fun v i wr => ∃ j : Nat, j ≤ n ∧ i = .int .i64 j ∧ wr.ownsRow 0 3 1 v (lls.take j).flatten.length (flat (lls.take j).flatten) ∧ (∀ g, v.ownBlock = some g → w1.heap.size ≤ g) ∧ Keeps (fun _ => False) w1 wr) (fun _ i _ => n - (intOf i).toNat)
    case atStart => exact ⟨0, by omega, rfl, ⟨by simp [flat], .inl ⟨rfl, by simp⟩⟩, fun g e => by simp [Value.ownBlock] at e, Keeps.refl _ _⟩
    case round =>
      obtain ⟨j, hj, rfl, hO, hN, hK⟩ := hrel
      by_cases hlt : j < n
      · obtain ⟨l, hl⟩ : ∃ l, lls[j]? = some l := ⟨_, List.getElem?_eq_getElem (by have := HN.out; omega)⟩
        rcases HM.out.2.kept hK with h0 | ⟨G, O, rfl, hc⟩
        · rw [h0] at hl; simp at hl
        obtain ⟨x, c, hcell, hseg, hlc, hlm⟩ := hc j l hl
        have hft := flatten_take hl
        have hlen := flatten_len (fun s l h => (HM.out.1.2 s l h).1) j
        have hl2 := (HM.out.1.2 j l hl).1
        have hji : (j : Int) < n := by omega
        obtain ⟨v', W', happ, hO', hG⟩ := append_seg u5 _ _ hO x l c hseg (by omega)
        have HAP : Hid (∀ ty, _) := happ
        have HE : Hid (W'.ownsRow 0 3 1 v' (lls.take (j + 1)).flatten.length (flat (lls.take (j + 1)).flatten) ∧ (∀ g, v'.ownBlock = some g → w1.heap.size ≤ g) ∧ Keeps (fun _ => False) w1 W') := by
          refine ⟨by rw [hft, flat_append, List.length_append]; exact hO', fun k e => ?_, hK.trans hG.keeps fun k hk e => by have := hN k e.symm; omega⟩
          rcases hG.fresh with f | ⟨k', f, hk'⟩
          · exact hN k (f ▸ e)
          · rw [f] at e; cases e; have := hK.size; omega
        clear hO hN hK hc hseg hlc hlm hft hlen hl2 happ hO' hG hl
        go_wp2_with (at_builtin; go_must (refine wpList_append_run rfl (.tmp 17) (.tmp 21) 59 59 rfl u5 (.slice x l.length c) v' W' rfl rfl HAP.out ?_; refine Hid.out ?_))
        unfold Hid
        clear hcell
        go_wp2
        go_roundw
        case rel => exact ⟨j + 1, by omega, by go_num, HE.out⟩
        case measure => simp [intOf]; omega
      · obtain rfl : j = n := by omega
        have hlen := flatten_len (fun s l h => (HM.out.1.2 s l h).1) j
        rw [List.take_of_length_le (by have := HN.out; omega)] at hO hlen
        have hB := HR.out.blk.kept hK fun h => h
        have hbl := HR.out.blk.lt
        have c0 := hB.cell (i := 0) rfl
        have f0 := hB.frozen 0
        have HE : Hid (NowR w1 (wr.setCell ⟨b, 0, none⟩ u5) b lls.flatten F) := by
          have hS : Keeps (fun k => k = b) wr (wr.setCell ⟨b, 0, none⟩ u5) := (Keeps.refl _ wr).setCell _ _ fun _ => rfl
          refine ⟨⟨u5, fun k => k < wr.heap.size ∧ (k = b ∨ w1.heap.size ≤ k), ⟨hB.setCell 0 _, owns_kept hO hS fun k e h => by have := hN k e; omega, by omega, fun g e => ⟨⟨owns_lt hO e, .inr (hN g e)⟩, fun h => by have := hN g e; omega⟩, ⟨hB.lt, .inl rfl⟩, fun k hk => Nat.lt_of_lt_of_le hk.1 hS.size⟩, fun k hk => hk.2.elim (fun e => .inl (by rw [e]; exact HR.out.fb)) .inr⟩, ?_⟩
          exact (hK.mono fun _ _ h => h.elim).trans (hS.mono fun k _ e => by rw [e]; exact HR.out.fb) fun _ _ h => h
        obtain ⟨a', c', ev, _⟩ := owns_slice hO
        obtain ⟨n', en⟩ : ∃ n', n' = lls.flatten.length := ⟨_, rfl⟩
        rw [← en] at ev
        subst ev
        clear hO hN hK hB HR en hbl hlen hlt hj
        go_wp2
        go_ret
        exact ⟨rfl, HE.out⟩

end Go.Proofs.Ytajhkilclmicjaa
