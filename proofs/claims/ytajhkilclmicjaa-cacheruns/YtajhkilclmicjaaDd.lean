import Derived.Test.YtajhkilclmicjaaDc
namespace Go.Proofs.Ytajhkilclmicjaa
open Go.RowKit Go.Shelf
set_option linter.unusedVariables false
set_option linter.unusedSimpArgs false
set_option maxRecDepth 6000

/-- Behind a step of the document's cache. -/
def NowR (w w' : World) (b : Nat) (us : List Int) (F : Nat → Prop) : Prop :=
  (∃ u F', Rc w' b us u F' ∧ ∀ k, F' k → F k ∨ w.heap.size ≤ k) ∧ Keeps F w w'

theorem newR_any (w : World) : Calls Try.prog 10 #[] w fun r w' => r = .returned (ptr w.heap.size) ∧ (∃ u F, Rc w' w.heap.size [] u F ∧ ∀ k, F k → w.heap.size ≤ k) ∧ Keeps (fun _ => False) w w' := by
  go_enter Try.func10, Try.ntmps10
  go_wp2
  go_ret
  refine ⟨rfl, ⟨.slice none 0 0, fun k => k = w.heap.size, ⟨Blk.new w _ _, ⟨rfl, .inl ⟨rfl, rfl⟩⟩, by simp, fun g e => by simp [Value.ownBlock] at e, rfl, fun k hk => by rw [hk]; simp⟩, fun k hk => by rw [hk]; exact Nat.le_refl _⟩, (Keeps.refl _ w).alloc _⟩

theorem flushR_nil (w : World) : Calls Try.prog 28 #[.pointer none] w fun r w' => r = .returned (.tuple #[]) ∧ w' = w := by
  go_enter Try.func28, Try.ntmps28
  go_wp2
  go_end0
  exact ⟨rfl, rfl⟩

theorem flushR_any (b : Nat) (us : List Int) (u : Value) (F : Nat → Prop) (w : World) (h : Rc w b us u F) : Calls Try.prog 28 #[ptr b] w fun r w' => r = .returned (.tuple #[]) ∧ NowR w w' b [] F := by
  have c0 := h.blk.cell (i := 0) rfl
  have f0 := h.blk.frozen 0
  have H : Hid (Rc w b us u F) := h
  clear h
  go_enter Try.func28, Try.ntmps28
  go_wp2
  go_end0
  refine ⟨rfl, ⟨.slice none 0 0, F, ?_, fun k hk => .inl hk⟩, (Keeps.refl _ w).setCell _ _ fun _ => H.out.fb⟩
  exact { blk := H.out.blk.setCell 0 _, row := ⟨rfl, .inl ⟨rfl, rfl⟩⟩, few := by simp, fu := fun g e => by simp [Value.ownBlock] at e, fb := H.out.fb, lt := fun k hk => by simpa using H.out.lt k hk }

theorem append_seg {w : World} (v : Value) (n : Nat) (vs : List Value) (hown : w.ownsRow 0 3 1 v n vs) (a : Option Addr) (ls : List Int) (c : Nat) (hs : SegI w a ls) (hn : n + ls.length ≤ 4294967296) :
    ∃ v' W', (∀ ty, (Builtin.append_ #[59, 59] ty #[v, .slice a ls.length c]).run Try.prog w = .ok v' W') ∧ W'.ownsRow 0 3 1 v' (n + ls.length) (vs ++ flat ls) ∧ Grew w v W' v' := by
  obtain ⟨i0, hi, hz0, hz1, hz2⟩ := info_parts Try.info3
  have hone : ∀ y ∈ flat ls, y.oneCell' = true := by
    intro y hy
    simp only [flat, List.mem_map] at hy
    obtain ⟨x, _, rfl⟩ := hy
    rfl
  cases a with
  | none =>
    rcases hs with h0 | ⟨g, o, e, _⟩
    · subst h0
      refine ⟨v, w, fun ty => append_none 59 3 i0 1 Try.underlying59 hi hz1 (by omega) v n c vs hown ty, ?_, Grew.refl _ _⟩
      simpa [flat] using hown
    · cases e
  | some x =>
    obtain ⟨v', W', h1, h2, h3, h4⟩ := append_many 59 3 i0 (.int .i64 0) 1 8 Try.underlying59 hi hz0 hz1 hz2 rfl (by omega) v n vs hown x ls.length c (flat ls) (by rw [flat_length]; omega) (by
      intro j y hj
      rcases hs with h0 | ⟨g, o, e, hc⟩
      · subst h0; simp [flat] at hj
      · cases e
        have hjl : j < ls.length := by have := (List.getElem?_eq_some_iff.1 hj).1; rwa [flat_length] at this
        have e2 := flat_get ls j _ (List.getElem?_eq_getElem hjl)
        rw [hj] at e2
        cases e2
        rw [addr_add]
        exact hc j hjl) hone (by unfold maxLen; omega) (by omega)
    exact ⟨v', W', h1, h2, h3, h4⟩

/-- What is kept of the lines of the first sets, without a line. -/
def pre (l : Int) (us : List Int) (j : Nat) : List Int := (List.range j).flatMap fun (s : Nat) => woN l (hd (s : Int) us)
theorem pre_succ (l : Int) (us : List Int) (j : Nat) : pre l us (j + 1) = pre l us j ++ woN l (hd (j : Int) us) := by
  unfold pre
  rw [List.range_succ, List.flatMap_append]
  simp
theorem wo_len (l s : Int) (us : List Int) : (woN l (hd s us)).length ≤ 2 := Nat.le_trans (List.length_filter_le _ _) (hd_len s us)
theorem pre_len (l : Int) (us : List Int) : ∀ j, (pre l us j).length ≤ 2 * j
  | 0 => by simp [pre]
  | j + 1 => by rw [pre_succ, List.length_append]; have := pre_len l us j; have := wo_len l (j : Int) us; omega
/-- The lines that were used, behind a use. -/
def tch (l : Nat) (us : List Int) : List Int := pre (l : Int) us 4 ++ [(l : Int)]
def costR (l : Nat) (us : List Int) : Int := if has us l then 1 else 7

theorem touchR_nil (z : Int) (w : World) : Calls Try.prog 25 #[.pointer none, .int .i64 z] w fun r w' => r = .returned (.tuple #[.int .i64 0, .int .i64 3]) ∧ w' = w := by
  go_enter Try.func25, Try.ntmps25
  go_wp2
  go_ret2
  exact ⟨rfl, rfl⟩

theorem touchR_out (b : Nat) (z : Int) (w : World) (hz : ¬ (0 ≤ z ∧ z < 16384)) : Calls Try.prog 25 #[ptr b, .int .i64 z] w fun r w' => r = .returned (.tuple #[.int .i64 0, .int .i64 70]) ∧ w' = w := by
  have H1 : Hid (Calls _ _ _ _ _) := isWord_any z w
  rw [decide_eq_false hz] at H1
  clear hz
  go_enter Try.func25, Try.ntmps25
  go_wp2_with fail
  refine H1.out.mono ?_
  rintro r w1 ⟨rfl, rfl⟩
  clear H1
  go_wp2
  go_ret2
  exact ⟨rfl, rfl⟩


set_option maxHeartbeats 4000000 in
theorem touchR_any (b : Nat) (us : List Int) (u : Value) (F : Nat → Prop) (a l : Nat) (w : World) (h : Rc w b us u F) (hus : ∀ x ∈ us, 0 ≤ x) (ha : a < 16384) (hl : l = a / 4) :
    Calls Try.prog 25 #[ptr b, .int .i64 a] w fun r w' => r = .returned (.tuple #[.int .i64 (costR l us), .int .i64 0]) ∧ NowR w w' b (tch l us) F := by
  have H1 : Hid (Calls _ _ _ _ _) := isWord_any a w
  rw [decide_eq_true (by omega)] at H1
  have H2 : Hid (Calls _ _ _ _ _) := holdsR_any b us u F a l w h hus ha hl
  have H3 : Hid (∀ (s : Int) (w' : World), Keeps (fun _ => False) w w' → Calls Try.prog 32 #[ptr b, .int .i64 s] w' fun r w'' => ∃ v, r = .returned v ∧ w''.ownsRow 0 3 1 v (hd s us).length (flat (hd s us)) ∧ (∀ g, v.ownBlock = some g → w'.heap.size ≤ g) ∧ Keeps (fun _ => False) w' w'') :=
    fun s w' hK => held_any b us u F s w' (h.kept hK fun _ _ h => h) hus
  have HR : Hid (Rc w b us u F) := h
  have hq : ((a : Int).tdiv 4) = l := by rw [Int.tdiv_eq_ediv_of_nonneg (by omega)]; omega
  have hw : wrap64 (l : Int) = l := by unfold wrap64; omega
  have ha2 : (a : Int) < 16384 := by omega
  clear h hus ha hl
  obtain ⟨hit, eh⟩ : ∃ hit, hit = has us l := ⟨_, rfl⟩
  have ec : costR l us = if hit then 1 else 7 := by rw [eh]; rfl
  rw [← eh] at H2
  rw [ec]
  clear ec eh
  go_enter Try.func25, Try.ntmps25
  go_wp2_with fail
  refine H1.out.mono ?_
  rintro r w1 ⟨rfl, rfl⟩
  clear H1
  go_wp2_with fail
  refine H2.out.mono ?_
  rintro r w2 ⟨rfl, hK2⟩
  have HK2 : Hid (Keeps (fun _ => False) w1 w2) := hK2
  clear hK2 H2
  cases hit
  all_goals
    go_wp2
    go_loopw [7, 17] (fun v i wr => ∃ j : Nat, j ≤ 4 ∧ i = .int .i64 j ∧ wr.ownsRow 0 3 1 v (pre l us j).length (flat (pre l us j)) ∧ (∀ g, v.ownBlock = some g → w1.heap.size ≤ g) ∧ Keeps (fun _ => False) w1 wr) (fun _ i _ => 4 - (intOf i).toNat)
    case atStart => exact ⟨0, by omega, rfl, ⟨by simp [pre, flat], .inl ⟨rfl, by simp [pre]⟩⟩, fun g e => by simp [Value.ownBlock] at e, HK2.out⟩
    case round =>
      obtain ⟨j, hj, rfl, hO, hN, hK⟩ := hrel
      by_cases hlt : j < 4
      · have H4 : Hid (Calls _ _ _ _ _) := H3.out j wr hK
        have hji : (j : Int) < 4 := by omega
        have HO : Hid (wr.ownsRow 0 3 1 u7 (pre l us j).length (flat (pre l us j)) ∧ (∀ g, u7.ownBlock = some g → w1.heap.size ≤ g) ∧ Keeps (fun _ => False) w1 wr) := ⟨hO, hN, hK⟩
        clear hO hN hK
        go_wp2_with fail
        refine H4.out.mono ?_
        rintro r w3 ⟨v3, rfl, hO3, hN3, hK3⟩
        obtain ⟨a3, c3, rfl, hs3, _, _⟩ := owns_seg hO3
        have H5 : Hid (Calls _ _ _ _ _) := wo_any a3 (hd (j : Int) us) c3 l w3 hs3 (by have := hd_len (j : Int) us; omega)
        have HK3 : Hid (Keeps (fun _ => False) wr w3) := hK3
        clear hO3 hN3 hK3 hs3 H4
        go_wp2_with fail
        refine H5.out.mono ?_
        rintro r w4 ⟨v4, rfl, hO4, hN4, hK4⟩
        obtain ⟨a4, c4, rfl, hs4, _, _⟩ := owns_seg hO4
        have hKw : Keeps (fun _ => False) wr w4 := HK3.out.trans hK4 fun _ _ h => h
        obtain ⟨v', W', happ, hO', hG⟩ := append_seg u7 _ _ (owns_kept HO.out.1 hKw fun _ _ h => h) a4 (woN l (hd (j : Int) us)) c4 hs4 (by have := pre_len l us j; have := wo_len l (j : Int) us; omega)
        have HAP : Hid (∀ ty, _) := happ
        have HE : Hid (W'.ownsRow 0 3 1 v' (pre l us (j + 1)).length (flat (pre l us (j + 1))) ∧ (∀ g, v'.ownBlock = some g → w1.heap.size ≤ g) ∧ Keeps (fun _ => False) w1 W') := by
          refine ⟨by rw [pre_succ, flat_append, List.length_append]; exact hO', fun k e => ?_, (HO.out.2.2.trans hKw fun _ _ h => h).trans hG.keeps fun k hk e => by have := HO.out.2.1 k e.symm; omega⟩
          rcases hG.fresh with f | ⟨k', f, hk'⟩
          · exact HO.out.2.1 k (f ▸ e)
          · rw [f] at e; cases e; have := hKw.size; have := HO.out.2.2.size; omega
        clear hO4 hN4 hK4 hs4 H5 HK3 HO happ hO' hG hKw
        go_wp2_with (at_builtin; go_must (refine wpList_append_run rfl (.tmp 20) (.tmp 26) 59 59 rfl u7 (.slice a4 (woN l (hd (j : Int) us)).length c4) v' W' rfl rfl HAP.out ?_; refine Hid.out ?_))
        unfold Hid
        go_wp2
        go_roundw
        case rel => exact ⟨j + 1, by omega, by go_num, HE.out⟩
        case measure => simp [intOf]; omega
      · obtain rfl : j = 4 := by omega
        obtain ⟨v', W', happ, hO', hG⟩ := append_int l u7 _ _ hO (by have := pre_len l us 4; omega)
        have HAP : Hid (∀ ty, _) := happ
        have hbl := HR.out.blk.lt
        have hKW : Keeps (fun _ => False) w1 W' := hK.trans hG.keeps fun k hk e => by have := hN k e.symm; omega
        have hB := HR.out.blk.kept hKW fun h => h
        have c0 := hB.cell (i := 0) rfl
        have f0 := hB.frozen 0
        have HE : Hid (NowR w1 (W'.setCell ⟨b, 0, none⟩ v') b (tch l us) F) := by
          have hS : Keeps (fun k => k = b) W' (W'.setCell ⟨b, 0, none⟩ v') := (Keeps.refl _ W').setCell _ _ fun _ => rfl
          have hv : ∀ g, v'.ownBlock = some g → w1.heap.size ≤ g := fun k e => by
            rcases hG.fresh with f | ⟨k', f, hk'⟩
            · exact hN k (f ▸ e)
            · rw [f] at e; cases e; have := hK.size; omega
          have hrow : W'.ownsRow 0 3 1 v' (tch l us).length (flat (tch l us)) := by unfold tch; rw [flat_append, List.length_append]; exact hO'
          refine ⟨⟨v', fun k => k < W'.heap.size ∧ (k = b ∨ w1.heap.size ≤ k), ⟨hB.setCell 0 _, owns_kept hrow hS fun k e h => by have := hv k e; omega, ?_, fun g e => ⟨⟨owns_lt hrow e, .inr (hv g e)⟩, fun h => by have := hv g e; omega⟩, ⟨hB.lt, .inl rfl⟩, fun k hk => Nat.lt_of_lt_of_le hk.1 hS.size⟩, fun k hk => hk.2.elim (fun e => .inl (by rw [e]; exact HR.out.fb)) .inr⟩, ?_⟩
          · unfold tch; rw [List.length_append]; have := pre_len l us 4; simp; omega
          · exact (hKW.mono fun _ _ h => h.elim).trans (hS.mono fun k _ e => by rw [e]; exact HR.out.fb) fun _ _ h => h
        obtain ⟨a', c', ev, _⟩ := owns_slice hO'
        obtain ⟨n', en⟩ : ∃ n', n' = (pre l us 4).length + 1 := ⟨_, rfl⟩
        rw [← en] at ev
        subst ev
        clear hO hN hK hO' hG happ hKW hB H3 HK2 HR en hbl
        go_wp2_with (at_builtin; go_must (refine wpList_append_run rfl (.tmp 30) (.tmp 33) 59 59 rfl u7 (.slice (some ⟨wr.heap.size, 0, none⟩) 1 1) (.slice a' n' c') W' rfl rfl HAP.out ?_; refine Hid.out ?_))
        unfold Hid
        clear hq hw ha2 hlt hj
        go_wp2
        go_ret2
        exact ⟨rfl, HE.out⟩

end Go.Proofs.Ytajhkilclmicjaa
