import Derived.Test.YtipejahmjdamjaaGreatDoorTlLs
namespace Go.Proofs.YtipejahmjdamjaaGreatDoor.Tl
open Go.RowKit Go.Shelf
set_option linter.unusedVariables false
set_option maxRecDepth 6000

theorem findT_take_none {p : Int} {ls : List Lf} {k : Nat} {y : Lf} (h : findT p (ls.take k) = none) (hy : ls[k]? = some y) (hp : y.p ≠ p) : findT p (ls.take (k + 1)) = none := by
  rw [List.take_add_one, hy]
  unfold findT at h ⊢
  rw [List.find?_append, h]
  simp [hp]
theorem findT_take_hit {p : Int} {ls : List Lf} {k : Nat} {y : Lf} (h : findT p (ls.take k) = none) (hy : ls[k]? = some y) (hp : y.p = p) : findT p ls = some y := by
  have e : ls = ls.take k ++ y :: ls.drop (k + 1) := by
    obtain ⟨hk, he⟩ := List.getElem?_eq_some_iff.1 hy
    rw [← he, List.getElem_cons_drop, List.take_append_drop]
  unfold findT at h ⊢
  rw [e, List.find?_append, h]
  simp [hp]

/-- The document's has. -/
theorem has_any (a : Option Addr) (ls : List Lf) (c : Nat) (p : Int) (w : World) (hl : ls.length ≤ c ∧ c ≤ maxLen) (hs : SegL w a ls) :
    Calls Tryz.prog 90 #[.slice a ls.length c, .int .i64 p] w fun r w' => (∃ q : Int, r = .returned (.int .i64 q) ∧ ((q = -1 ∧ findT p ls = none) ∨ ∃ (i : Nat) (x : Lf), q = i ∧ ls[i]? = some x ∧ findT p ls = some x)) ∧ w' = w := by
  obtain ⟨L, hL⟩ : ∃ L, L = ls.length := ⟨_, rfl⟩
  have HS : Hid (SegL w a ls ∧ L = ls.length) := ⟨hs, hL⟩
  have hc2 : (L : Int) ≤ c := by omega
  have hc3 : (c : Int) ≤ 9223372036854775807 := by unfold maxLen at hl; omega
  rw [← hL]
  clear hl hs hL
  go_enter Tryz.func90, Tryz.ntmps90
  go_wp2
  go_loopw [5] (fun i wr => ∃ j : Nat, j ≤ L ∧ i = .int .i64 j ∧ findT p (ls.take j) = none ∧ wr = w) (fun i _ => L - (intOf i).toNat)
  case atStart => exact ⟨0, by omega, rfl, by simp [findT], rfl⟩
  case round =>
    obtain ⟨j, hj, rfl, hn, rfl⟩ := hrel
    by_cases hlt : j < L
    · obtain ⟨y, hy⟩ : ∃ y, ls[j]? = some y := ⟨_, List.getElem?_eq_getElem (by have := HS.out.2; omega)⟩
      obtain ⟨g, o, rfl, hg⟩ : ∃ g o, a = some ⟨g, o, none⟩ ∧ LeafAt wr g (o + j * 3) y := by
        rcases HS.out.1 with h | ⟨g, o, ha, h⟩
        · rw [h] at hy; simp at hy
        · exact ⟨g, o, ha, h j y hy⟩
      obtain ⟨y0, -, -⟩ := hg
      by_cases hyp : y.p = p
      · have HH : Hid (findT p ls = some y ∧ ls[j]? = some y) := ⟨findT_take_hit hn hy hyp, hy⟩
        rw [hyp] at y0
        clear hn hy hyp
        go_wp2
        go_ret
        exact ⟨⟨j, rfl, .inr ⟨j, y, rfl, HH.out.2, HH.out.1⟩⟩, rfl⟩
      · have hyp' : (y.p == p) = false := by simpa using hyp
        have HH : Hid (findT p (ls.take (j + 1)) = none) := findT_take_none hn hy hyp
        clear hn hy hyp
        go_wp2
        go_roundw
        case rel => exact ⟨j + 1, by omega, by go_num, HH.out, trivial⟩
        case measure => simp [intOf]; omega
    · obtain rfl : j = L := by omega
      have HH : Hid (findT p ls = none) := by
        rw [List.take_of_length_le (by have := HS.out.2; omega)] at hn
        exact hn
      clear hn
      go_wp2
      go_ret
      exact ⟨⟨-1, rfl, .inl ⟨rfl, HH.out⟩⟩, rfl⟩

theorem owns_none {w : World} {v : Value} (h : w.ownsRow 0 64 3 v 0 []) : (∃ c, v = .slice none 0 c) ∨ ∃ g c, v = .slice (some ⟨g, 0, none⟩) 0 c := by
  rcases h.2 with ⟨rfl, _⟩ | ⟨g, c, cur, rfl, _⟩
  · exact .inl ⟨0, rfl⟩
  · exact .inr ⟨g, c, rfl⟩

set_option maxHeartbeats 1000000 in
/-- The document's without. -/
theorem without_any (a : Option Addr) (ls : List Lf) (c : Nat) (p : Int) (w : World) (hl : ls.length ≤ c ∧ c ≤ maxLen) (h4 : ls.length ≤ 4294967296) (hs : SegL w a ls) :
    Calls Tryz.prog 149 #[.slice a ls.length c, .int .i64 p] w fun r w' => ∃ v, r = .returned v ∧ w'.ownsRow 0 64 3 v (wo p ls).length (flatL (wo p ls)) ∧ (∀ g, v.ownBlock = some g → w.heap.size ≤ g) ∧ Keeps (fun _ => False) w w' := by
  obtain ⟨L, hL⟩ : ∃ L, L = ls.length := ⟨_, rfl⟩
  have HS : Hid (SegL w a ls ∧ L = ls.length ∧ L ≤ 4294967296) := ⟨hs, hL, by omega⟩
  have hc2 : (L : Int) ≤ c := by omega
  have hc3 : (c : Int) ≤ 9223372036854775807 := by unfold maxLen at hl; omega
  rw [← hL]
  clear hl hs hL h4
  go_enter Tryz.func149, Tryz.ntmps149
  go_wp2
  go_loopw [5, 6] (fun v i wr => ∃ j : Nat, j ≤ L ∧ i = .int .i64 j ∧ wr.ownsRow 0 64 3 v (wo p (ls.take j)).length (flatL (wo p (ls.take j))) ∧ (∀ g, v.ownBlock = some g → w.heap.size ≤ g) ∧ Keeps (fun _ => False) w wr) (fun _ i _ => L - (intOf i).toNat)
  case atStart => exact ⟨0, by omega, rfl, by simpa [wo, flatL] using World.ownsRow_nil w 0 64 3, fun g hg => by simp [Value.ownBlock] at hg, Keeps.refl _ _⟩
  case round =>
    obtain ⟨j, hj, rfl, hO, hg, hK⟩ := hrel
    by_cases hlt : j < L
    · obtain ⟨y, hy⟩ : ∃ y, ls[j]? = some y := ⟨_, List.getElem?_eq_getElem (by have := HS.out.2.1; omega)⟩
      obtain ⟨g, o, rfl, hy3⟩ : ∃ g o, a = some ⟨g, o, none⟩ ∧ LeafAt w g (o + j * 3) y := by
        rcases HS.out.1 with h | ⟨g, o, ha, h⟩
        · rw [h] at hy; simp at hy
        · exact ⟨g, o, ha, h j y hy⟩
      obtain ⟨y0, y1, y2⟩ := hy3.kept hK fun h => h
      have hw := wo_take_succ p ls j y hy
      have hlen : (wo p (ls.take j)).length ≤ 4294967296 := by
        have := wo_le p (ls.take j)
        have := HS.out.2.2
        simp at *
        omega
      by_cases hyp : y.p = p
      · rw [if_pos hyp] at hw
        have HH : Hid (wr.ownsRow 0 64 3 u5 (wo p (ls.take (j + 1))).length (flatL (wo p (ls.take (j + 1)))) ∧ (∀ g, u5.ownBlock = some g → w.heap.size ≤ g) ∧ Keeps (fun _ => False) w wr) := ⟨by rw [hw]; exact hO, hg, hK⟩
        rw [hyp] at y0
        clear hO hg hK hy hyp hw hy3 hlen
        go_wp2
        go_roundw
        case rel => exact ⟨j + 1, by omega, by go_num, HH.out⟩
        case measure => simp [intOf]; omega
      · rw [if_neg hyp] at hw
        have hyp' : (y.p == p) = false := by simpa using hyp
        obtain ⟨v', W', happ, hown', hgr⟩ := append_leaf y u5 _ _ hO hlen
        have HAP : Hid (∀ ty, _) := happ
        have HH : Hid (W'.ownsRow 0 64 3 v' (wo p (ls.take (j + 1))).length (flatL (wo p (ls.take (j + 1)))) ∧ (∀ g, v'.ownBlock = some g → w.heap.size ≤ g) ∧ Keeps (fun _ => False) w W') := by
          refine ⟨?_, fun g' hg' => ?_, hK.trans hgr.keeps fun b hb he => by have := hg b he.symm; omega⟩
          · rw [hw, flatL_append, flatL_one, List.length_append]
            exact hown'
          · rcases hgr.fresh with e | ⟨z, e, hz⟩
            · rw [e] at hg'; exact hg g' hg'
            · rw [e] at hg'; cases hg'; have := hK.size; omega
        have hlt2 : g < wr.heap.size := World.block_lt_of_cell? wr _ y0
        clear hO hg hK hy hyp hw hy3 hlen happ hown' hgr
        go_wp2_with (at_builtin; go_must (refine wpList_append_run rfl _ _ 42 42 rfl _ _ _ W' rfl rfl HAP.out ?_; refine Hid.out ?_))
        unfold Hid
        clear y0 y1 y2 HAP hlt2
        go_wp2
        go_roundw
        case rel => exact ⟨j + 1, by omega, by go_num, HH.out⟩
        case measure => simp [intOf]; omega
    · obtain rfl : j = L := by omega
      have HH : Hid (wr.ownsRow 0 64 3 u5 (wo p ls).length (flatL (wo p ls)) ∧ (∀ g, u5.ownBlock = some g → w.heap.size ≤ g) ∧ Keeps (fun _ => False) w wr) := by
        rw [List.take_of_length_le (by have := HS.out.2.1; omega)] at hO
        exact ⟨hO, hg, hK⟩
      clear hO hg hK
      go_wp2
      go_ret
      exact ⟨u5, rfl, HH.out⟩

set_option maxRecDepth 20000 in
set_option maxHeartbeats 1000000 in
/-- The document's MayBe. -/
theorem mayR_any (l : Lf) (w : World) : Calls Tryz.prog 89 #[l.v] w fun r w' => r = .returned (.bool (mayB l)) ∧ Keeps (fun _ => False) w w' := by
  cases hm : mayB l
  · rcases may_cases hm with m | ⟨m, m1⟩ | ⟨m, m1, m2⟩ | ⟨m, m1, m2, m3⟩ | ⟨m, m1, m2, m3, m4⟩ | ⟨m, m1, m2, m3, m4, m5⟩
    all_goals
      clear hm
      first
        | (have m9 : ¬ l.r ≤ 7 := by omega)
        | skip
      go_enter Tryz.func89, Tryz.ntmps89
      go_wp2
      go_ret
      exact ⟨rfl, (Keeps.refl _ w).alloc _⟩
  · simp only [mayB, inB, Bool.and_eq_true, decide_eq_true_eq] at hm
    obtain ⟨⟨⟨m1, m2⟩, m3, m4⟩, m5, m6⟩ := hm
    have m7 : l.r ≤ 7 := by omega
    clear m6
    go_enter Tryz.func89, Tryz.ntmps89
    go_wp2
    go_ret
    exact ⟨rfl, (Keeps.refl _ w).alloc _⟩

end Go.Proofs.YtipejahmjdamjaaGreatDoor.Tl
namespace Go.Proofs.YtipejahmjdamjaaGreatDoor.Tl
open Go.RowKit Go.Shelf
set_option linter.unusedVariables false
set_option maxRecDepth 6000

/-- The document's TLB in the memory; all its blocks are among G. -/
def Rf (w : World) (d : Nat) (L : List Lf) (G : Nat → Prop) : Prop :=
  ∃ a c, Blk w d [.slice a L.length c] 94 ∧ SegL w a L ∧ (L.length ≤ c ∧ c ≤ maxLen) ∧ L.length ≤ 4 ∧ G d ∧ (L ≠ [] → ∀ x, a = some x → G x.block ∧ x.block ≠ d) ∧ ∀ b, G b → b < w.heap.size

theorem Rf.kept {S : Nat → Prop} {w w' : World} {d : Nat} {L : List Lf} {G : Nat → Prop} (h : Rf w d L G) (hK : Keeps S w w') (hn : ∀ b, G b → ¬ S b) : Rf w' d L G := by
  obtain ⟨a, c, h1, h2, h3, h4, h5, h6, h7⟩ := h
  exact ⟨a, c, h1.kept hK (hn d h5), h2.kept2 hK fun hl x hx => hn _ (h6 hl x hx).1, h3, h4, h5, h6, fun b hb => Nat.lt_of_lt_of_le (h7 b hb) hK.size⟩
theorem Rf.lt {w : World} {d : Nat} {L : List Lf} {G : Nat → Prop} (h : Rf w d L G) : ∀ b, G b → b < w.heap.size := by
  obtain ⟨a, c, h1, h2, h3, h4, h5, h6, h7⟩ := h
  exact h7
theorem Rf.le {w : World} {d : Nat} {L : List Lf} {G : Nat → Prop} (h : Rf w d L G) : L.length ≤ 4 := by
  obtain ⟨a, c, h1, h2, h3, h4, h5, h6, h7⟩ := h
  exact h4

/-- Where it is now. -/
def NowR (w w' : World) (d : Nat) (L : List Lf) (G : Nat → Prop) : Prop :=
  (∃ G', Rf w' d L G' ∧ ∀ b, G' b → G b ∨ w.heap.size ≤ b) ∧ Keeps G w w'

theorem nowR_same {w w' : World} {d : Nat} {L : List Lf} {G : Nat → Prop} (h : Rf w d L G) (hK : Keeps (fun _ => False) w w') : NowR w w' d L G :=
  ⟨⟨G, h.kept hK fun _ _ h => h, fun b hb => .inl hb⟩, hK.mono fun _ _ h => h.elim⟩

theorem nowR_mk {w w' : World} {d : Nat} {L : List Lf} {G : Nat → Prop} {a : Option Addr} {c : Nat} (h : Blk w' d [.slice a L.length c] 94) (hG : G d) (hlt : ∀ b, G b → b < w.heap.size) (hK : Keeps G w w') (hs : SegL w' a L) (hc : L.length ≤ c ∧ c ≤ maxLen) (h4 : L.length ≤ 4)
    (ha : L ≠ [] → ∀ x, a = some x → w.heap.size ≤ x.block ∧ x.block < w'.heap.size) : NowR w w' d L G := by
  have hd := hlt d hG
  refine ⟨⟨fun b => (G b ∨ w.heap.size ≤ b) ∧ b < w'.heap.size, ⟨a, c, h, hs, hc, h4, ⟨.inl hG, Nat.lt_of_lt_of_le hd hK.size⟩, fun hl x hx => ?_, fun b hb => hb.2⟩, fun b hb => hb.1⟩, hK⟩
  have := ha hl x hx
  exact ⟨⟨.inr this.1, this.2⟩, by omega⟩

/-- A new list is laid into it. -/
theorem nowR_set {w w1 : World} {d : Nat} {L : List Lf} {G : Nat → Prop} {u : Value} (h : Blk w1 d [u] 94) (hG : G d) (hlt : ∀ b, G b → b < w.heap.size) (hK : Keeps (fun _ => False) w w1) {a : Option Addr} {c : Nat} (hs : SegL w1 a L) (hc : L.length ≤ c ∧ c ≤ maxLen) (h4 : L.length ≤ 4)
    (ha : L ≠ [] → ∀ x, a = some x → w.heap.size ≤ x.block ∧ x.block < w1.heap.size) : NowR w (w1.setCell ⟨d, 0, none⟩ (.slice a L.length c)) d L G := by
  have hKs : Keeps (fun b => b = d) w1 (w1.setCell ⟨d, 0, none⟩ (.slice a L.length c)) := (Keeps.refl _ w1).setCell _ _ fun _ => rfl
  have hd := hlt d hG
  refine ⟨⟨fun b => (G b ∨ w.heap.size ≤ b) ∧ b < w1.heap.size, ⟨a, c, h.setCell 0 _, hs.kept2 hKs fun hl x hx he => ?_, hc, h4, ⟨.inl hG, Nat.lt_of_lt_of_le hd hK.size⟩, fun hl x hx => ?_, fun b hb => ?_⟩, fun b hb => hb.1⟩, ?_⟩
  · have := ha hl x hx; omega
  · have := ha hl x hx
    exact ⟨⟨.inr this.1, this.2⟩, by omega⟩
  · simp; exact hb.2
  · exact (hK.mono fun _ _ h => h.elim).trans hKs fun b hb he => by rw [he]; exact hG

theorem flushR_any (d : Nat) (L : List Lf) (G : Nat → Prop) (w : World) (h : Rf w d L G) :
    Calls Tryz.prog 78 #[ptr d] w fun r w' => r = .returned (.tuple #[]) ∧ NowR w w' d [] G := by
  obtain ⟨a, c, h1, h2, h3, h4, h5, h6, h7⟩ := h
  have c0 := h1.cell (i := 0) rfl
  have f0 := h1.frozen 0
  have HN : Hid (NowR w (w.setCell ⟨d, 0, none⟩ (.slice none 0 0)) d [] G) := nowR_set (L := []) h1 h5 h7 (Keeps.refl _ w) (.inl rfl) ⟨Nat.le_refl _, Nat.zero_le _⟩ (by simp) (fun h => absurd rfl h)
  clear h1 h2 h3 h4 h5 h6 h7
  go_enter Tryz.func78, Tryz.ntmps78
  go_wp2
  go_end0
  exact ⟨rfl, HN.out⟩

set_option maxHeartbeats 1000000 in
theorem findR_any (d : Nat) (L : List Lf) (G : Nat → Prop) (p : Int) (w : World) (h : Rf w d L G) :
    Calls Tryz.prog 100 #[ptr d, .int .i64 p] w fun r w' => r = .returned (.tuple #[((findT p L).getD Lf.none).v, .bool (findT p L).isSome]) ∧ NowR w w' d (touchT p L) G := by
  have hR := h
  obtain ⟨a, c, h1, h2, h3, h4, h5, h6, h7⟩ := h
  obtain ⟨W, hW⟩ : ∃ W, W = w.alloc (.cells #[.int .i64 0, .int .i64 0, .int .i64 0] 64) := ⟨_, rfl⟩
  have hKW : Keeps (fun _ => False) w W := by rw [hW]; exact (Keeps.refl _ w).alloc _
  have hBr : Blk W w.heap.size Lf.none.vs 64 := by rw [hW]; exact Blk.new w _ 64
  have h1W := h1.kept hKW fun h => h
  have h2W := h2.kept hKW fun _ _ h => h
  have c0 := h1W.cell (i := 0) rfl
  rw [hW] at c0
  have HH : Hid (Calls _ _ _ _ _) := has_any a L c p W h3 h2W
  have hltd := h1.lt
  have HW : Hid (W = _ ∧ Keeps (fun _ => False) w W ∧ Blk W w.heap.size Lf.none.vs 64 ∧ Blk W d [.slice a L.length c] 94 ∧ SegL W a L ∧ Rf w d L G) := ⟨hW, hKW, hBr, h1W, h2W, hR⟩
  have HC : Hid ((L.length ≤ c ∧ c ≤ maxLen) ∧ L.length ≤ 4 ∧ G d ∧ ∀ b, G b → b < w.heap.size) := ⟨h3, h4, h5, h7⟩
  have hc3 : (c : Int) ≤ 9223372036854775807 := by unfold maxLen at h3; omega
  obtain ⟨n, hn⟩ : ∃ n, n = L.length := ⟨_, rfl⟩
  rw [← hn] at c0 HH
  have hc2 : (n : Int) ≤ c := by omega
  have HN : Hid (n = L.length) := hn
  clear hW hKW hBr h1W h2W h1 h2 h3 h4 h5 h6 h7 hR hn
  go_enter Tryz.func100, Tryz.ntmps100
  go_wp2_with fail
  rw [← HW.out.1]
  refine HH.out.mono ?_
  rintro r w1 ⟨⟨q, rfl, hq⟩, rfl⟩
  clear HH c0
  rcases hq with ⟨rfl, hf⟩ | ⟨i, x, rfl, hx, hf⟩
  · have HF : Hid (findT p L = none) := hf
    have hB := HW.out.2.2.1
    have c0 := hB.cell (i := 0) rfl
    have c1 := hB.cell (i := 1) rfl
    have c2 := hB.cell (i := 2) rfl
    have f0 := hB.frozen 0
    have f1 := hB.frozen 1
    have f2 := hB.frozen 2
    clear hf hB
    go_wp2
    refine bodyPost_ret (results_cell_tmp rfl _ _ _ Lf.none.v rfl (load_leaf (HW.out.2.2.1.setLeaf Lf.none))) rfl ?_
    unfold touchT
    rw [HF.out]
    exact ⟨rfl, nowR_same HW.out.2.2.2.2.2 (HW.out.2.1.setLeaf w.heap.size Lf.none fun h => by omega)⟩
  · obtain ⟨g, o, rfl, hg⟩ : ∃ g o, a = some ⟨g, o, none⟩ ∧ LeafAt w1 g (o + i * 3) x := by
      rcases HW.out.2.2.2.2.1 with h | ⟨g, o, ha, h⟩
      · rw [h] at hx; simp at hx
      · exact ⟨g, o, ha, h i x hx⟩
    have hin : i < L.length := (List.getElem?_eq_some_iff.1 hx).1
    have hi2 : (i : Int) < n := by have := HN.out; omega
    have HF : Hid (findT p L = some x) := hf
    have e0 := HW.out.2.2.2.1.cell (i := 0) rfl
    rw [← HN.out] at e0
    have hg2 := hg.lt
    have hlt2 := HW.out.2.2.2.1.lt
    obtain ⟨x0, x1, x2⟩ := hg
    obtain ⟨W2, hW2⟩ : ∃ W2, W2 = w1.alloc (.cells #[.int .i64 x.p, .int .i64 x.f, .int .i64 x.r] 64) := ⟨_, rfl⟩
    have hK2 : Keeps (fun _ => False) w1 W2 := by rw [hW2]; exact (Keeps.refl _ w1).alloc _
    have hBx : Blk W2 w1.heap.size x.vs 64 := by rw [hW2]; exact Blk.new w1 _ 64
    have HO : Hid (Calls _ _ _ _ _) := without_any (some ⟨g, o, none⟩) L c p W2 HC.out.1 (by have := HC.out.2.1; omega) (HW.out.2.2.2.2.1.kept hK2 fun _ _ h => h)
    rw [← HN.out] at HO
    have H2 : Hid (W2 = _ ∧ Keeps (fun _ => False) w1 W2 ∧ Blk W2 w1.heap.size x.vs 64) := ⟨hW2, hK2, hBx⟩
    clear hx hf hin hW2 hK2 hBx
    go_wp2_with fail
    rw [← H2.out.1]
    refine HO.out.mono ?_
    rintro r w3 ⟨v, rfl, hO, hgv, hK3⟩
    obtain ⟨v', W', happ, hown', hgr⟩ := append_leaf x v _ _ hO (by have := wo_le p L; have := HC.out.2.1; omega)
    have HAP : Hid (∀ ty, _) := happ
    have hKv : Keeps (fun _ => False) W2 W' := hK3.trans hgr.keeps fun b hb he => by have := hgv b he.symm; omega
    have hd4 : Blk W' d [.slice (some ⟨g, o, none⟩) L.length c] 94 := (HW.out.2.2.2.1.kept H2.out.2.1 fun h => h).kept hKv fun h => h
    have hB3 : Blk w3 w1.heap.size x.vs 64 := H2.out.2.2.kept hK3 fun h => h
    have l0 := hB3.cell (i := 0) rfl
    have l1 := hB3.cell (i := 1) rfl
    have l2 := hB3.cell (i := 2) rfl
    have hlt3 := hB3.lt
    have d0 := hd4.cell (i := 0) rfl
    have df := hd4.frozen 0
    have HE : Hid (Keeps (fun _ => False) W2 W' ∧ W'.ownsRow 0 64 3 v' (touchT p L).length (flatL (touchT p L)) ∧ (∀ g, v'.ownBlock = some g → W2.heap.size ≤ g) ∧ Blk W' d [.slice (some ⟨g, o, none⟩) L.length c] 94 ∧ Blk W' w1.heap.size x.vs 64) := by
      have e1 : touchT p L = wo p L ++ [x] := by unfold touchT; rw [HF.out]
      refine ⟨hKv, ?_, fun g' hg' => ?_, hd4, H2.out.2.2.kept hKv fun h => h⟩
      · rw [e1, flatL_append, flatL_one, List.length_append]; exact hown'
      · rcases hgr.fresh with e | ⟨z, e, hz⟩
        · rw [e] at hg'; exact hgv g' hg'
        · rw [e] at hg'; cases hg'; have := hK3.size; omega
    have hBr := (HW.out.2.2.1.kept H2.out.2.1 fun h => h).kept hKv fun h => h
    have r0 := hBr.cell (i := 0) rfl
    have r1 := hBr.cell (i := 1) rfl
    have r2 := hBr.cell (i := 2) rfl
    have rf0 := hBr.frozen 0
    have rf1 := hBr.frozen 1
    have rf2 := hBr.frozen 2
    have hBx4 := H2.out.2.2.kept hKv fun h => h
    have m0 := hBx4.cell (i := 0) rfl
    have m1 := hBx4.cell (i := 1) rfl
    have m2 := hBx4.cell (i := 2) rfl
    have hz1 : w.heap.size < w1.heap.size := HW.out.2.2.1.lt
    have n1 : w1.heap.size ≠ d := by omega
    have n2 : w.heap.size ≠ d := by omega
    have n3 : d ≠ w.heap.size := by omega
    have n4 : w1.heap.size ≠ w.heap.size := by omega
    have HBr : Hid (Blk W' w.heap.size Lf.none.vs 64) := hBr
    clear happ hown' hgr hKv hd4 hB3 hO hgv hK3 HO x0 x1 x2 e0 hBr hBx4
    obtain ⟨a', c', rfl, q1, q2, q3, q4⟩ := row_val HE.out.2.1
    go_wp2_with (at_builtin; go_must (refine wpList_append_run rfl _ _ 42 42 rfl _ _ _ W' rfl rfl HAP.out ?_; refine Hid.out ?_))
    unfold Hid
    clear l0 l1 l2 HAP hlt3
    go_wp2
    have hX : Blk (W'.setCell ⟨d, 0, none⟩ (.slice a' (touchT p L).length c')) w.heap.size Lf.none.vs 64 := HBr.out.setCell_ne n2 _
    refine bodyPost_ret (results_cell_tmp rfl _ _ _ x.v rfl (load_leaf (hX.setLeaf x))) rfl ?_
    rw [HF.out]
    refine ⟨rfl, ?_⟩
    obtain ⟨e1, e2, e3, e4, e5⟩ := HE.out
    obtain ⟨-, b2, b3, b4⟩ := HC.out
    have hK' : Keeps (fun _ => False) w W' := (HW.out.2.1.trans H2.out.2.1 fun _ _ h => h).trans e1 fun _ _ h => h
    have hz2 := H2.out.2.1.size
    have hKs : Keeps (fun b => b = d) W' (W'.setCell ⟨d, 0, none⟩ (.slice a' (touchT p L).length c')) := (Keeps.refl _ W').setCell _ _ fun _ => rfl
    have hK4 := (Keeps.refl (fun b => b = w.heap.size) (W'.setCell ⟨d, 0, none⟩ (.slice a' (touchT p L).length c'))).setLeaf w.heap.size x (fun _ => rfl)
    refine nowR_mk ((e4.setCell 0 _).kept hK4 n3) b3 b4 ?_ ((q4.kept2 hKs fun hl y hy he => ?_).kept2 hK4 fun hl y hy he => ?_) ⟨q1, by unfold maxLen; omega⟩ (touchT_le p b2) fun hl y hy => ⟨by have := e3 _ (q3 y hy); omega, ?_⟩
    · exact ((hK'.mono fun _ _ h => h.elim).trans hKs fun b hb he => by rw [he]; exact b3).trans hK4 fun b hb he => by omega
    · have := e3 _ (q3 y hy); omega
    · have := e3 _ (q3 y hy); omega
    · simpa using owns_lt e2 (q3 y hy)

set_option maxHeartbeats 1000000 in
theorem putR_no (d : Nat) (L : List Lf) (G : Nat → Prop) (l : Lf) (w : World) (h : Rf w d L G) (hm : mayB l = false) :
    Calls Tryz.prog 102 #[ptr d, l.v] w fun r w' => r = .returned (.int .i64 80) ∧ NowR w w' d L G := by
  obtain ⟨W, hW⟩ : ∃ W, W = w.alloc (.cells #[.int .i64 l.p, .int .i64 l.f, .int .i64 l.r] 64) := ⟨_, rfl⟩
  have hKW : Keeps (fun _ => False) w W := by rw [hW]; exact (Keeps.refl _ w).alloc _
  have H1 : Hid (Calls _ _ _ _ _) := mayR_any l W
  rw [hm] at H1
  have HW : Hid (W = _ ∧ Keeps (fun _ => False) w W ∧ Rf w d L G) := ⟨hW, hKW, h⟩
  clear hW hKW h hm
  go_enter Tryz.func102, Tryz.ntmps102
  go_wp2_with fail
  rw [← HW.out.1]
  refine H1.out.mono ?_
  rintro r w1 ⟨rfl, hK⟩
  have HK : Hid (Keeps (fun _ => False) W w1) := hK
  clear hK H1
  go_wp2
  go_ret
  exact ⟨rfl, nowR_same HW.out.2.2 (HW.out.2.1.trans HK.out fun _ _ h => h)⟩

set_option maxHeartbeats 1000000 in
theorem putR_yes (d : Nat) (L : List Lf) (G : Nat → Prop) (l : Lf) (w : World) (h : Rf w d L G) (hm : mayB l = true) :
    Calls Tryz.prog 102 #[ptr d, l.v] w fun r w' => r = .returned (.int .i64 0) ∧ NowR w w' d (putT l L) G := by
  obtain ⟨W, hW⟩ : ∃ W, W = w.alloc (.cells #[.int .i64 l.p, .int .i64 l.f, .int .i64 l.r] 64) := ⟨_, rfl⟩
  have hKW : Keeps (fun _ => False) w W := by rw [hW]; exact (Keeps.refl _ w).alloc _
  have hBl : Blk W w.heap.size l.vs 64 := by rw [hW]; exact Blk.new w _ 64
  have H1 : Hid (Calls _ _ _ _ _) := mayR_any l W
  rw [hm] at H1
  obtain ⟨a, c, h1, h2, h3, h4, h5, h6, h7⟩ := h
  have HW : Hid (W = _ ∧ Keeps (fun _ => False) w W ∧ Blk W w.heap.size l.vs 64 ∧ Blk w d [.slice a L.length c] 94 ∧ SegL w a L) := ⟨hW, hKW, hBl, h1, h2⟩
  have HC : Hid ((L.length ≤ c ∧ c ≤ maxLen) ∧ L.length ≤ 4 ∧ G d ∧ ∀ b, G b → b < w.heap.size) := ⟨h3, h4, h5, h7⟩
  clear hW hKW hm hBl h1 h2 h3 h4 h5 h6 h7
  go_enter Tryz.func102, Tryz.ntmps102
  go_wp2_with fail
  rw [← HW.out.1]
  refine H1.out.mono ?_
  rintro r w1 ⟨rfl, hK⟩
  have hKw : Keeps (fun _ => False) w w1 := HW.out.2.1.trans hK fun _ _ h => h
  have hB1 : Blk w1 w.heap.size l.vs 64 := HW.out.2.2.1.kept hK fun h => h
  have hd1 := HW.out.2.2.2.1.kept hKw fun h => h
  have HK : Hid (Keeps (fun _ => False) w w1 ∧ Blk w1 w.heap.size l.vs 64 ∧ Blk w1 d [.slice a L.length c] 94) := ⟨hKw, hB1, hd1⟩
  have l0 := hB1.cell (i := 0) rfl
  have d0 := hd1.cell (i := 0) rfl
  have HO : Hid (∀ q, Calls _ _ _ _ _) := fun q => without_any a L c l.p (w1.drewN q) HC.out.1 (by have := HC.out.2.1; omega) ((HW.out.2.2.2.2.kept hKw fun _ _ h => h).kept ((Keeps.refl (fun _ => False) w1).drewN q) fun _ _ h => h)
  clear hK hKw hB1 hd1 H1
  go_wp2_with fail
  refine region_tail 6 (by kernel_rfl) ?_
  simp only [List.take_succ_cons, List.take_zero, List.drop_succ_cons, List.drop_zero]
  repeat still_step
  refine wpStill_nil ?_
  go_wp2_with fail
  refine (HO.out 1).mono ?_
  rintro r w3 ⟨v, rfl, hO, hgv, hK3⟩
  have hK3' : Keeps (fun _ => False) w1 w3 := hK3.fromDrewN
  have hgv' : ∀ g, v.ownBlock = some g → w1.heap.size ≤ g := hgv
  obtain ⟨v', W', happ, hown', hgr⟩ := append_leaf l v _ _ hO (by have := wo_le l.p L; have := HC.out.2.1; omega)
  have HAP : Hid (∀ ty, _) := happ
  have hKv : Keeps (fun _ => False) w1 W' := hK3'.trans hgr.keeps fun b hb he => by have := hgv' b he.symm; omega
  have hd4 : Blk W' d [.slice a L.length c] 94 := HK.out.2.2.kept hKv fun h => h
  have hB3 : Blk w3 w.heap.size l.vs 64 := HK.out.2.1.kept hK3' fun h => h
  obtain ⟨R, hR⟩ : ∃ R, R = wo l.p L ++ [l] := ⟨_, rfl⟩
  have hown2 : W'.ownsRow 0 64 3 v' R.length (flatL R) := by
    rw [hR, flatL_append, flatL_one, List.length_append]; exact hown'
  obtain ⟨a', c', rfl, q1, q2, q3, q4⟩ := row_val hown2
  have hgv2 : ∀ y, a' = some y → w1.heap.size ≤ y.block ∧ y.block < W'.heap.size := fun y hy => by
    refine ⟨?_, owns_lt hown2 (q3 y hy)⟩
    rcases hgr.fresh with e | ⟨z, e, hz⟩
    · exact hgv' _ (e ▸ q3 y hy)
    · have h5 := q3 y hy
      rw [e] at h5; cases h5
      have := hK3'.size; omega
  have hR5 : R.length ≤ 5 := by rw [hR]; have := wo_le l.p L; have := HC.out.2.1; simp; omega
  have hR1 : 1 ≤ R.length := by rw [hR]; simp
  have HE : Hid (Keeps (fun _ => False) w1 W' ∧ SegL W' a' R ∧ (∀ y, a' = some y → w1.heap.size ≤ y.block ∧ y.block < W'.heap.size) ∧ Blk W' d [.slice a L.length c] 94 ∧ R = wo l.p L ++ [l] ∧ (R.length ≤ c' ∧ c' ≤ maxLen)) := ⟨hKv, q4, hgv2, hd4, hR, q1, by unfold maxLen; omega⟩
  clear l0 d0
  have l0 := hB3.cell (i := 0) rfl
  have l1 := hB3.cell (i := 1) rfl
  have l2 := hB3.cell (i := 2) rfl
  have hlt3 := hB3.lt
  have d0 := hd4.cell (i := 0) rfl
  have df := hd4.frozen 0
  obtain ⟨N, hN⟩ : ∃ N, N = R.length := ⟨_, rfl⟩
  rw [← hN] at HAP hR5 hR1 q1
  have HN : Hid (N = R.length) := hN
  have hq1 : (N : Int) ≤ c' := by omega
  obtain ⟨g', hg'⟩ : ∃ g', a' = some ⟨g', 0, none⟩ := by
    rcases hown2.2 with ⟨h, h'⟩ | ⟨g', cap, cur, h, _⟩
    · omega
    · simp at h; exact ⟨g', h.1⟩
  subst hg'
  clear happ hown' hgr hKv hd4 hB3 hO hgv hK3 HO hgv' hK3' hown2 hgv2 hR q3 q4 hN
  by_cases h5 : 4 < N
  · have h5' : (4 : Int) < N := by omega
    go_wp2_with (at_builtin; go_must (refine wpList_append_run rfl _ _ 42 42 rfl _ _ _ W' rfl rfl HAP.out ?_; refine Hid.out ?_))
    unfold Hid
    clear l0 l1 l2 HAP hlt3
    go_wp2
    go_ret
    refine ⟨rfl, ?_⟩
    obtain ⟨e1, e2, e3, e4, e5, e6⟩ := HE.out
    obtain ⟨-, b2, b3, b4⟩ := HC.out
    have hp : putT l L = R.tail := by unfold putT; rw [← e5, if_pos (by rw [← HN.out]; exact h5)]
    have hl : R.tail.length = N - 1 := by rw [List.length_tail, ← HN.out]
    rw [hp, ← hl]
    have hb := e3 _ rfl
    have hz := HK.out.1.size
    have hdl := b4 d b3
    have hseg : SegL W' (some ⟨g', 3, none⟩) R.tail := by
      rcases e2 with h | ⟨g, o, ha, h⟩
      · rw [h]; exact .inl rfl
      · simp at ha
        obtain ⟨rfl, rfl⟩ := ha
        refine .inr ⟨g', 3, rfl, fun j y hj => ?_⟩
        rw [List.getElem?_tail] at hj
        have := h (j + 1) y hj
        rw [show 0 + (j + 1) * 3 = 3 + j * 3 by omega] at this
        exact this
    have hKs : Keeps (fun b => b = d) W' ((W'.setCell ⟨d, 0, none⟩ (.slice (some ⟨g', 0, none⟩) N c')).setCell ⟨d, 0, none⟩ (.slice (some ⟨g', 3, none⟩) R.tail.length (c' - 1))) := ((Keeps.refl (fun b => b = d) W').setCell _ _ fun _ => rfl).setCell _ _ fun _ => rfl
    refine nowR_mk ((e4.setCell 0 _).setCell 0 _) b3 b4 ?_ (hseg.kept hKs fun y hy he => ?_) ⟨by rw [hl]; omega, by omega⟩ (by rw [hl]; omega) fun _ y hy => ?_
    · exact (((HK.out.1.trans e1 fun _ _ h => h).mono fun _ _ h => h.elim).trans hKs) fun b _ he => by rw [he]; exact b3
    · simp at hy; subst hy; simp at he hb; omega
    · simp at hy; subst hy; simp at hb ⊢; omega
  · have h5' : ¬ (4 : Int) < N := by omega
    go_wp2_with (at_builtin; go_must (refine wpList_append_run rfl _ _ 42 42 rfl _ _ _ W' rfl rfl HAP.out ?_; refine Hid.out ?_))
    unfold Hid
    clear l0 l1 l2 HAP hlt3
    go_wp2
    go_ret
    refine ⟨rfl, ?_⟩
    obtain ⟨e1, e2, e3, e4, e5, e6⟩ := HE.out
    obtain ⟨-, b2, b3, b4⟩ := HC.out
    have hp : putT l L = R := by unfold putT; rw [← e5, if_neg (by rw [← HN.out]; exact h5)]
    rw [hp, HN.out]
    refine nowR_set (w := w) e4 b3 b4 (HK.out.1.trans e1 fun _ _ h => h) e2 e6 (by rw [← HN.out]; omega) fun _ y hy => ?_
    have := HK.out.1.size
    have := e3 y hy
    omega

theorem seg_cells {w : World} {g : Nat} : ∀ {ls : List Lf} {o : Nat}, (∀ j l, ls[j]? = some l → LeafAt w g (o + j * 3) l) → ∀ j u, (flatL ls)[j]? = some u → w.cell? ⟨g, o + j, none⟩ = some u
  | [], _, _, j, u, hj => by simp [flatL] at hj
  | l :: r, o, h, j, u, hj => by
    have h0 := h 0 l rfl
    rw [Nat.zero_mul, Nat.add_zero] at h0
    have e : flatL (l :: r) = l.vs ++ flatL r := by simp [flatL]
    rw [e] at hj
    match j, hj with
    | 0, hj => simp at hj; rw [← hj]; exact h0.1
    | 1, hj => simp at hj; rw [← hj]; exact h0.2.1
    | 2, hj => simp at hj; rw [← hj]; exact h0.2.2
    | j + 3, hj =>
      have hj' : (flatL r)[j]? = some u := by simpa using hj
      have := seg_cells (ls := r) (o := o + 3) (fun i m hi => by
        have := h (i + 1) m (by simpa using hi)
        rw [show o + (i + 1) * 3 = o + 3 + i * 3 by omega] at this
        exact this) j u hj'
      rw [show o + (j + 3) = o + 3 + j by omega]
      exact this

theorem append_seg {w : World} (a : Option Addr) (ls : List Lf) (c : Nat) (hs : SegL w a ls) (hl : ls.length ≤ 1048576) :
    ∃ v' W', (∀ ty, (Builtin.append_ #[42, 42] ty #[.slice none 0 0, .slice a ls.length c]).run Tryz.prog w = .ok v' W') ∧ W'.ownsRow 0 64 3 v' ls.length (flatL ls) ∧ (∀ g, v'.ownBlock = some g → w.heap.size ≤ g) ∧ Keeps (fun _ => False) w W' := by
  obtain ⟨i0, hi, hz0, hz1, hz2⟩ := info_parts Tryz.info64
  cases a with
  | none =>
    obtain rfl : ls = [] := by
      rcases hs with h | ⟨g, o, ha, _⟩
      · exact h
      · simp at ha
    exact ⟨.slice none 0 0, w, fun ty => append_none 42 64 i0 3 Tryz.underlying42 hi hz1 (by omega) (.slice none 0 0) 0 c [] (World.ownsRow_nil w 0 64 3) ty, World.ownsRow_nil w 0 64 3, fun g hg => by simp [Value.ownBlock] at hg, Keeps.refl _ _⟩
  | some x =>
    obtain ⟨v', W', h1, h2, h3, h4⟩ := append_many 42 64 i0 (.agg #[.int .i64 0, .int .i64 0, .int .i64 0]) 3 24 Tryz.underlying42 hi hz0 hz1 hz2 rfl (by omega) (.slice none 0 0) 0 [] (World.ownsRow_nil w 0 64 3) x ls.length c (flatL ls) (flatL_length ls) (by
      intro j u hj
      rcases hs with h | ⟨g, o, ha, h⟩
      · rw [h] at hj; simp [flatL] at hj
      · simp at ha
        subst ha
        rw [addr_add]
        exact seg_cells h j u hj) (by
      intro u hu
      obtain ⟨l, _, hl⟩ := List.mem_flatMap.1 hu
      simp at hl
      rcases hl with rfl | rfl | rfl <;> rfl) (by unfold maxLen; omega) (by omega)
    refine ⟨v', W', h1, by simpa using h2, fun g hg => ?_, h4.mono fun b _ he => by simp [Value.ownBlock] at he⟩
    rcases h3 with h | ⟨k, h, hk⟩
    · rw [h] at hg; simp [Value.ownBlock] at hg
    · rw [h] at hg; cases hg; exact hk

theorem leavesR_any (d : Nat) (L : List Lf) (G : Nat → Prop) (w : World) (h : Rf w d L G) :
    Calls Tryz.prog 81 #[ptr d] w fun r w' => ∃ v, r = .returned v ∧ w'.ownsRow 0 64 3 v L.length (flatL L) ∧ (∀ g, v.ownBlock = some g → w.heap.size ≤ g) ∧ Keeps (fun _ => False) w w' := by
  obtain ⟨a, c, h1, h2, h3, h4, h5, h6, h7⟩ := h
  have c0 := h1.cell (i := 0) rfl
  obtain ⟨v', W', happ, hown', hgv, hK⟩ := append_seg a L c h2 (by omega)
  have HAP : Hid (∀ ty, _) := happ
  have HE : Hid (W'.ownsRow 0 64 3 v' L.length (flatL L) ∧ (∀ g, v'.ownBlock = some g → w.heap.size ≤ g) ∧ Keeps (fun _ => False) w W') := ⟨hown', hgv, hK⟩
  clear h1 h2 h3 h4 h5 h6 h7 happ hown' hgv hK
  go_enter Tryz.func81, Tryz.ntmps81
  go_wp2_with (at_builtin; go_must (refine wpList_append_run rfl _ _ 42 42 rfl _ _ _ W' rfl rfl HAP.out ?_; refine Hid.out ?_))
  unfold Hid
  clear c0 HAP
  go_wp2
  go_ret
  exact ⟨v', rfl, HE.out⟩

end Go.Proofs.YtipejahmjdamjaaGreatDoor.Tl
