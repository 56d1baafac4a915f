import Derived.Test.YtipejahmjdamjaaGreatDoorChKp
import Derived.Test.YtipejahmjdamjaaGreatDoorChDd
namespace Go.Proofs.YtipejahmjdamjaaGreatDoor.Ch
open Go.RowKit Go.Shelf
set_option linter.unusedVariables false
set_option maxRecDepth 6000

/-- Four lists that can be read, in blocks among D. -/
structure LD (w : World) (G : Nat) (vs : Nat → Value) (ls : Nat → List Int) (D : Nat → Prop) : Prop where
  lst : Lst w G vs ls
  g : D G
  s : ∀ i, i < 4 → ∀ a n c, vs i = .slice a n c → ∀ x, a = some x → D x.block

theorem LD.kept {S D : Nat → Prop} {w w' : World} {G : Nat} {vs : Nat → Value} {ls : Nat → List Int} (h : LD w G vs ls D) (hK : Keeps S w w') (hD : ∀ b, D b → ¬ S b) : LD w' G vs ls D := by
  refine ⟨⟨fun i hi => cell_kept (h.lst.cell i hi) hK (hD _ h.g), fun i hi => ?_⟩, h.g, h.s⟩
  obtain ⟨a, c, h1, h2, h3⟩ := h.lst.seg i hi
  exact ⟨a, c, h1, h2.kept hK fun x hx => hD _ (h.s i hi a _ c h1 x hx), h3⟩
theorem LD.mono {D D' : Nat → Prop} {w : World} {G : Nat} {vs : Nat → Value} {ls : Nat → List Int} (h : LD w G vs ls D) (hD : ∀ b, D b → D' b) : LD w G vs ls D' :=
  ⟨h.lst, hD _ h.g, fun i hi a n c e x hx => hD _ (h.s i hi a n c e x hx)⟩
theorem Four.ld {w : World} {G : Nat} {vs : Nat → Value} {ls : Nat → List Int} {D : Nat → Prop} (h : Four w G vs ls D) (hG : D G) : LD w G vs ls D := by
  refine ⟨h.lst, hG, fun i hi a n c e x hx => ?_⟩
  obtain ⟨a', c', h1, h2, h3, h4⟩ := owns_seg (h.row i hi)
  rw [e] at h1
  injection h1 with e1 e2 e3
  have := h3 x (by rw [← e1]; exact hx)
  exact (h.own i hi _ this).2.1

theorem append_row {w : World} (a : Option Addr) (m c : Nat) (v : Value) (n : Nat) (vs : List Value) (hown : w.ownsRow 0 99 1 v n vs) (hn : n ≤ 1000) :
    ∃ v' W', (∀ ty, (Builtin.append_ #[41, 41] ty #[v, .slice (some ⟨w.heap.size, 0, none⟩) 1 1]).run Tryz.prog (w.alloc (.cells #[.slice a m c] 99)) = .ok v' W') ∧ W'.ownsRow 0 99 1 v' (n + 1) (vs ++ [.slice a m c]) ∧ Grew w v W' v' := by
  obtain ⟨i0, hi, hz0, hz1, hz2⟩ := info_parts Tryz.info99
  obtain ⟨v', W', h1, h2, h3, h4⟩ := append_new 41 99 i0 (.slice none 0 0) 1 24 Tryz.underlying41 hi hz0 hz1 hz2 rfl (by omega) v n vs hown #[.slice a m c] rfl (by
    intro y hy
    simp at hy
    rw [hy]; rfl) (by unfold maxLen; omega) (by omega)
  exact ⟨v', W', h1, h2, h3, h4⟩

/-- The lists that are there already. -/
structure CR (w W : World) (v : Value) (rows : Nat → Value) (ls : Nat → List Int) (j : Nat) : Prop where
  own : W.ownsRow 0 99 1 v j ((List.range j).map rows)
  fresh : ∀ g, v.ownBlock = some g → w.heap.size ≤ g
  row : ∀ i, i < j → ∃ a c, rows i = .slice a (ls i).length c ∧ SegI W a (ls i) ∧ (ls i).length ≤ c ∧ ∀ x, a = some x → w.heap.size ≤ x.block ∧ v.ownBlock ≠ some x.block ∧ x.block < W.heap.size
  keeps : Keeps (fun _ => False) w W

theorem CR.kept {w W W' : World} {v : Value} {rows : Nat → Value} {ls : Nat → List Int} {j : Nat} (h : CR w W v rows ls j) (hK : Keeps (fun _ => False) W W') : CR w W' v rows ls j := by
  refine ⟨owns_kept h.own hK fun _ _ h => h, h.fresh, fun i hi => ?_, h.keeps.trans hK fun _ _ h => h⟩
  obtain ⟨a, c, h1, h2, h3, h4⟩ := h.row i hi
  exact ⟨a, c, h1, h2.kept hK fun _ _ h => h, h3, fun x hx => ⟨(h4 x hx).1, (h4 x hx).2.1, Nat.lt_of_lt_of_le (h4 x hx).2.2 hK.size⟩⟩

/-- One row more. -/
theorem CR.more {w Wo W W' : World} {v v' : Value} {rows : Nat → Value} {ls : Nat → List Int} {j : Nat} {a : Option Addr} {c : Nat} (h : CR w Wo v rows ls j) (hK : Keeps (fun _ => False) Wo W)
    (hs : SegI W a (ls j)) (hc : (ls j).length ≤ c) (ha : ∀ x, a = some x → Wo.heap.size ≤ x.block ∧ x.block < W.heap.size)
    (hO : W'.ownsRow 0 99 1 v' (j + 1) ((List.range j).map rows ++ [.slice a (ls j).length c])) (hG : Grew W v W' v') :
    CR w W' v' (fun i => if i = j then .slice a (ls j).length c else rows i) ls (j + 1) := by
  have h' := h.kept hK
  have hv : ∀ g, v.ownBlock = some g → g < Wo.heap.size := fun g hg => owns_lt h.own hg
  have hnew : ∀ g, v'.ownBlock = some g → v.ownBlock = some g ∨ W.heap.size ≤ g := by
    intro g hg
    rcases hG.fresh with e | ⟨b, e, hb⟩
    · exact .inl (by rw [← e]; exact hg)
    · rw [e] at hg; cases hg; exact .inr hb
  refine ⟨?_, ?_, ?_, ?_⟩
  · have e : (List.range (j + 1)).map (fun i => if i = j then Value.slice a (ls j).length c else rows i) = (List.range j).map rows ++ [.slice a (ls j).length c] := by
      rw [List.range_succ, List.map_append]
      congr 1
      · refine List.map_congr_left fun i hi => ?_
        have : i < j := by simpa using hi
        rw [if_neg (by omega)]
      · simp
    rw [e]
    exact hO
  · intro g hg
    rcases hnew g hg with h1 | h1
    · exact h.fresh g h1
    · have := h.keeps.size; have := hK.size; omega
  · intro i hi
    by_cases e : i = j
    · subst e
      simp only [if_pos]
      refine ⟨a, c, rfl, hs.kept hG.keeps fun x hx he => ?_, hc, fun x hx => ⟨?_, fun hb => ?_, ?_⟩⟩
      · have := hv _ he.symm; have := (ha x hx).1; omega
      · have := (ha x hx).1; have := h.keeps.size; omega
      · rcases hnew _ hb with h1 | h1
        · have := hv _ h1; have := (ha x hx).1; omega
        · have := (ha x hx).2; omega
      · exact Nat.lt_of_lt_of_le (ha x hx).2 hG.keeps.size
    · simp only [if_neg e]
      obtain ⟨a', c', g1, g2, g3, g4⟩ := h'.row i (by omega)
      refine ⟨a', c', g1, g2.kept hG.keeps fun x hx he => (g4 x hx).2.1 he.symm, g3, fun x hx => ⟨(g4 x hx).1, fun hb => ?_, Nat.lt_of_lt_of_le (g4 x hx).2.2 hG.keeps.size⟩⟩
      rcases hnew _ hb with h1 | h1
      · exact (g4 x hx).2.1 h1
      · have := (g4 x hx).2.2; omega
  · refine h'.keeps.trans hG.keeps fun b hb he => ?_
    have := h.fresh b he.symm; omega

theorem CR.ld {w W : World} {v : Value} {rows : Nat → Value} {ls : Nat → List Int} (h : CR w W v rows ls 4) : ∃ G cap, v = .slice (some ⟨G, 0, none⟩) 4 cap ∧ LD W G rows ls (fun b => w.heap.size ≤ b ∧ b < W.heap.size) := by
  have hh := h.own
  rcases hh.2 with ⟨_, h0⟩ | ⟨G, cap, cur, rfl, h5, h6, h7⟩
  · omega
  · refine ⟨G, cap, rfl, ⟨⟨fun i hi => ?_, fun i hi => ?_⟩, ⟨h.fresh G rfl, owns_lt hh rfl⟩, fun i hi a n c e x hx => ?_⟩⟩
    · have := hh.cells (g := G) rfl i (rows i) (by simp [hi])
      rw [addr_add, Nat.zero_add] at this
      exact this
    · obtain ⟨a, c, g1, g2, g3, g4⟩ := h.row i hi
      exact ⟨a, c, g1, g2, g3⟩
    · obtain ⟨a', c', g1, g2, g3, g4⟩ := h.row i hi
      rw [e] at g1
      injection g1 with e1 e2 e3
      have := g4 x (by rw [← e1]; exact hx)
      exact ⟨this.1, this.2.2⟩

end Go.Proofs.YtipejahmjdamjaaGreatDoor.Ch
namespace Go.Proofs.YtipejahmjdamjaaGreatDoor.Ch
open Go.RowKit Go.Shelf
set_option linter.unusedVariables false
set_option maxRecDepth 6000
set_option linter.unusedSimpArgs false
set_option maxRecDepth 6000

theorem linesR_nil (w : World) : Calls Tryz.prog 80 #[.pointer none] w fun r w' => r = .returned (.slice none 0 0) ∧ w' = w := by
  go_enter Tryz.func80, Tryz.ntmps80
  go_wp2
  go_ret
  exact ⟨rfl, rfl⟩

set_option maxHeartbeats 4000000 in
theorem linesR_any (b : Nat) (us : List Int) (u : Value) (F : Nat → Prop) (w : World) (h : Rc w b us u F) (hus : ∀ x ∈ us, 0 ≤ x) :
    Calls Tryz.prog 80 #[ptr b] w fun e w' => ∃ G vs cap, e = .returned (.slice (some ⟨G, 0, none⟩) 4 cap) ∧ LD w' G vs (fun (i : Nat) => hd (i : Int) us) (fun k => w.heap.size ≤ k ∧ k < w'.heap.size) ∧ Keeps (fun _ => False) w w' := by
  have H3 : Hid (∀ (s : Int) (w' : World), Keeps (fun _ => False) w w' → Calls Tryz.prog 115 #[ptr b, .int .i64 s] w' fun r w'' => ∃ v, r = .returned v ∧ w''.ownsRow 0 3 1 v (hd s us).length (flat (hd s us)) ∧ (∀ g, v.ownBlock = some g → w'.heap.size ≤ g) ∧ Keeps (fun _ => False) w' w'') :=
    fun s w' hK => held_any b us u F s w' (h.kept hK fun _ _ h => h) hus
  obtain ⟨ls, els⟩ : ∃ ls : Nat → List Int, ls = fun (i : Nat) => hd (i : Int) us := ⟨_, rfl⟩
  have HL : Hid (∀ i : Nat, hd (i : Int) us = ls i) := fun i => by rw [els]
  have H0 : Hid (CR w w (.slice none 0 0) (fun _ => undef) ls 0) := ⟨by simpa using World.ownsRow_nil w 0 99 1, fun g hg => by simp [Value.ownBlock] at hg, fun i hi => by omega, Keeps.refl _ _⟩
  rw [← els]
  clear h hus els
  go_enter Tryz.func80, Tryz.ntmps80
  go_wp2
  go_loopw [3, 7] (fun v i wr => ∃ (j : Nat) (rows : Nat → Value), j ≤ 4 ∧ i = .int .i64 j ∧ CR w wr v rows ls j) (fun _ i _ => 4 - (intOf i).toNat)
  case atStart => exact ⟨0, _, by omega, rfl, H0.out⟩
  case round =>
    obtain ⟨j, rows, hj, rfl, hC⟩ := hrel
    clear H0
    by_cases hlt : j < 4
    · have H4 : Hid (Calls _ _ _ _ _) := H3.out j wr hC.keeps
      have hji : (j : Int) < 4 := by omega
      obtain ⟨va, vc, rfl⟩ := owns_form hC.own
      have HC : Hid (CR w wr (.slice va j vc) rows ls j) := hC
      clear hC
      go_wp2_with fail
      refine H4.out.mono ?_
      rintro r w3 ⟨v3, rfl, hO3, hN3, hK3⟩
      obtain ⟨a3, c3, rfl, hs3, hb3, hc3⟩ := owns_seg hO3
      obtain ⟨v', W', happ, hown', hgr⟩ := append_row a3 (hd (j : Int) us).length c3 (.slice va j vc) j _ (owns_kept HC.out.own hK3 fun _ _ h => h) (by omega)
      have HAP : Hid (∀ ty, _) := happ
      have hlt3 : ∀ x, a3 = some x → x.block < w3.heap.size := fun x hx => owns_lt hO3 (hb3 x hx)
      rw [HL.out j] at hs3 hc3 hown'
      have HE : Hid (CR w W' v' _ ls (j + 1)) := HC.out.more hK3 hs3 hc3 (fun x hx => ⟨hN3 _ (hb3 x hx), hlt3 x hx⟩) hown' hgr
      clear hO3 hN3 hK3 hs3 hb3 hc3 H4 HC happ hown' hgr hlt3
      go_wp2_with (at_builtin; go_must (refine wpList_append_run rfl (.tmp 10) (.tmp 14) 41 41 rfl (.slice va j vc) (.slice (some ⟨w3.heap.size, 0, none⟩) 1 1) v' W' rfl rfl HAP.out ?_; refine Hid.out ?_))
      unfold Hid
      go_wp2
      go_roundw
      case rel => exact ⟨j + 1, _, by omega, by go_num, HE.out⟩
      case measure => simp [intOf]; omega
    · obtain rfl : j = 4 := by omega
      obtain ⟨G, cap, rfl, hD⟩ := hC.ld
      have HE : Hid (LD wr G rows ls (fun k => w.heap.size ≤ k ∧ k < wr.heap.size) ∧ Keeps (fun _ => False) w wr) := ⟨hD, hC.keeps⟩
      clear hC hD hj hlt
      go_wp2
      go_ret
      exact ⟨G, rows, cap, rfl, HE.out⟩

end Go.Proofs.YtipejahmjdamjaaGreatDoor.Ch
namespace Go.Proofs.YtipejahmjdamjaaGreatDoor.Ch
open Go.RowKit Go.Shelf
set_option linter.unusedVariables false
set_option maxRecDepth 6000
set_option linter.unusedSimpArgs false
set_option maxRecDepth 6000

/-- Lists of numbers that can be read at this address. -/
def SegL (w : World) (a : Option Addr) (lls : List (List Int)) : Prop :=
  lls = [] ∨ ∃ g o, a = some ⟨g, o, none⟩ ∧ ∀ j l, lls[j]? = some l → ∃ x c, w.cell? ⟨g, o + j, none⟩ = some (.slice x l.length c) ∧ SegI w x l ∧ l.length ≤ c ∧ (l.length : Int) ≤ 9223372036854775807

/-- Such lines as a set may hold; such as a cache may. -/
def okRow (s : Nat) (l : List Int) (m : Nat) : Prop := ∀ i, i < m → ∀ x, l[i]? = some x → 0 ≤ x ∧ x < 4096 ∧ x.tmod 4 = (s : Int) ∧ x ∉ l.take i
def MayL (lls : List (List Int)) : Prop := (lls.length = 0 ∨ lls.length = 4) ∧ ∀ s l, lls[s]? = some l → l.length ≤ 2 ∧ okRow s l l.length

/-- A truth value that says so. -/
def Says (P : Prop) (r : Ending) : Prop := ∃ b : Bool, r = .returned (.bool b) ∧ (b = true ↔ P)
theorem says_false {P : Prop} (h : ¬ P) : Says P (.returned (.bool false)) := ⟨false, rfl, fun e => (by cases e), fun e => (h e).elim⟩
theorem says_true {P : Prop} (h : P) : Says P (.returned (.bool true)) := ⟨true, rfl, fun _ => h, fun _ => rfl⟩

theorem segI_take {w : World} {a : Option Addr} {l : List Int} (h : SegI w a l) (m : Nat) : SegI w a (l.take m) := by
  rcases h with rfl | ⟨g, o, rfl, hc⟩
  · exact .inl (by simp)
  · refine .inr ⟨g, o, rfl, fun j hj => ?_⟩
    have hj2 : j < l.length := by rw [List.length_take] at hj; omega
    rw [List.getElem_take]
    exact hc j hj2

theorem may_odd (a : Option Addr) (n cap : Nat) (w : World) (h0 : (n : Int) ≠ 0) (h4 : (n : Int) ≠ 4) :
    Calls Tryz.prog 88 #[.slice a n cap] w fun r w' => r = .returned (.bool false) ∧ w' = w := by
  have f0 : ((n : Int) != 0) = true := by simpa using h0
  have f4 : ((n : Int) != 4) = true := by simpa using h4
  go_enter Tryz.func88, Tryz.ntmps88
  go_wp2
  go_ret
  exact ⟨rfl, rfl⟩

theorem may_none (a : Option Addr) (cap : Nat) (w : World) :
    Calls Tryz.prog 88 #[.slice a 0 cap] w fun r w' => r = .returned (.bool true) ∧ w' = w := by
  go_enter Tryz.func88, Tryz.ntmps88
  go_wp2
  go_loopw [16] (fun i wr => i = .int .i64 0 ∧ wr = w) (fun _ _ => 0)
  case atStart => exact ⟨rfl, rfl⟩
  case round =>
    obtain ⟨rfl, rfl⟩ := hrel
    go_wp2
    go_ret
    exact ⟨rfl, rfl⟩

set_option maxHeartbeats 4000000 in
theorem may_four (a : Option Addr) (lls : List (List Int)) (cap : Nat) (w : World) (hs : SegL w a lls) (hl : lls.length = 4) :
    Calls Tryz.prog 88 #[.slice a 4 cap] w fun r w' => Says (MayL lls) r ∧ w' = w := by
  have HS : Hid (SegL w a lls ∧ lls.length = 4) := ⟨hs, hl⟩
  rcases hs with h0 | ⟨G, O, rfl, h9⟩
  · rw [h0] at hl; simp at hl
  clear hl h9
  go_enter Tryz.func88, Tryz.ntmps88
  go_wp2
  go_loopw [16] (fun i wr => ∃ j : Nat, j ≤ 4 ∧ i = .int .i64 j ∧ wr = w ∧ ∀ s, s < j → ∀ l, lls[s]? = some l → l.length ≤ 2 ∧ okRow s l l.length) (fun i _ => 4 - (intOf i).toNat)
  case atStart => exact ⟨0, by omega, rfl, rfl, fun s hs => by omega⟩
  case round =>
    obtain ⟨j, hj, rfl, hw, hall⟩ := hrel
    obtain rfl := hw.symm
    clear hw
    have HA : Hid (∀ s, s < j → ∀ l, lls[s]? = some l → l.length ≤ 2 ∧ okRow s l l.length) := hall
    clear hall
    by_cases hlt : j < 4
    · obtain ⟨l, hl⟩ : ∃ l, lls[j]? = some l := ⟨_, List.getElem?_eq_getElem (by rw [HS.out.2]; exact hlt)⟩
      rcases HS.out.1 with h0 | ⟨G', O', e, hc⟩
      · have := HS.out.2; rw [h0] at this; simp at this
      cases e
      obtain ⟨x, c, hcell, hseg, hlc, hlm⟩ := hc j l hl
      have hji : (j : Int) < 4 := by omega
      have HL : Hid (lls[j]? = some l ∧ SegI w x l) := ⟨hl, hseg⟩
      obtain ⟨n, en⟩ : ∃ n, n = l.length := ⟨_, rfl⟩
      rw [← en] at hcell hlc hlm
      have HN : Hid (n = l.length) := en
      clear hl hseg en hc
      by_cases h2 : (n : Int) ≤ 2
      · clear hlm
        have HC : Hid (w.cell? ⟨G, O + j, none⟩ = some (.slice x n c)) := hcell
        go_wp2
        clear hcell
        go_loopw [30] (fun i wr => ∃ m : Nat, m ≤ n ∧ i = .int .i64 m ∧ wr = w ∧ okRow j l m) (fun i _ => n - (intOf i).toNat)
        case atStart => exact ⟨0, by omega, rfl, rfl, fun i hi => by omega⟩
        case round =>
          obtain ⟨m, hm, rfl, hw, hok⟩ := hrel
          obtain rfl := hw.symm
          clear hw
          have HO : Hid (okRow j l m) := hok
          clear hok
          have hcell := HC.out
          by_cases hmn : m < n
          · obtain ⟨y, hy⟩ : ∃ y, l[m]? = some y := ⟨_, List.getElem?_eq_getElem (by have := HN.out; omega)⟩
            rcases HL.out.2 with h0 | ⟨g, o, rfl, hcy⟩
            · rw [h0] at hy; simp at hy
            have hml : m < l.length := by have := HN.out; omega
            have hy2 := hcy m hml
            have ey : l[m]'hml = y := by have := List.getElem?_eq_getElem hml; rw [hy] at this; exact (Option.some.inj this).symm
            rw [ey] at hy2
            have HY : Hid (l[m]? = some y) := hy
            have hmi : (m : Int) < n := by omega
            have H5 : Hid (Calls _ _ _ _ _) := among_any (some ⟨g, o, none⟩) (l.take m) c y w (segI_take HL.out.2 m) (by rw [List.length_take]; omega)
            rw [List.length_take, Nat.min_eq_left (by omega)] at H5
            have HBAD : ∀ s : Prop, ¬ (0 ≤ y ∧ y < 4096 ∧ y.tmod 4 = (j : Int) ∧ y ∉ l.take m) → (¬ MayL lls) := fun _ hb hM => hb ((hM.2 j l HL.out.1).2 m hml y hy)
            have HB : Hid (¬ (0 ≤ y ∧ y < 4096 ∧ y.tmod 4 = (j : Int) ∧ y ∉ l.take m) → (¬ MayL lls)) := HBAD True
            clear HBAD hcy hy ey hml
            by_cases hn0 : y < 0
            · have HE : Hid (¬ MayL lls) := HB.out fun h => by omega
              clear HB H5
              go_wp2
              go_ret
              exact ⟨says_false HE.out, rfl⟩
            by_cases hn1 : y ≥ 4096
            · have HE : Hid (¬ MayL lls) := HB.out fun h => by omega
              clear HB H5
              go_wp2
              go_ret
              exact ⟨says_false HE.out, rfl⟩
            have ht : y.tmod 4 = y % 4 := Int.tmod_eq_emod_of_nonneg (by omega)
            by_cases hn2 : y % 4 = (j : Int)
            · have f2 : (y % 4 != (j : Int)) = false := by simp [hn2]
              obtain ⟨am, eam⟩ : ∃ am, am = decide (y ∈ l.take m) := ⟨_, rfl⟩
              rw [← eam] at H5
              have HAM : Hid (am = decide (y ∈ l.take m) ∧ y.tmod 4 = (j : Int)) := ⟨eam, by rw [ht]; exact hn2⟩
              clear hn2 eam ht
              go_wp2_with fail
              refine H5.out.mono ?_
              rintro r w3 ⟨rfl, rfl⟩
              clear H5
              cases am with
              | true =>
                have HE : Hid (¬ MayL lls) := HB.out fun h => h.2.2.2 (of_decide_eq_true HAM.out.1.symm)
                clear HB
                go_wp2
                go_ret
                exact ⟨says_false HE.out, rfl⟩
              | false =>
                have hok : okRow j l (m + 1) := fun i hi z hz => by
                  by_cases e : i = m
                  · subst e
                    rw [HY.out] at hz
                    cases hz
                    exact ⟨by omega, by omega, HAM.out.2, of_decide_eq_false HAM.out.1.symm⟩
                  · exact HO.out i (by omega) z hz
                have HE : Hid (okRow j l (m + 1)) := hok
                clear hok HB hn0 hn1
                go_wp2
                go_roundw
                case rel => exact ⟨m + 1, by omega, by go_num, trivial, HE.out⟩
                case measure => simp [intOf]; omega
            · have f2 : (y % 4 != (j : Int)) = true := by simpa using hn2
              have HE : Hid (¬ MayL lls) := HB.out fun h => hn2 (by rw [← ht]; exact h.2.2.1)
              clear HB H5 ht
              go_wp2
              go_ret
              exact ⟨says_false HE.out, rfl⟩
          · obtain rfl : m = n := by omega
            have hok : ∀ s, s < j + 1 → ∀ l, lls[s]? = some l → l.length ≤ 2 ∧ okRow s l l.length := fun s hs l' hl' => by
              by_cases e : s = j
              · subst e
                rw [HL.out.1] at hl'
                cases hl'
                rw [← HN.out]
                exact ⟨by omega, HO.out⟩
              · exact HA.out s (by omega) l' hl'
            have HE : Hid (∀ s, s < j + 1 → ∀ l, lls[s]? = some l → l.length ≤ 2 ∧ okRow s l l.length) := hok
            clear hok hm hmn
            go_wp2
            go_roundw
            case rel => exact ⟨j + 1, by omega, by go_num, trivial, HE.out⟩
            case measure => simp [intOf]; omega
      · have hgt : (n : Int) > 2 := by omega
        have HE : Hid (¬ MayL lls) := fun hM => by have := (hM.2 j l HL.out.1).1; have := HN.out; omega
        go_wp2
        go_ret
        exact ⟨says_false HE.out, rfl⟩
    · obtain rfl : j = 4 := by omega
      have HE : Hid (MayL lls) := ⟨.inr HS.out.2, fun s l hl => HA.out s (by have := (List.getElem?_eq_some_iff.1 hl).1; have := HS.out.2; omega) l hl⟩
      clear hj hlt
      go_wp2
      go_ret
      exact ⟨says_true HE.out, rfl⟩

end Go.Proofs.YtipejahmjdamjaaGreatDoor.Ch
namespace Go.Proofs.YtipejahmjdamjaaGreatDoor.Ch
open Go.RowKit Go.Shelf
set_option linter.unusedVariables false
set_option maxRecDepth 6000
set_option linter.unusedSimpArgs false
set_option maxRecDepth 6000

theorem SegL.kept {w w' : World} {a : Option Addr} {lls : List (List Int)} (h : SegL w a lls) (hK : Keeps (fun _ => False) w w') : SegL w' a lls := by
  rcases h with h | ⟨g, o, e, hc⟩
  · exact .inl h
  · refine .inr ⟨g, o, e, fun j l hl => ?_⟩
    obtain ⟨x, c, h1, h2, h3, h4⟩ := hc j l hl
    exact ⟨x, c, cell_kept h1 hK fun h => h, h2.kept hK fun _ _ h => h, h3, h4⟩

theorem may_any (a : Option Addr) (lls : List (List Int)) (cap : Nat) (w : World) (hs : SegL w a lls) :
    Calls Tryz.prog 88 #[.slice a lls.length cap] w fun r w' => Says (MayL lls) r ∧ w' = w := by
  by_cases h0 : lls.length = 0
  · have e : lls = [] := List.eq_nil_of_length_eq_zero h0
    subst e
    refine (may_none a cap w).mono ?_
    rintro r w' ⟨rfl, rfl⟩
    exact ⟨says_true ⟨.inl rfl, fun s l hl => by simp at hl⟩, rfl⟩
  · by_cases h4 : lls.length = 4
    · rw [h4]
      exact may_four a lls cap w hs h4
    · refine (may_odd a lls.length cap w (by omega) (by omega)).mono ?_
      rintro r w' ⟨rfl, rfl⟩
      exact ⟨says_false fun h => h.1.elim h0 h4, rfl⟩

theorem restoreR_nil (v : Value) (w : World) : Calls Tryz.prog 53 #[.pointer none, v] w fun r w' => r = .returned (.int .i64 3) ∧ w' = w := by
  go_enter Tryz.func53, Tryz.ntmps53
  go_wp2
  go_ret
  exact ⟨rfl, rfl⟩

theorem restoreR_not (b : Nat) (a : Option Addr) (lls : List (List Int)) (cap : Nat) (w : World) (hs : SegL w a lls) (hm : ¬ MayL lls) :
    Calls Tryz.prog 53 #[ptr b, .slice a lls.length cap] w fun r w' => r = .returned (.int .i64 71) ∧ w' = w := by
  have H1 : Hid (Calls _ _ _ _ _) := may_any a lls cap w hs
  have HM : Hid (¬ MayL lls) := hm
  clear hs hm
  obtain ⟨n, en⟩ : ∃ n, n = lls.length := ⟨_, rfl⟩
  rw [← en] at H1 ⊢
  clear en
  go_enter Tryz.func53, Tryz.ntmps53
  go_wp2_with fail
  refine H1.out.mono ?_
  rintro r w1 ⟨⟨t, rfl, ht⟩, rfl⟩
  cases t with
  | true => exact (HM.out (ht.1 rfl)).elim
  | false =>
    clear ht H1
    go_wp2
    go_ret
    exact ⟨rfl, rfl⟩

theorem flatten_take {lls : List (List Int)} {j : Nat} {l : List Int} (h : lls[j]? = some l) : (lls.take (j + 1)).flatten = (lls.take j).flatten ++ l := by
  rw [List.take_add_one, h]
  simp
theorem flatten_len {lls : List (List Int)} (h : ∀ (s : Nat) (l : List Int), lls[s]? = some l → l.length ≤ 2) : ∀ j, (lls.take j).flatten.length ≤ 2 * j
  | 0 => by simp
  | j + 1 => by
    have ih := flatten_len h j
    cases e : lls[j]? with
    | none => rw [List.take_add_one, e]; simp only [Option.toList_none, List.append_nil]; omega
    | some l => rw [flatten_take e, List.length_append]; have := h j l e; omega

set_option maxHeartbeats 4000000 in
theorem restoreR_may (b : Nat) (us : List Int) (u : Value) (F : Nat → Prop) (a : Option Addr) (lls : List (List Int)) (cap : Nat) (w : World) (h : Rc w b us u F) (hs : SegL w a lls) (hm : MayL lls) :
    Calls Tryz.prog 53 #[ptr b, .slice a lls.length cap] w fun r w' => r = .returned (.int .i64 0) ∧ NowR w w' b lls.flatten F := by
  have H1 : Hid (Calls _ _ _ _ _) := may_any a lls cap w hs
  have HM : Hid (MayL lls ∧ SegL w a lls) := ⟨hm, hs⟩
  have HR : Hid (Rc w b us u F) := h
  have hn4 : ((lls.length : Nat) : Int) ≤ 4 := by rcases hm.1 with e | e <;> omega
  clear hs hm h
  obtain ⟨n, en⟩ : ∃ n, n = lls.length := ⟨_, rfl⟩
  rw [← en] at H1 hn4 ⊢
  have HN : Hid (n = lls.length) := en
  clear en
  go_enter Tryz.func53, Tryz.ntmps53
  go_wp2_with fail
  refine H1.out.mono ?_
  rintro r w1 ⟨⟨t, rfl, ht⟩, rfl⟩
  cases t with
  | false => exact absurd (ht.2 HM.out.1) (by simp)
  | true =>
    clear ht H1
    go_wp2
    go_loopw [5, 14] (fun v i wr => ∃ j : Nat, j ≤ n ∧ i = .int .i64 j ∧ wr.ownsRow 0 3 1 v (lls.take j).flatten.length (flat (lls.take j).flatten) ∧ (∀ g, v.ownBlock = some g → w1.heap.size ≤ g) ∧ Keeps (fun _ => False) w1 wr) (fun _ i _ => n - (intOf i).toNat)
    case atStart => exact ⟨0, by omega, rfl, ⟨by simp [flat], .inl ⟨rfl, by simp⟩⟩, fun g e => by simp [Value.ownBlock] at e, Keeps.refl _ _⟩
    case round =>
      obtain ⟨j, hj, rfl, hO, hN, hK⟩ := hrel
      by_cases hlt : j < n
      · obtain ⟨l, hl⟩ : ∃ l, lls[j]? = some l := ⟨_, List.getElem?_eq_getElem (by have := HN.out; omega)⟩
        rcases HM.out.2.kept hK with h0 | ⟨G, O, rfl, hc⟩
        · rw [h0] at hl; simp at hl
        obtain ⟨x, c, hcell, hseg, hlc, hlm⟩ := hc j l hl
        have hft := flatten_take hl
        have hlen := flatten_len (fun s l h => (HM.out.1.2 s l h).1) j
        have hl2 := (HM.out.1.2 j l hl).1
        have hji : (j : Int) < n := by omega
        obtain ⟨v', W', happ, hO', hG⟩ := append_seg u5 _ _ hO x l c hseg (by omega)
        have HAP : Hid (∀ ty, _) := happ
        have HE : Hid (W'.ownsRow 0 3 1 v' (lls.take (j + 1)).flatten.length (flat (lls.take (j + 1)).flatten) ∧ (∀ g, v'.ownBlock = some g → w1.heap.size ≤ g) ∧ Keeps (fun _ => False) w1 W') := by
          refine ⟨by rw [hft, flat_append, List.length_append]; exact hO', fun k e => ?_, hK.trans hG.keeps fun k hk e => by have := hN k e.symm; omega⟩
          rcases hG.fresh with f | ⟨k', f, hk'⟩
          · exact hN k (f ▸ e)
          · rw [f] at e; cases e; have := hK.size; omega
        clear hO hN hK hc hseg hlc hlm hft hlen hl2 happ hO' hG hl
        go_wp2_with (at_builtin; go_must (refine wpList_append_run rfl (.tmp 17) (.tmp 21) 99 99 rfl u5 (.slice x l.length c) v' W' rfl rfl HAP.out ?_; refine Hid.out ?_))
        unfold Hid
        clear hcell
        go_wp2
        go_roundw
        case rel => exact ⟨j + 1, by omega, by go_num, HE.out⟩
        case measure => simp [intOf]; omega
      · obtain rfl : j = n := by omega
        have hlen := flatten_len (fun s l h => (HM.out.1.2 s l h).1) j
        rw [List.take_of_length_le (by have := HN.out; omega)] at hO hlen
        have hB := HR.out.blk.kept hK fun h => h
        have hbl := HR.out.blk.lt
        have c0 := hB.cell (i := 0) rfl
        have f0 := hB.frozen 0
        have HE : Hid (NowR w1 (wr.setCell ⟨b, 0, none⟩ u5) b lls.flatten F) := by
          have hS : Keeps (fun k => k = b) wr (wr.setCell ⟨b, 0, none⟩ u5) := (Keeps.refl _ wr).setCell _ _ fun _ => rfl
          refine ⟨⟨u5, fun k => k < wr.heap.size ∧ (k = b ∨ w1.heap.size ≤ k), ⟨hB.setCell 0 _, owns_kept hO hS fun k e h => by have := hN k e; omega, by omega, fun g e => ⟨⟨owns_lt hO e, .inr (hN g e)⟩, fun h => by have := hN g e; omega⟩, ⟨hB.lt, .inl rfl⟩, fun k hk => Nat.lt_of_lt_of_le hk.1 hS.size⟩, fun k hk => hk.2.elim (fun e => .inl (by rw [e]; exact HR.out.fb)) .inr⟩, ?_⟩
          exact (hK.mono fun _ _ h => h.elim).trans (hS.mono fun k _ e => by rw [e]; exact HR.out.fb) fun _ _ h => h
        obtain ⟨a', c', ev, _⟩ := owns_slice hO
        obtain ⟨n', en⟩ : ∃ n', n' = lls.flatten.length := ⟨_, rfl⟩
        rw [← en] at ev
        subst ev
        clear hO hN hK hB HR en hbl hlen hlt hj
        go_wp2
        go_ret
        exact ⟨rfl, HE.out⟩

end Go.Proofs.YtipejahmjdamjaaGreatDoor.Ch
namespace Go.Proofs.YtipejahmjdamjaaGreatDoor.Ch
open Go.RowKit Go.Shelf
set_option linter.unusedVariables false
set_option maxRecDepth 6000
set_option linter.unusedSimpArgs false
set_option maxRecDepth 6000

set_option maxHeartbeats 1000000 in
theorem index_in (a : Option Addr) (n c : Nat) (ws : List Int) (k : Int) (w : World) (hs : SegI w a ws) (hn : n = ws.length) (hl : (n : Int) ≤ 4) (hk : k ∈ ws) :
    Calls Tryz.prog 196 #[.slice a n c, .int .i64 k] w fun e w' => (∃ m : Nat, (m : Int) ≤ 4 ∧ e = .returned (.int .i64 (m : Int))) ∧ w' = w := by
  have HS : Hid (SegI w a ws ∧ n = ws.length ∧ k ∈ ws) := ⟨hs, hn, hk⟩
  clear hs hn hk
  go_enter Tryz.func196, Tryz.ntmps196
  go_wp2
  go_loopw [8] (fun i wr => ∃ j : Nat, j ≤ n ∧ i = .int .i64 j ∧ wr = w ∧ ∀ m, m < j → ws[m]? ≠ some k) (fun i _ => n - (intOf i).toNat)
  case atStart => exact ⟨0, by omega, rfl, rfl, fun m hm => by omega⟩
  case round =>
    obtain ⟨j, hj, rfl, hw, hall⟩ := hrel
    obtain rfl := hw.symm
    clear hw
    have HA : Hid (∀ m, m < j → ws[m]? ≠ some k) := hall
    clear hall
    by_cases hlt : j < n
    · have hju : j < ws.length := by have := HS.out.2; omega
      rcases HS.out.1 with h0 | ⟨b, o, rfl, hcell⟩
      · exact absurd hju (by rw [h0]; simp)
      · have cu := hcell j hju
        have HX : Hid (ws[j]? = some (ws[j]'hju)) := List.getElem?_eq_getElem hju
        obtain ⟨x, hxx⟩ : ∃ x, x = ws[j]'hju := ⟨_, rfl⟩
        rw [← hxx] at cu HX
        have hjz : (j : Int) ≤ 4 := by omega
        clear hju hcell hxx
        by_cases hx : x = k
        · subst hx
          have he : (x == x) = true := by simp
          go_wp2
          go_ret
          exact ⟨⟨j, hjz, rfl⟩, rfl⟩
        · have he : (k == x) = false := by simp; exact fun e => hx e.symm
          go_wp2
          go_roundw
          case rel => exact ⟨j + 1, by omega, by go_num, trivial, fun m hm e => by
            by_cases em : m = j
            · subst em; rw [HX.out] at e; exact hx (Option.some.inj e)
            · exact HA.out m (by omega) e⟩
          case measure => simp [intOf]; omega
    · exfalso
      obtain ⟨m, hm, e'⟩ := List.mem_iff_getElem.1 HS.out.2.2
      exact HA.out m (by have := HS.out.2.1; omega) (by rw [List.getElem?_eq_getElem hm, e'])

theorem contains_any (a : Option Addr) (n c : Nat) (ws : List Int) (k : Int) (w : World) (hs : SegI w a ws) (hn : n = ws.length) (hl : (n : Int) ≤ 4) :
    Calls Tryz.prog 164 #[.slice a n c, .int .i64 k] w fun e w' => e = .returned (.bool (decide (k ∈ ws))) ∧ w' = w := by
  by_cases hk : k ∈ ws
  · rw [decide_eq_true hk]
    have H : Hid (Calls _ _ _ _ _) := index_in a n c ws k w hs hn hl hk
    clear hs hn hk
    go_enter Tryz.func164, Tryz.ntmps164
    go_wp2_with fail
    refine H.out.mono ?_
    rintro e w1 ⟨⟨m, hm, rfl⟩, rfl⟩
    clear H
    have hm0 : (m : Int) ≥ 0 := by omega
    go_wp2
    go_ret
    exact ⟨rfl, rfl⟩
  · rw [decide_eq_false hk]
    exact contains_out a n c ws k w hs hn hl hk

theorem isLine_any (z : Int) (w : World) : Calls Tryz.prog 162 #[.int .i64 z] w fun r w' => r = .returned (.bool (decide (0 ≤ z ∧ z < 4096))) ∧ w' = w := by
  by_cases h1 : 0 ≤ z
  · by_cases h2 : z < 4096
    · rw [decide_eq_true ⟨h1, h2⟩]
      exact isLine_in z w h1 h2
    · rw [decide_eq_false fun h => h2 h.2]
      go_enter Tryz.func162, Tryz.ntmps162
      go_wp2
      go_ret
      exact ⟨rfl, rfl⟩
  · rw [decide_eq_false fun h => h1 h.1]
    go_enter Tryz.func162, Tryz.ntmps162
    go_wp2
    go_ret
    exact ⟨rfl, rfl⟩

set_option maxHeartbeats 2000000 in
theorem fits_says (s : Nat) (a : Option Addr) (c : Nat) (ws : List Int) (w : World) (hs : SegI w a ws) (hc : ws.length ≤ c) (hm : (ws.length : Int) ≤ 9223372036854775807) :
    Calls Tryz.prog 117 #[.int .i64 s, .slice a ws.length c] w fun e w' => Says (ws.length ≤ 2 ∧ okRow s ws ws.length) e ∧ w' = w := by
  obtain ⟨n, en⟩ : ∃ n, n = ws.length := ⟨_, rfl⟩
  rw [← en] at hc hm ⊢
  have HS : Hid (SegI w a ws ∧ n = ws.length ∧ n ≤ c) := ⟨hs, en, hc⟩
  have hcz : (n : Int) ≤ c := by omega
  clear hs en hc
  by_cases hl : (n : Int) ≤ 2
  · go_enter Tryz.func117, Tryz.ntmps117
    go_wp2
    go_loopw [12] (fun i wr => ∃ j : Nat, j ≤ n ∧ i = .int .i64 j ∧ wr = w ∧ okRow s ws j) (fun i _ => n - (intOf i).toNat)
    case atStart => exact ⟨0, by omega, rfl, rfl, fun i hi => by omega⟩
    case round =>
      obtain ⟨j, hj, rfl, hw, hok⟩ := hrel
      obtain rfl := hw.symm
      clear hw
      have HO : Hid (okRow s ws j) := hok
      clear hok
      by_cases hlt : j < n
      · have hju : j < ws.length := by have := HS.out.2.1; omega
        obtain ⟨e1, e2, e5⟩ := HS.out
        have htl : j = (ws.take j).length := by rw [List.length_take]; omega
        have hX : ws[j]? = some (ws[j]'hju) := List.getElem?_eq_getElem hju
        have H3 : Hid (Calls _ _ _ _ _) := contains_any a j c (ws.take j) (ws[j]'hju) w (e1.take j) htl (by omega)
        have H1 : Hid (Calls _ _ _ _ _) := isLine_any (ws[j]'hju) w
        have H2 : Hid (∀ q : Nat, 0 ≤ (ws[j]'hju) → (ws[j]'hju) % 4 = (q : Int) → Calls _ _ _ _ _) := fun q h0 h1 => setOf_z (ws[j]'hju) q w h0 h1
        rcases e1 with h0 | ⟨b, o, rfl, hcell⟩
        · exact absurd hju (by rw [h0]; simp)
        · have cu := hcell j hju
          obtain ⟨x, hxx⟩ : ∃ x, x = ws[j]'hju := ⟨_, rfl⟩
          rw [← hxx] at cu H1 H2 H3 hX
          have HX : Hid (ws[j]? = some x) := hX
          have hjn : (j : Int) < n := by omega
          have hjc : (j : Int) ≤ c := by omega
          have HB : Hid (¬ (0 ≤ x ∧ x < 4096 ∧ x.tmod 4 = (s : Int) ∧ x ∉ ws.take j) → ¬ (n ≤ 2 ∧ okRow s ws n)) := fun hb hM => hb (hM.2 j hlt x hX)
          clear hju hcell hxx htl e2 e5 hX
          by_cases hx : 0 ≤ x ∧ x < 4096
          · rw [decide_eq_true hx] at H1
            obtain ⟨q, hq⟩ : ∃ q : Nat, x % 4 = (q : Int) := ⟨(x % 4).toNat, by omega⟩
            have H2' : Hid (Calls _ _ _ _ _) := H2.out q hx.1 hq
            have ht : x.tmod 4 = x % 4 := Int.tmod_eq_emod_of_nonneg hx.1
            have HT : Hid (x.tmod 4 = (q : Int) ∧ 0 ≤ x ∧ x < 4096) := ⟨by rw [ht, hq], hx⟩
            clear H2 ht hq hx
            by_cases hqs : q = s
            · subst hqs
              obtain ⟨am, eam⟩ : ∃ am, am = decide (x ∈ ws.take j) := ⟨_, rfl⟩
              rw [← eam] at H3
              have HAM : Hid (am = decide (x ∈ ws.take j)) := eam
              have f2 : ((q : Int) != (q : Int)) = false := by simp
              clear eam
              go_wp2_with fail
              refine H1.out.mono ?_
              rintro e w1 ⟨rfl, rfl⟩
              clear H1
              go_wp2_with fail
              refine H2'.out.mono ?_
              rintro e w1 ⟨rfl, rfl⟩
              clear H2'
              go_wp2_with fail
              refine H3.out.mono ?_
              rintro e w1 ⟨rfl, rfl⟩
              clear H3
              cases am with
              | true =>
                have HE : Hid (¬ (n ≤ 2 ∧ okRow q ws n)) := HB.out fun h => h.2.2.2 (of_decide_eq_true HAM.out.symm)
                clear HB
                go_wp2
                go_ret
                exact ⟨says_false HE.out, rfl⟩
              | false =>
                have HE : Hid (okRow q ws (j + 1)) := fun i hi z hz => by
                  by_cases e : i = j
                  · subst e
                    rw [HX.out] at hz
                    cases hz
                    exact ⟨HT.out.2.1, HT.out.2.2, HT.out.1, of_decide_eq_false HAM.out.symm⟩
                  · exact HO.out i (by omega) z hz
                clear HB
                go_wp2
                go_roundw
                case rel => exact ⟨j + 1, by omega, by go_num, trivial, HE.out⟩
                case measure => simp [intOf]; omega
            · have f2 : ((q : Int) != (s : Int)) = true := by simp; omega
              have HE : Hid (¬ (n ≤ 2 ∧ okRow s ws n)) := HB.out fun h => by have := HT.out.1; have := h.2.2.1; omega
              clear HB H3 hqs
              go_wp2_with fail
              refine H1.out.mono ?_
              rintro e w1 ⟨rfl, rfl⟩
              clear H1
              go_wp2_with fail
              refine H2'.out.mono ?_
              rintro e w1 ⟨rfl, rfl⟩
              clear H2'
              go_wp2
              go_ret
              exact ⟨says_false HE.out, rfl⟩
          · rw [decide_eq_false hx] at H1
            have HE : Hid (¬ (n ≤ 2 ∧ okRow s ws n)) := HB.out fun h => hx ⟨h.1, h.2.1⟩
            clear HB H2 H3 hx
            go_wp2_with fail
            refine H1.out.mono ?_
            rintro e w1 ⟨rfl, rfl⟩
            clear H1
            go_wp2
            go_ret
            exact ⟨says_false HE.out, rfl⟩
      · obtain rfl : j = n := by omega
        have HE : Hid (j ≤ 2 ∧ okRow s ws j) := ⟨by omega, HO.out⟩
        go_wp2
        go_ret
        exact ⟨says_true HE.out, rfl⟩
  · have HE : Hid (¬ (n ≤ 2 ∧ okRow s ws n)) := fun h => hl (by omega)
    have hgt : (n : Int) > 2 := by omega
    go_enter Tryz.func117, Tryz.ntmps117
    go_wp2
    go_ret
    exact ⟨says_false HE.out, rfl⟩

end Go.Proofs.YtipejahmjdamjaaGreatDoor.Ch
