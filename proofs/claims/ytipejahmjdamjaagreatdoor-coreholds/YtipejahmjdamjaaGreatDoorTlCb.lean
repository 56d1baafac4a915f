import Derived.Test.YtipejahmjdamjaaGreatDoorTlRb
import Derived.Deep.RegionHeld3
namespace Go.Proofs.YtipejahmjdamjaaGreatDoor.Tl
open Go.RowKit Go.Shelf
set_option linter.unusedVariables false
set_option maxRecDepth 6000
set_option linter.unusedSimpArgs false

/-- A TLB can hold just these, but for how many they are. -/
def preB (ls : List Lf) : Bool := ls.all mayB && decide ((ls.map Lf.p).Nodup)
/-- A TLB can hold just these. -/
def heldB (ls : List Lf) : Bool := decide (ls.length ≤ 4) && preB ls

theorem pre_may {ls : List Lf} {j : Nat} {y : Lf} (hy : ls[j]? = some y) (hm : mayB y = false) : preB ls = false := by
  unfold preB
  have : ls.all mayB = false := by
    rw [List.all_eq_false]
    exact ⟨y, List.mem_of_getElem? hy, by simp [hm]⟩
  rw [this]; rfl
theorem take_split {ls : List Lf} {j : Nat} {y : Lf} (hy : ls[j]? = some y) : ls = ls.take j ++ y :: ls.drop (j + 1) := by
  obtain ⟨hk, he⟩ := List.getElem?_eq_some_iff.1 hy
  rw [← he, List.getElem_cons_drop, List.take_append_drop]
theorem pre_dup {ls : List Lf} {j : Nat} {y x : Lf} (hy : ls[j]? = some y) (hf : findT y.p (ls.take j) = some x) : preB ls = false := by
  unfold preB
  have h1 := List.mem_of_find?_eq_some hf
  have h2 : x.p = y.p := by simpa using List.find?_some hf
  have : decide ((ls.map Lf.p).Nodup) = false := by
    rw [decide_eq_false_iff_not, take_split hy, List.map_append, List.map_cons]
    intro hn
    rw [List.nodup_append] at hn
    exact hn.2.2 x.p (List.mem_map.2 ⟨x, h1, rfl⟩) y.p (by simp) h2
  rw [this]; simp
theorem pre_step {ls : List Lf} {j : Nat} {y : Lf} (h : preB (ls.take j) = true) (hy : ls[j]? = some y) (hm : mayB y = true) (hf : findT y.p (ls.take j) = none) : preB (ls.take (j + 1)) = true := by
  unfold preB at h ⊢
  simp only [Bool.and_eq_true, decide_eq_true_eq] at h ⊢
  rw [List.take_add_one, hy]
  refine ⟨by simp [h.1, hm], ?_⟩
  have h3 := h.2
  unfold findT at hf
  rw [List.find?_eq_none] at hf
  simp only [Option.toList_some, List.map_append, List.map_cons, List.map_nil]
  rw [List.nodup_append]
  refine ⟨h3, by simp, fun a ha b hb => ?_⟩
  simp at hb
  subst hb
  obtain ⟨z, hz, rfl⟩ := List.mem_map.1 ha
  have := hf z hz
  simpa using this

theorem held_pre {ls : List Lf} (h : preB ls = false) : heldB ls = false := by
  unfold heldB
  rw [h]; simp
theorem held_long {ls : List Lf} (h : 4 < ls.length) : heldB ls = false := by
  unfold heldB
  rw [decide_eq_false (by omega)]; rfl
theorem held_yes {ls : List Lf} (h : preB ls = true) (h4 : ls.length ≤ 4) : heldB ls = true := by
  unfold heldB
  rw [h, decide_eq_true h4]; rfl

theorem SegL.take {w : World} {a : Option Addr} {ls : List Lf} (h : SegL w a ls) (j : Nat) : SegL w a (ls.take j) := by
  rcases h with h | ⟨g, o, ha, h⟩
  · exact .inl (by rw [h]; simp)
  · refine .inr ⟨g, o, ha, fun i l hi => h i l ?_⟩
    rw [List.getElem?_take] at hi
    split at hi
    · exact hi
    · simp at hi

set_option maxRecDepth 20000 in
set_option maxHeartbeats 2000000 in
theorem restoreR_any (d : Nat) (L : List Lf) (G : Nat → Prop) (a : Option Addr) (ls : List Lf) (c : Nat) (w : World) (h : Rf w d L G) (hl : ls.length ≤ c ∧ c ≤ maxLen) (hs : SegL w a ls) :
    Calls Tryz.prog 54 #[ptr d, .slice a ls.length c] w fun r w' => (heldB ls = false ∧ r = .returned (.int .i64 81) ∧ NowR w w' d L G) ∨ (heldB ls = true ∧ r = .returned (.int .i64 0) ∧ NowR w w' d ls G) := by
  obtain ⟨n, hn⟩ : ∃ n, n = ls.length := ⟨_, rfl⟩
  have HS : Hid (SegL w a ls ∧ n = ls.length ∧ Rf w d L G ∧ (ls.length ≤ c ∧ c ≤ maxLen)) := ⟨hs, hn, h, hl⟩
  have hc2 : (n : Int) ≤ c := by omega
  have hc3 : (c : Int) ≤ 9223372036854775807 := by unfold maxLen at hl; omega
  rw [← hn]
  clear hl hs hn h
  by_cases h4 : 4 < n
  · have h4' : (4 : Int) < n := by omega
    have HB : Hid (heldB ls = false) := held_long (by have := HS.out.2.1; omega)
    go_enter Tryz.func54, Tryz.ntmps54
    go_wp2
    go_ret
    exact .inl ⟨HB.out, rfl, nowR_same HS.out.2.2.1 (Keeps.refl _ _)⟩
  · have h4' : ¬ (4 : Int) < n := by omega
    go_enter Tryz.func54, Tryz.ntmps54
    go_wp2
    go_loopw [5] (fun i wr => ∃ j : Nat, j ≤ n ∧ i = .int .i64 j ∧ preB (ls.take j) = true ∧ Keeps (fun _ => False) w wr) (fun i _ => n - (intOf i).toNat)
    case atStart => exact ⟨0, by omega, rfl, by simp [preB], Keeps.refl _ _⟩
    case round =>
      obtain ⟨j, hj, rfl, hp, hK⟩ := hrel
      by_cases hlt : j < n
      · obtain ⟨y, hy⟩ : ∃ y, ls[j]? = some y := ⟨_, List.getElem?_eq_getElem (by have := HS.out.2.1; omega)⟩
        obtain ⟨g, o, rfl, hy3⟩ : ∃ g o, a = some ⟨g, o, none⟩ ∧ LeafAt w g (o + j * 3) y := by
          rcases HS.out.1 with h | ⟨g, o, ha, h⟩
          · rw [h] at hy; simp at hy
          · exact ⟨g, o, ha, h j y hy⟩
        obtain ⟨y0, y1, y2⟩ := hy3.kept hK fun h => h
        have HJ : Hid (preB (ls.take j) = true ∧ Keeps (fun _ => False) w wr ∧ ls[j]? = some y ∧ LeafAt w g (o + j * 3) y) := ⟨hp, hK, hy, hy3⟩
        have HM : Hid (∀ w', Calls _ _ _ _ _) := fun w' => mayR_any y w'
        have hlt' : (j : Int) < n := by omega
        clear hp hK hy hy3
        cases hm : mayB y
        · rw [hm] at HM
          have HB : Hid (heldB ls = false) := held_pre (pre_may HJ.out.2.2.1 hm)
          clear hm
          go_wp2_with fail
          refine wp_region_held_drew (S := fun w' => w'.cell? ⟨g, o + j * 3, none⟩ = some (.int .i64 y.p) ∧ w'.cell? ⟨g, o + j * 3 + 1, none⟩ = some (.int .i64 y.f) ∧ w'.cell? ⟨g, o + j * 3 + 2, none⟩ = some (.int .i64 y.r)) Tryz.mixed ⟨y0, y1, y2⟩ (fun hHeld => ?_)
          simp only [List.size_toArray, List.length_cons, List.length_nil, Nat.reduceAdd, Array.replicate_succ, Array.replicate_zero, List.push_toArray, List.append_toArray, List.nil_append, List.cons_append]
          refine wpAnyH_take (i := 0) (oi := { dst := some 16, op := Op.move (Operand.tmp 1), type := 42, pos := "ref.go:70", after := #[], guard := none }) (v := .slice (some ⟨g, o, none⟩) n c) rfl (by kernel_rfl) (by kernel_rfl) (by kernel_rfl) (fun _ _ _ h => h) (Or.inl ⟨by kernel_rfl, by (intro w hSw; (try dsimp only at hSw); go_simp)⟩) hHeld ?_
          simp only [Act.put, List.setIfInBounds_toArray, List.set_cons_zero, List.set_cons_succ]
          refine wpAnyH_take (i := 1) (oi := { dst := some 17, op := Op.move (Operand.tmp 5), type := 3, pos := "ref.go:70", after := #[], guard := none }) (v := .int .i64 (j : Int)) rfl (by kernel_rfl) (by kernel_rfl) (by kernel_rfl) (fun _ _ _ h => h) (Or.inl ⟨by kernel_rfl, by (intro w hSw; (try dsimp only at hSw); go_simp)⟩) hHeld ?_
          simp only [Act.put, List.setIfInBounds_toArray, List.set_cons_zero, List.set_cons_succ]
          refine wpAnyH_take (i := 2) (oi := { dst := some 18, op := Op.indexAddr 42 (Operand.tmp 16) (Operand.tmp 17), type := 0, pos := "ref.go:70", after := #[{ on := 0, ground := Ground.data }, { on := 1, ground := Ground.data }], guard := none }) (v := .pointer (some ⟨g, o + j * 3, none⟩)) rfl (by kernel_rfl) (by kernel_rfl) (by kernel_rfl) (fun _ _ _ h => h) (Or.inl ⟨by kernel_rfl, by (intro w hSw; (try dsimp only at hSw); go_simp)⟩) hHeld ?_
          simp only [Act.put, List.setIfInBounds_toArray, List.set_cons_zero, List.set_cons_succ]
          refine wpAnyH_take (i := 3) (oi := { dst := some 19, op := Op.load 64 (Operand.tmp 18), type := 64, pos := "ref.go:70", after := #[{ on := 2, ground := Ground.data }], guard := none }) (v := y.v) rfl (by kernel_rfl) (by kernel_rfl) (by kernel_rfl) (fun _ _ _ h => h) (Or.inl ⟨by kernel_rfl, by (intro w hSw; (try dsimp only at hSw); go_simp)⟩) hHeld ?_
          simp only [Act.put, List.setIfInBounds_toArray, List.set_cons_zero, List.set_cons_succ]
          refine wpAnyH_ready (rs := [4]) (by kernel_rfl) (by simp) ?_
          refine AllReadyH.cons rfl (fun K hK => ?_) AllReadyH.nil
          go_simp
          refine (HM.out _).mono ?_
          rintro r w1 ⟨rfl, hK1⟩
          have hKw : Keeps (fun _ => False) w w1 := HJ.out.2.1.drew.trans hK1 fun _ _ h => h
          have HK1 : Hid (Keeps (fun _ => False) w w1) := hKw
          have hS : LeafAt w1 g (o + j * 3) y := HJ.out.2.2.2.kept hKw fun h => h
          clear hK1 hKw
          refine hK.out _ _ hS (fun hHeld => ?_)
          simp only [Act.put, List.setIfInBounds_toArray, List.set_cons_zero, List.set_cons_succ]
          refine wpAnyH_take (i := 5) (oi := { dst := some 21, op := Op.unOp UnOp.not 4 (Operand.tmp 20), type := 4, pos := "ref.go:70", after := #[{ on := 4, ground := Ground.data }], guard := none }) (v := .bool true) rfl (by kernel_rfl) (by kernel_rfl) (by kernel_rfl) (fun _ _ _ h => h) (Or.inl ⟨by kernel_rfl, by (intro w hSw; (try dsimp only at hSw); go_simp)⟩) hHeld ?_
          simp only [Act.put, List.setIfInBounds_toArray, List.set_cons_zero, List.set_cons_succ]
          refine wpAnyH_take (i := 6) (oi := { dst := some 22, op := Op.move (Operand.tmp 21), type := 4, pos := "ref.go:70", after := #[{ on := 5, ground := Ground.data }, { on := 4, ground := Ground.chain }], guard := none }) (v := .bool true) rfl (by kernel_rfl) (by kernel_rfl) (by kernel_rfl) (fun _ _ _ h => h) (Or.inl ⟨by kernel_rfl, by (intro w hSw; (try dsimp only at hSw); go_simp)⟩) hHeld ?_
          simp only [Act.put, List.setIfInBounds_toArray, List.set_cons_zero, List.set_cons_succ]
          refine wpAnyH_take (i := 7) (oi := { dst := some 23, op := Op.move (Operand.tmp 1), type := 42, pos := "ref.go:70", after := #[{ on := 6, ground := Ground.guard }], guard := some (6, false) }) (v := undef) rfl (by kernel_rfl) (by kernel_rfl) (by kernel_rfl) (fun _ _ _ h => h) (Or.inr ⟨by kernel_rfl, rfl⟩) hHeld ?_
          simp only [Act.put, List.setIfInBounds_toArray, List.set_cons_zero, List.set_cons_succ]
          refine wpAnyH_take (i := 8) (oi := { dst := some 24, op := Op.move (Operand.tmp 5), type := 3, pos := "ref.go:70", after := #[{ on := 6, ground := Ground.guard }], guard := some (6, false) }) (v := undef) rfl (by kernel_rfl) (by kernel_rfl) (by kernel_rfl) (fun _ _ _ h => h) (Or.inr ⟨by kernel_rfl, rfl⟩) hHeld ?_
          simp only [Act.put, List.setIfInBounds_toArray, List.set_cons_zero, List.set_cons_succ]
          refine wpAnyH_take (i := 9) (oi := { dst := some 25, op := Op.slice 42 (Operand.tmp 23) none (some (Operand.tmp 24)) none, type := 42, pos := "ref.go:70", after := #[{ on := 7, ground := Ground.data }, { on := 8, ground := Ground.data }, { on := 6, ground := Ground.guard }], guard := some (6, false) }) (v := undef) rfl (by kernel_rfl) (by kernel_rfl) (by kernel_rfl) (fun _ _ _ h => h) (Or.inr ⟨by kernel_rfl, rfl⟩) hHeld ?_
          simp only [Act.put, List.setIfInBounds_toArray, List.set_cons_zero, List.set_cons_succ]
          refine wpAnyH_take (i := 10) (oi := { dst := some 26, op := Op.move (Operand.tmp 1), type := 42, pos := "ref.go:70", after := #[{ on := 6, ground := Ground.guard }], guard := some (6, false) }) (v := undef) rfl (by kernel_rfl) (by kernel_rfl) (by kernel_rfl) (fun _ _ _ h => h) (Or.inr ⟨by kernel_rfl, rfl⟩) hHeld ?_
          simp only [Act.put, List.setIfInBounds_toArray, List.set_cons_zero, List.set_cons_succ]
          refine wpAnyH_take (i := 11) (oi := { dst := some 27, op := Op.move (Operand.tmp 5), type := 3, pos := "ref.go:70", after := #[{ on := 6, ground := Ground.guard }], guard := some (6, false) }) (v := undef) rfl (by kernel_rfl) (by kernel_rfl) (by kernel_rfl) (fun _ _ _ h => h) (Or.inr ⟨by kernel_rfl, rfl⟩) hHeld ?_
          simp only [Act.put, List.setIfInBounds_toArray, List.set_cons_zero, List.set_cons_succ]
          refine wpAnyH_take (i := 12) (oi := { dst := some 28, op := Op.indexAddr 42 (Operand.tmp 26) (Operand.tmp 27), type := 0, pos := "ref.go:70", after := #[{ on := 10, ground := Ground.data }, { on := 11, ground := Ground.data }, { on := 6, ground := Ground.guard }], guard := some (6, false) }) (v := undef) rfl (by kernel_rfl) (by kernel_rfl) (by kernel_rfl) (fun _ _ _ h => h) (Or.inr ⟨by kernel_rfl, rfl⟩) hHeld ?_
          simp only [Act.put, List.setIfInBounds_toArray, List.set_cons_zero, List.set_cons_succ]
          refine wpAnyH_take (i := 13) (oi := { dst := some 29, op := Op.fieldAddr 64 (Operand.tmp 28) 0, type := 0, pos := "ref.go:70", after := #[{ on := 12, ground := Ground.data }, { on := 6, ground := Ground.guard }], guard := some (6, false) }) (v := undef) rfl (by kernel_rfl) (by kernel_rfl) (by kernel_rfl) (fun _ _ _ h => h) (Or.inr ⟨by kernel_rfl, rfl⟩) hHeld ?_
          simp only [Act.put, List.setIfInBounds_toArray, List.set_cons_zero, List.set_cons_succ]
          refine wpAnyH_take (i := 14) (oi := { dst := some 30, op := Op.load 3 (Operand.tmp 29), type := 3, pos := "ref.go:70", after := #[{ on := 13, ground := Ground.data }, { on := 6, ground := Ground.guard }], guard := some (6, false) }) (v := undef) rfl (by kernel_rfl) (by kernel_rfl) (by kernel_rfl) (fun _ _ _ h => h) (Or.inr ⟨by kernel_rfl, rfl⟩) hHeld ?_
          simp only [Act.put, List.setIfInBounds_toArray, List.set_cons_zero, List.set_cons_succ]
          refine wpAnyH_take (i := 15) (oi := { dst := some 31, op := Op.call { callee := Callee.value (Operand.func 90), args := #[Operand.tmp 25, Operand.tmp 30], argTypes := #[42, 3] }, type := 3, pos := "ref.go:70", after := #[{ on := 9, ground := Ground.data }, { on := 14, ground := Ground.data }, { on := 6, ground := Ground.chain }, { on := 6, ground := Ground.guard }], guard := some (6, false) }) (v := undef) rfl (by kernel_rfl) (by kernel_rfl) (by kernel_rfl) (fun _ _ _ h => h) (Or.inr ⟨by kernel_rfl, rfl⟩) hHeld ?_
          simp only [Act.put, List.setIfInBounds_toArray, List.set_cons_zero, List.set_cons_succ]
          refine wpAnyH_take (i := 16) (oi := { dst := some 32, op := Op.binOp BinOp.geq 3 (Operand.tmp 31) (Operand.const (Value.int IntKind.i64 0)) 3, type := 4, pos := "ref.go:70", after := #[{ on := 15, ground := Ground.data }, { on := 6, ground := Ground.guard }], guard := some (6, false) }) (v := undef) rfl (by kernel_rfl) (by kernel_rfl) (by kernel_rfl) (fun _ _ _ h => h) (Or.inr ⟨by kernel_rfl, rfl⟩) hHeld ?_
          simp only [Act.put, List.setIfInBounds_toArray, List.set_cons_zero, List.set_cons_succ]
          refine wpAnyH_take (i := 17) (oi := { dst := some 33, op := Op.pick (Operand.tmp 22) (Operand.const (Value.bool true)) (Operand.tmp 32), type := 4, pos := "ref.go:70", after := #[{ on := 6, ground := Ground.data }, { on := 16, ground := Ground.data }], guard := none }) (v := .bool true) rfl (by kernel_rfl) (by kernel_rfl) (by kernel_rfl) (fun _ _ _ h => h) (Or.inl ⟨by kernel_rfl, by (intro w hSw; (try dsimp only at hSw); go_simp)⟩) hHeld ?_
          simp only [Act.put, List.setIfInBounds_toArray, List.set_cons_zero, List.set_cons_succ]
          refine wpAnyH_done (by kernel_rfl) ?_ _
          clear y0 y1 y2 hS hHeld hK
          go_wp2
          go_ret
          exact .inl ⟨HB.out, rfl, nowR_same HS.out.2.2.1 HK1.out⟩
        · rw [hm] at HM
          have HMY : Hid (mayB y = true) := hm
          clear hm
          have HH : Hid (∀ w', Keeps (fun _ => False) w w' → Calls Tryz.prog 90 #[.slice (some ⟨g, o, none⟩) j c, .int .i64 y.p] w' _) := fun w' hKw => by
            have := has_any (some ⟨g, o, none⟩) (ls.take j) c y.p w' ⟨by have := HS.out.2.2.2; simp; omega, HS.out.2.2.2.2⟩ ((HS.out.1.kept hKw fun _ _ h => h).take j)
            rw [show (ls.take j).length = j by have := HS.out.2.1; simp; omega] at this
            exact this
          have hjc : (j : Int) ≤ c := by omega
          go_wp2_with fail
          go_region_held3 (fun w' => w'.cell? ⟨g, o + j * 3, none⟩ = some (.int .i64 y.p) ∧ w'.cell? ⟨g, o + j * 3 + 1, none⟩ = some (.int .i64 y.f) ∧ w'.cell? ⟨g, o + j * 3 + 2, none⟩ = some (.int .i64 y.r)) (first | exact hS | go_keep)
            (first
              | (go_at_call 89; refine (HM.out _).mono ?_; rintro r w1 ⟨rfl, hK1⟩; have hKw : Keeps (fun _ => False) w w1 := HJ.out.2.1.drew.trans hK1 fun _ _ h => h; have HK1 : Hid (Keeps (fun _ => False) w w1) := hKw; have hS : LeafAt w1 g (o + j * 3) y := HJ.out.2.2.2.kept hKw fun h => h; clear hK1 hKw)
              | (go_at_call 90; refine (HH.out _ HK1.out).mono ?_; rintro r w2 ⟨⟨q, rfl, hq⟩, rfl⟩; have HQ : Hid _ := hq; clear hq))
          clear y0 y1 y2
          rcases HQ.out with ⟨rfl, hf⟩ | ⟨i, x, rfl, hx, hf⟩
          · have HP : Hid (preB (ls.take (j + 1)) = true) := pre_step HJ.out.1 HJ.out.2.2.1 HMY.out hf
            clear hf HH HQ
            go_wp2
            go_roundw
            case rel => exact ⟨j + 1, by omega, by go_num, HP.out, HK1.out⟩
            case measure => simp [intOf]; omega
          · have HB : Hid (heldB ls = false) := held_pre (pre_dup HJ.out.2.2.1 hf)
            clear hf hx HH HQ
            go_wp2
            go_ret
            exact .inl ⟨HB.out, rfl, nowR_same HS.out.2.2.1 HK1.out⟩
      · obtain rfl : j = n := by omega
        have HB : Hid (heldB ls = true) := by
          rw [List.take_of_length_le (by have := HS.out.2.1; omega)] at hp
          exact held_yes hp (by have := HS.out.2.1; omega)
        obtain ⟨v', W', happ, hown', hgv, hK2⟩ := append_seg a ls c (HS.out.1.kept hK fun _ _ h => h) (by have := HS.out.2.1; omega)
        rw [← HS.out.2.1] at happ
        have HAP : Hid (∀ ty, _) := happ
        have hKW : Keeps (fun _ => False) w W' := hK.trans hK2 fun _ _ h => h
        obtain ⟨ad, cd, h1, h2, h3, h4, h5, h6, h7⟩ := HS.out.2.2.1
        have hd := h1.kept hKW fun h => h
        have d0 := hd.cell (i := 0) rfl
        have df := hd.frozen 0
        obtain ⟨a', c', rfl, q1, q2, q3, q4⟩ := row_val hown'
        have HE : Hid (NowR w (W'.setCell ⟨d, 0, none⟩ (.slice a' ls.length c')) d ls G) :=
          nowR_set hd h5 h7 hKW q4 ⟨q1, by unfold maxLen; omega⟩ (by have := HS.out.2.1; omega) fun hl y hy => ⟨by have := hgv _ (q3 y hy); have := hK.size; omega, owns_lt hown' (q3 y hy)⟩
        clear happ hown' hgv hK2 hKW h1 h2 h3 h4 h5 h6 h7 hd hp hK q1 q2 q3 q4
        go_wp2_with (at_builtin; go_must (refine wpList_append_run rfl _ _ 42 42 rfl _ _ _ W' rfl rfl HAP.out ?_; refine Hid.out ?_))
        unfold Hid
        clear HAP
        go_wp2
        go_ret
        exact .inr ⟨HB.out, rfl, HE.out⟩

end Go.Proofs.YtipejahmjdamjaaGreatDoor.Tl
namespace Go.Proofs.YtipejahmjdamjaaGreatDoor.Tl
open Go.RowKit Go.Shelf
set_option linter.unusedVariables false
set_option maxRecDepth 6000
set_option linter.unusedSimpArgs false

theorem page_any (l : Lf) (pb : Nat) (p : Int) (w : World) (hp : w.cell? ⟨pb, 0, none⟩ = some (.int .i64 p)) :
    Calls Tryz.prog 169 #[l.v, .pointer (some ⟨pb, 0, none⟩)] w fun r w' => r = .returned (.bool (l.p == p)) ∧ Keeps (fun _ => False) w w' := by
  have hlt := World.block_lt_of_cell? w _ hp
  go_enter Tryz.func169, Tryz.ntmps169
  go_wp2
  go_ret
  exact ⟨rfl, (Keeps.refl _ w).alloc _⟩

set_option maxHeartbeats 1000000 in
theorem index_any (a : Option Addr) (ls : List Lf) (c pb : Nat) (p : Int) (w : World) (hl : ls.length ≤ c ∧ c ≤ maxLen) (hs : SegL w a ls) (hp : w.cell? ⟨pb, 0, none⟩ = some (.int .i64 p)) :
    Calls Tryz.prog 197 #[.slice a ls.length c, .func (.func 169) #[] #[.pointer (some ⟨pb, 0, none⟩)]] w fun r w' => (∃ q : Int, r = .returned (.int .i64 q) ∧ ((q = -1 ∧ findT p ls = none) ∨ ∃ (i : Nat) (x : Lf), q = i ∧ findT p ls = some x)) ∧ Keeps (fun _ => False) w w' := by
  obtain ⟨L, hL⟩ : ∃ L, L = ls.length := ⟨_, rfl⟩
  have HS : Hid (SegL w a ls ∧ L = ls.length ∧ w.cell? ⟨pb, 0, none⟩ = some (.int .i64 p)) := ⟨hs, hL, hp⟩
  have hc2 : (L : Int) ≤ c := by omega
  have hc3 : (c : Int) ≤ 9223372036854775807 := by unfold maxLen at hl; omega
  rw [← hL]
  clear hl hs hL hp
  go_enter Tryz.func197, Tryz.ntmps197
  go_wp2
  go_loopw [8] (fun i wr => ∃ j : Nat, j ≤ L ∧ i = .int .i64 j ∧ findT p (ls.take j) = none ∧ Keeps (fun _ => False) w wr) (fun i _ => L - (intOf i).toNat)
  case atStart => exact ⟨0, by omega, rfl, by simp [findT], Keeps.refl _ _⟩
  case round =>
    obtain ⟨j, hj, rfl, hn, hK⟩ := hrel
    by_cases hlt : j < L
    · obtain ⟨y, hy⟩ : ∃ y, ls[j]? = some y := ⟨_, List.getElem?_eq_getElem (by have := HS.out.2.1; omega)⟩
      obtain ⟨g, o, rfl, hg⟩ : ∃ g o, a = some ⟨g, o, none⟩ ∧ LeafAt w g (o + j * 3) y := by
        rcases HS.out.1 with h | ⟨g, o, ha, h⟩
        · rw [h] at hy; simp at hy
        · exact ⟨g, o, ha, h j y hy⟩
      obtain ⟨y0, y1, y2⟩ := hg.kept hK fun h => h
      have hpr : wr.cell? ⟨pb, 0, none⟩ = some (.int .i64 p) := by
        rw [World.cell?_of_block (w := w) (hK.block pb (World.block_lt_of_cell? w _ HS.out.2.2) fun h => h)]; exact HS.out.2.2
      have HC : Hid (Calls _ _ _ _ _) := page_any y pb p wr hpr
      have HJ : Hid (findT p (ls.take j) = none ∧ ls[j]? = some y ∧ Keeps (fun _ => False) w wr) := ⟨hn, hy, hK⟩
      clear hn hy hK hg hpr
      by_cases hyp : y.p = p
      · rw [show (y.p == p) = true by simpa using hyp] at HC
        have HF : Hid (findT p ls = some y) := findT_take_hit HJ.out.1 HJ.out.2.1 hyp
        clear hyp
        go_wp2_with fail
        refine HC.out.mono ?_
        rintro r w1 ⟨rfl, hK1⟩
        have HK : Hid (Keeps (fun _ => False) w w1) := HJ.out.2.2.trans hK1 fun _ _ h => h
        clear hK1 HC y0 y1 y2
        go_wp2
        go_ret
        exact ⟨⟨j, rfl, .inr ⟨j, y, rfl, HF.out⟩⟩, HK.out⟩
      · rw [show (y.p == p) = false by simpa using hyp] at HC
        have HF : Hid (findT p (ls.take (j + 1)) = none) := findT_take_none HJ.out.1 HJ.out.2.1 hyp
        clear hyp
        go_wp2_with fail
        refine HC.out.mono ?_
        rintro r w1 ⟨rfl, hK1⟩
        have HK : Hid (Keeps (fun _ => False) w w1) := HJ.out.2.2.trans hK1 fun _ _ h => h
        clear hK1 HC y0 y1 y2
        go_wp2
        go_roundw
        case rel => exact ⟨j + 1, by omega, by go_num, HF.out, HK.out⟩
        case measure => simp [intOf]; omega
    · obtain rfl : j = L := by omega
      have HH : Hid (findT p ls = none ∧ Keeps (fun _ => False) w wr) := by
        rw [List.take_of_length_le (by have := HS.out.2.1; omega)] at hn
        exact ⟨hn, hK⟩
      clear hn hK
      go_wp2
      go_ret
      exact ⟨⟨-1, rfl, .inl ⟨rfl, HH.out.1⟩⟩, HH.out.2⟩

theorem contains_any (a : Option Addr) (ls : List Lf) (c pb : Nat) (p : Int) (w : World) (hl : ls.length ≤ c ∧ c ≤ maxLen) (hs : SegL w a ls) (hp : w.cell? ⟨pb, 0, none⟩ = some (.int .i64 p)) :
    Calls Tryz.prog 168 #[.slice a ls.length c, .func (.func 169) #[] #[.pointer (some ⟨pb, 0, none⟩)]] w fun r w' => r = .returned (.bool (findT p ls).isSome) ∧ Keeps (fun _ => False) w w' := by
  have HC : Hid (Calls _ _ _ _ _) := index_any a ls c pb p w hl hs hp
  obtain ⟨L, hL⟩ : ∃ L, L = ls.length := ⟨_, rfl⟩
  rw [← hL] at HC ⊢
  clear hl hs hp hL
  go_enter Tryz.func168, Tryz.ntmps168
  go_wp2_with fail
  refine HC.out.mono ?_
  rintro r w1 ⟨⟨q, rfl, hq⟩, hK⟩
  have HK : Hid (Keeps (fun _ => False) w w1) := hK
  clear hK HC
  rcases hq with ⟨rfl, hf⟩ | ⟨i, x, rfl, hf⟩
  · have HF : Hid (findT p ls = none) := hf
    clear hf
    go_wp2
    go_ret
    exact ⟨by rw [HF.out]; rfl, HK.out⟩
  · have HF : Hid (findT p ls = some x) := hf
    clear hf
    have hi : (0 : Int) ≤ i := by omega
    go_wp2
    go_ret
    exact ⟨by rw [HF.out]; first | rfl | simp [hi], HK.out⟩

theorem hasPage_any (a : Option Addr) (ls : List Lf) (c : Nat) (p : Int) (w : World) (hl : ls.length ≤ c ∧ c ≤ maxLen) (hs : SegL w a ls) :
    Calls Tryz.prog 123 #[.slice a ls.length c, .int .i64 p] w fun r w' => r = .returned (.bool (findT p ls).isSome) ∧ Keeps (fun _ => False) w w' := by
  obtain ⟨W, hW⟩ : ∃ W, W = w.alloc (.cells #[.int .i64 p] 3) := ⟨_, rfl⟩
  have hKW : Keeps (fun _ => False) w W := by rw [hW]; exact (Keeps.refl _ w).alloc _
  have hB : Blk W w.heap.size [.int .i64 p] 3 := by rw [hW]; exact Blk.new w _ 3
  have HC : Hid (Calls _ _ _ _ _) := contains_any a ls c w.heap.size p W hl (hs.kept hKW fun _ _ h => h) (hB.cell rfl)
  have HW : Hid (W = _ ∧ Keeps (fun _ => False) w W) := ⟨hW, hKW⟩
  obtain ⟨L, hL⟩ : ∃ L, L = ls.length := ⟨_, rfl⟩
  rw [← hL] at HC ⊢
  obtain ⟨b, hb⟩ : ∃ b, b = (findT p ls).isSome := ⟨_, rfl⟩
  rw [← hb] at HC ⊢
  clear hl hs hL hb hW hKW hB
  go_enter Tryz.func123, Tryz.ntmps123
  go_wp2_with fail
  rw [← HW.out.1]
  refine HC.out.mono ?_
  rintro r w1 ⟨rfl, hK⟩
  have HK : Hid (Keeps (fun _ => False) w w1) := HW.out.2.trans hK fun _ _ h => h
  clear hK HC
  go_wp2
  go_ret
  exact ⟨rfl, HK.out⟩

end Go.Proofs.YtipejahmjdamjaaGreatDoor.Tl
namespace Go.Proofs.YtipejahmjdamjaaGreatDoor.Tl
open Go.RowKit Go.Shelf
set_option linter.unusedVariables false
set_option maxRecDepth 6000
set_option linter.unusedSimpArgs false

set_option maxRecDepth 20000 in
set_option maxHeartbeats 2000000 in
theorem canBeHeld_any (a : Option Addr) (ls : List Lf) (c : Nat) (w : World) (hl : ls.length ≤ c ∧ c ≤ maxLen) (hs : SegL w a ls) :
    Calls Tryz.prog 86 #[.slice a ls.length c] w fun r w' => r = .returned (.bool (heldB ls)) ∧ Keeps (fun _ => False) w w' := by
  obtain ⟨n, hn⟩ : ∃ n, n = ls.length := ⟨_, rfl⟩
  have HS : Hid (SegL w a ls ∧ n = ls.length ∧ (ls.length ≤ c ∧ c ≤ maxLen)) := ⟨hs, hn, hl⟩
  have hc2 : (n : Int) ≤ c := by omega
  have hc3 : (c : Int) ≤ 9223372036854775807 := by unfold maxLen at hl; omega
  rw [← hn]
  clear hl hs hn
  by_cases h4 : 4 < n
  · have h4' : (4 : Int) < n := by omega
    have HB : Hid (heldB ls = false) := held_long (by have := HS.out.2.1; omega)
    go_enter Tryz.func86, Tryz.ntmps86
    go_wp2
    go_ret
    exact ⟨by rw [HB.out]; rfl, Keeps.refl _ _⟩
  · have h4' : ¬ (4 : Int) < n := by omega
    go_enter Tryz.func86, Tryz.ntmps86
    go_wp2
    go_loopw [10] (fun i wr => ∃ j : Nat, j ≤ n ∧ i = .int .i64 j ∧ preB (ls.take j) = true ∧ Keeps (fun _ => False) w wr) (fun i _ => n - (intOf i).toNat)
    case atStart => exact ⟨0, by omega, rfl, by simp [preB], Keeps.refl _ _⟩
    case round =>
      obtain ⟨j, hj, rfl, hp, hK⟩ := hrel
      by_cases hlt : j < n
      · obtain ⟨y, hy⟩ : ∃ y, ls[j]? = some y := ⟨_, List.getElem?_eq_getElem (by have := HS.out.2.1; omega)⟩
        obtain ⟨g, o, rfl, hy3⟩ : ∃ g o, a = some ⟨g, o, none⟩ ∧ LeafAt w g (o + j * 3) y := by
          rcases HS.out.1 with h | ⟨g, o, ha, h⟩
          · rw [h] at hy; simp at hy
          · exact ⟨g, o, ha, h j y hy⟩
        obtain ⟨y0, y1, y2⟩ := hy3.kept hK fun h => h
        obtain ⟨X, hX⟩ : ∃ X, X = wr.alloc (.cells #[.int .i64 y.p, .int .i64 y.f, .int .i64 y.r] 64) := ⟨_, rfl⟩
        have hKX : Keeps (fun _ => False) w X := by rw [hX]; exact hK.alloc _
        have hBX : Blk X wr.heap.size y.vs 64 := by rw [hX]; exact Blk.new wr _ 64
        have HJ : Hid (preB (ls.take j) = true ∧ Keeps (fun _ => False) w X ∧ ls[j]? = some y ∧ Blk X wr.heap.size y.vs 64) := ⟨hp, hKX, hy, hBX⟩
        have HX : Hid (X = _) := hX
        have z0 := hBX.cell (i := 0) rfl
        have z1 := hBX.cell (i := 1) rfl
        have z2 := hBX.cell (i := 2) rfl
        have HM : Hid (∀ w', Calls _ _ _ _ _) := fun w' => mayBe_any y w'
        have hlt' : (j : Int) < n := by omega
        have hjc : (j : Int) ≤ c := by omega
        clear hp hK hy hy3 hX hKX hBX
        cases hm : mayB y
        · rw [hm] at HM
          have HB : Hid (heldB ls = false) := held_pre (pre_may HJ.out.2.2.1 hm)
          clear hm
          go_wp2_with fail
          rw [← HX.out]
          refine wp_region_held_drew (S := (fun w' => w'.cell? ⟨wr.heap.size, 0, none⟩ = some (.int .i64 y.p) ∧ w'.cell? ⟨wr.heap.size, 1, none⟩ = some (.int .i64 y.f) ∧ w'.cell? ⟨wr.heap.size, 2, none⟩ = some (.int .i64 y.r))) Tryz.mixed ⟨z0, z1, z2⟩ (fun hHeld => ?_)
          simp only [List.size_toArray, List.length_cons, List.length_nil, Nat.reduceAdd, Array.replicate_succ, Array.replicate_zero, List.push_toArray, List.append_toArray, List.nil_append, List.cons_append]
          refine wpAnyH_take (i := 0) (oi := { dst := some 15, op := Op.load 64 (Operand.tmp 4), type := 64, pos := "tlb.go:89", after := #[], guard := none }) (v := y.v) rfl (by kernel_rfl) (by kernel_rfl) (by kernel_rfl) (fun _ _ _ h => h) (Or.inl ⟨by kernel_rfl, by (intro w hSw; (try dsimp only at hSw); go_simp)⟩) hHeld ?_
          simp only [Act.put, List.setIfInBounds_toArray, List.set_cons_zero, List.set_cons_succ]
          refine wpAnyH_ready (rs := [1]) (by kernel_rfl) (by simp) ?_
          refine AllReadyH.cons rfl (fun K hK => ?_) AllReadyH.nil
          go_simp
          refine (HM.out _).mono ?_
          rintro r w1 ⟨rfl, hK1⟩
          have hKw : Keeps (fun _ => False) w w1 := HJ.out.2.1.drew.trans hK1 fun _ _ h => h
          have HK1 : Hid (Keeps (fun _ => False) w w1) := hKw
          have hB1 := HJ.out.2.2.2.drew.kept hK1 fun h => h
          have hS : w1.cell? ⟨wr.heap.size, 0, none⟩ = some (.int .i64 y.p) ∧ w1.cell? ⟨wr.heap.size, 1, none⟩ = some (.int .i64 y.f) ∧ w1.cell? ⟨wr.heap.size, 2, none⟩ = some (.int .i64 y.r) := ⟨hB1.cell rfl, hB1.cell rfl, hB1.cell rfl⟩
          have HB1 : Hid (Blk w1 wr.heap.size y.vs 64) := hB1
          clear hK1 hKw hB1
          refine hK.out _ _ hS (fun hHeld => ?_)
          simp only [Act.put, List.setIfInBounds_toArray, List.set_cons_zero, List.set_cons_succ]
          refine wpAnyH_take (i := 2) (oi := { dst := some 17, op := Op.unOp UnOp.not 4 (Operand.tmp 16), type := 4, pos := "tlb.go:89", after := #[{ on := 1, ground := Ground.data }], guard := none }) (v := .bool true) rfl (by kernel_rfl) (by kernel_rfl) (by kernel_rfl) (fun _ _ _ h => h) (Or.inl ⟨by kernel_rfl, by (intro w hSw; (try dsimp only at hSw); go_simp)⟩) hHeld ?_
          simp only [Act.put, List.setIfInBounds_toArray, List.set_cons_zero, List.set_cons_succ]
          refine wpAnyH_take (i := 3) (oi := { dst := some 18, op := Op.move (Operand.tmp 17), type := 4, pos := "tlb.go:89", after := #[{ on := 2, ground := Ground.data }, { on := 1, ground := Ground.chain }], guard := none }) (v := .bool true) rfl (by kernel_rfl) (by kernel_rfl) (by kernel_rfl) (fun _ _ _ h => h) (Or.inl ⟨by kernel_rfl, by (intro w hSw; (try dsimp only at hSw); go_simp)⟩) hHeld ?_
          simp only [Act.put, List.setIfInBounds_toArray, List.set_cons_zero, List.set_cons_succ]
          refine wpAnyH_take (i := 4) (oi := { dst := some 19, op := Op.move (Operand.tmp 0), type := 42, pos := "tlb.go:89", after := #[{ on := 3, ground := Ground.guard }], guard := some (3, false) }) (v := undef) rfl (by kernel_rfl) (by kernel_rfl) (by kernel_rfl) (fun _ _ _ h => h) (Or.inr ⟨by kernel_rfl, rfl⟩) hHeld ?_
          simp only [Act.put, List.setIfInBounds_toArray, List.set_cons_zero, List.set_cons_succ]
          refine wpAnyH_take (i := 5) (oi := { dst := some 20, op := Op.move (Operand.tmp 3), type := 3, pos := "tlb.go:89", after := #[{ on := 3, ground := Ground.guard }], guard := some (3, false) }) (v := undef) rfl (by kernel_rfl) (by kernel_rfl) (by kernel_rfl) (fun _ _ _ h => h) (Or.inr ⟨by kernel_rfl, rfl⟩) hHeld ?_
          simp only [Act.put, List.setIfInBounds_toArray, List.set_cons_zero, List.set_cons_succ]
          refine wpAnyH_take (i := 6) (oi := { dst := some 21, op := Op.slice 42 (Operand.tmp 19) none (some (Operand.tmp 20)) none, type := 42, pos := "tlb.go:89", after := #[{ on := 4, ground := Ground.data }, { on := 5, ground := Ground.data }, { on := 3, ground := Ground.guard }], guard := some (3, false) }) (v := undef) rfl (by kernel_rfl) (by kernel_rfl) (by kernel_rfl) (fun _ _ _ h => h) (Or.inr ⟨by kernel_rfl, rfl⟩) hHeld ?_
          simp only [Act.put, List.setIfInBounds_toArray, List.set_cons_zero, List.set_cons_succ]
          refine wpAnyH_take (i := 7) (oi := { dst := some 22, op := Op.fieldAddr 64 (Operand.tmp 4) 0, type := 0, pos := "tlb.go:89", after := #[{ on := 3, ground := Ground.guard }], guard := some (3, false) }) (v := undef) rfl (by kernel_rfl) (by kernel_rfl) (by kernel_rfl) (fun _ _ _ h => h) (Or.inr ⟨by kernel_rfl, rfl⟩) hHeld ?_
          simp only [Act.put, List.setIfInBounds_toArray, List.set_cons_zero, List.set_cons_succ]
          refine wpAnyH_take (i := 8) (oi := { dst := some 23, op := Op.load 3 (Operand.tmp 22), type := 3, pos := "tlb.go:89", after := #[{ on := 7, ground := Ground.data }, { on := 3, ground := Ground.guard }], guard := some (3, false) }) (v := undef) rfl (by kernel_rfl) (by kernel_rfl) (by kernel_rfl) (fun _ _ _ h => h) (Or.inr ⟨by kernel_rfl, rfl⟩) hHeld ?_
          simp only [Act.put, List.setIfInBounds_toArray, List.set_cons_zero, List.set_cons_succ]
          refine wpAnyH_take (i := 9) (oi := { dst := some 24, op := Op.call { callee := Callee.value (Operand.func 123), args := #[Operand.tmp 21, Operand.tmp 23], argTypes := #[42, 3] }, type := 4, pos := "tlb.go:89", after := #[{ on := 6, ground := Ground.data }, { on := 8, ground := Ground.data }, { on := 3, ground := Ground.chain }, { on := 3, ground := Ground.guard }], guard := some (3, false) }) (v := undef) rfl (by kernel_rfl) (by kernel_rfl) (by kernel_rfl) (fun _ _ _ h => h) (Or.inr ⟨by kernel_rfl, rfl⟩) hHeld ?_
          simp only [Act.put, List.setIfInBounds_toArray, List.set_cons_zero, List.set_cons_succ]
          refine wpAnyH_take (i := 10) (oi := { dst := some 25, op := Op.pick (Operand.tmp 18) (Operand.const (Value.bool true)) (Operand.tmp 24), type := 4, pos := "tlb.go:89", after := #[{ on := 3, ground := Ground.data }, { on := 9, ground := Ground.data }], guard := none }) (v := .bool true) rfl (by kernel_rfl) (by kernel_rfl) (by kernel_rfl) (fun _ _ _ h => h) (Or.inl ⟨by kernel_rfl, by (intro w hSw; (try dsimp only at hSw); go_simp)⟩) hHeld ?_
          simp only [Act.put, List.setIfInBounds_toArray, List.set_cons_zero, List.set_cons_succ]
          refine wpAnyH_done (by kernel_rfl) ?_ _
          clear y0 y1 y2 z0 z1 z2 hS hHeld hK
          go_wp2
          go_ret
          exact ⟨by rw [HB.out]; rfl, HK1.out⟩
        · rw [hm] at HM
          have HMY : Hid (mayB y = true) := hm
          clear hm
          have HH : Hid (∀ w', Keeps (fun _ => False) w w' → Calls Tryz.prog 123 #[.slice (some ⟨g, o, none⟩) j c, .int .i64 y.p] w' _) := fun w' hKw => by
            have := hasPage_any (some ⟨g, o, none⟩) (ls.take j) c y.p w' ⟨by have := HS.out.2.2; simp; omega, HS.out.2.2.2⟩ ((HS.out.1.kept hKw fun _ _ h => h).take j)
            rw [show (ls.take j).length = j by have := HS.out.2.1; simp; omega] at this
            exact this
          go_wp2_with fail
          rw [← HX.out]
          go_region_held3 (fun w' => w'.cell? ⟨wr.heap.size, 0, none⟩ = some (.int .i64 y.p) ∧ w'.cell? ⟨wr.heap.size, 1, none⟩ = some (.int .i64 y.f) ∧ w'.cell? ⟨wr.heap.size, 2, none⟩ = some (.int .i64 y.r)) (first | exact hS | exact HZ2.out | go_keep)
            (first
              | (go_at_call 122; refine (HM.out _).mono ?_; rintro r w1 ⟨rfl, hK1⟩; have hKw : Keeps (fun _ => False) w w1 := HJ.out.2.1.drew.trans hK1 fun _ _ h => h; have HK1 : Hid (Keeps (fun _ => False) w w1) := hKw; have hB1 := HJ.out.2.2.2.drew.kept hK1 fun h => h; have hS : w1.cell? ⟨wr.heap.size, 0, none⟩ = some (.int .i64 y.p) ∧ w1.cell? ⟨wr.heap.size, 1, none⟩ = some (.int .i64 y.f) ∧ w1.cell? ⟨wr.heap.size, 2, none⟩ = some (.int .i64 y.r) := ⟨hB1.cell rfl, hB1.cell rfl, hB1.cell rfl⟩; have HB1 : Hid (Blk w1 wr.heap.size y.vs 64) := hB1; clear hK1 hKw hB1)
              | (go_at_call 123; refine (HH.out _ HK1.out).mono ?_; rintro r w2 ⟨rfl, hK2⟩; have HK2 : Hid (Keeps (fun _ => False) w w2) := HK1.out.trans hK2 fun _ _ h => h; have HZ2 : Hid (w2.cell? ⟨wr.heap.size, 0, none⟩ = some (.int .i64 y.p) ∧ w2.cell? ⟨wr.heap.size, 1, none⟩ = some (.int .i64 y.f) ∧ w2.cell? ⟨wr.heap.size, 2, none⟩ = some (.int .i64 y.r)) := (let hB2 := HB1.out.kept hK2 fun h => h; ⟨hB2.cell rfl, hB2.cell rfl, hB2.cell rfl⟩); clear hK2))
          clear y0 y1 y2 z0 z1 z2
          cases hf : findT y.p (ls.take j) with
          | none =>
            have HP : Hid (preB (ls.take (j + 1)) = true) := pre_step HJ.out.1 HJ.out.2.2.1 HMY.out hf
            simp only [Option.isSome_none]
            clear hf HH
            go_wp2
            go_roundw
            case rel => exact ⟨j + 1, by omega, by go_num, HP.out, HK2.out⟩
            case measure => simp [intOf]; omega
          | some x =>
            have HB : Hid (heldB ls = false) := held_pre (pre_dup HJ.out.2.2.1 hf)
            simp only [Option.isSome_some]
            clear hf HH
            go_wp2
            go_ret
            exact ⟨by rw [HB.out]; rfl, HK2.out⟩
      · obtain rfl : j = n := by omega
        have HB : Hid (heldB ls = true ∧ Keeps (fun _ => False) w wr) := by
          rw [List.take_of_length_le (by have := HS.out.2.1; omega)] at hp
          exact ⟨held_yes hp (by have := HS.out.2.1; omega), hK⟩
        clear hp hK
        go_wp2
        go_ret
        exact ⟨by rw [HB.out.1]; rfl, HB.out.2⟩

end Go.Proofs.YtipejahmjdamjaaGreatDoor.Tl
