import Derived.Test.YtipejahmjdamjaaGreatDoorTlCb
import Derived.Test.YtipejahmjdamjaaGreatDoorProg
import Derived.Test.YtipejahmjdamjaaGreatDoorChRing
import Derived.WalkKit
import Derived.WalkSpells
import Derived.WalkLawsBesides
import Derived.Deep.QuietTactic
import Derived.BigQuiet
import Derived.Below
namespace Go.Proofs.YtipejahmjdamjaaGreatDoor.Tl
open Go.RowKit Go.Shelf
set_option linter.unusedVariables false
set_option maxRecDepth 6000

theorem NowT.trans {w w1 w2 : World} {t : Nat} {ls2 : List Lf} {F F' : Nat → Prop} (h2 : NowT w1 w2 t ls2 F') (hsub : ∀ b, F' b → F b ∨ w.heap.size ≤ b) (hK : Keeps F w w1) : NowT w w2 t ls2 F := by
  obtain ⟨⟨F'', h3, h4⟩, h5⟩ := h2
  refine ⟨⟨F'', h3, fun b hb => ?_⟩, hK.trans h5 fun b hb hF => ?_⟩
  · rcases h4 b hb with h | h
    · exact hsub b h
    · exact .inr (by have := hK.size; omega)
  · rcases hsub b hF with h | h
    · exact h
    · omega

theorem putT_take {ls : List Lf} {j : Nat} {y : Lf} (hh : heldB ls = true) (hy : ls[j]? = some y) : putT y (ls.take j) = ls.take (j + 1) := by
  have h1 : ls.length ≤ 4 ∧ (ls.map Lf.p).Nodup := by
    unfold heldB preB at hh
    simp only [Bool.and_eq_true, decide_eq_true_eq] at hh
    exact ⟨hh.1, hh.2.2⟩
  have hlt := (List.getElem?_eq_some_iff.1 hy).1
  have hw : wo y.p (ls.take j) = ls.take j := by
    refine wo_absent ?_
    unfold findT
    rw [List.find?_eq_none]
    intro z hz
    have h2 := h1.2
    rw [take_split hy, List.map_append, List.map_cons, List.nodup_append] at h2
    have := h2.2.2 z.p (List.mem_map.2 ⟨z, hz, rfl⟩) y.p (by simp)
    simpa using this
  unfold putT
  rw [hw, if_neg (by simp; omega), List.take_add_one, hy]
  rfl
theorem held_len {ls : List Lf} (hh : heldB ls = true) : ls.length ≤ 4 := by
  unfold heldB at hh
  simp only [Bool.and_eq_true, decide_eq_true_eq] at hh
  exact hh.1
theorem held_page {ls : List Lf} (hh : heldB ls = true) {y : Lf} (hy : y ∈ ls) : I64 y.p := by
  unfold heldB preB at hh
  simp only [Bool.and_eq_true] at hh
  exact mayB_p (List.all_eq_true.1 hh.2.1 y hy)

set_option maxHeartbeats 2000000 in
theorem restoreT_any (t : Nat) (L : List Lf) (F : Nat → Prop) (a : Option Addr) (ls : List Lf) (c : Nat) (w : World) (h : Tl w t L F) (hl : ls.length ≤ c ∧ c ≤ maxLen) (hs : SegL w a ls) (ha : ls ≠ [] → ∀ x, a = some x → ¬ F x.block) :
    Calls Tryz.prog 52 #[ptr t, .slice a ls.length c] w fun r w' => (heldB ls = false ∧ r = .returned (.int .i64 81) ∧ NowT w w' t L F) ∨ (heldB ls = true ∧ r = .returned (.int .i64 0) ∧ NowT w w' t ls F) := by
  have HC : Hid (Calls _ _ _ _ _) := canBeHeld_any a ls c w hl hs
  obtain ⟨n, hn⟩ : ∃ n, n = ls.length := ⟨_, rfl⟩
  have HS : Hid (SegL w a ls ∧ n = ls.length ∧ (ls.length ≤ c ∧ c ≤ maxLen) ∧ Tl w t L F ∧ (ls ≠ [] → ∀ x, a = some x → ¬ F x.block)) := ⟨hs, hn, hl, h, ha⟩
  have hc2 : (n : Int) ≤ c := by omega
  have hc3 : (c : Int) ≤ 9223372036854775807 := by unfold maxLen at hl; omega
  rw [← hn] at HC ⊢
  clear hl hs hn h ha
  cases hh : heldB ls
  · rw [hh] at HC
    clear hh
    go_enter Tryz.func52, Tryz.ntmps52
    go_wp2_with fail
    refine HC.out.mono ?_
    rintro r w1 ⟨rfl, hK⟩
    have HK : Hid (Keeps (fun _ => False) w w1) := hK
    clear hK HC
    go_wp2
    go_ret
    exact .inl ⟨trivial, rfl, nowT_same HS.out.2.2.2.1 HK.out⟩
  · rw [hh] at HC
    have HB : Hid (heldB ls = true) := hh
    clear hh
    go_enter Tryz.func52, Tryz.ntmps52
    go_wp2_with fail
    refine HC.out.mono ?_
    rintro r w1 ⟨rfl, hK⟩
    have HK : Hid (Keeps (fun _ => False) w w1) := hK
    have HF : Hid (Calls _ _ _ _ _) := flush_any t L F w1 (HS.out.2.2.2.1.kept hK fun _ _ h => h)
    clear hK HC
    go_wp2_with fail
    refine HF.out.mono ?_
    rintro r w2 ⟨rfl, hN⟩
    have H2 : Hid (NowT w w2 t [] F) := hN.first HK.out HS.out.2.2.2.1.lt
    clear hN HF
    go_wp2
    go_loopw [16] (fun i wr => ∃ j : Nat, j ≤ n ∧ i = .int .i64 j ∧ NowT w wr t (ls.take j) F) (fun i _ => n - (intOf i).toNat)
    case atStart => exact ⟨0, by omega, rfl, H2.out⟩
    case round =>
      obtain ⟨j, hj, rfl, hN⟩ := hrel
      by_cases hlt : j < n
      · obtain ⟨y, hy⟩ : ∃ y, ls[j]? = some y := ⟨_, List.getElem?_eq_getElem (by have := HS.out.2.1; omega)⟩
        obtain ⟨g, o, rfl, hy3⟩ : ∃ g o, a = some ⟨g, o, none⟩ ∧ LeafAt w g (o + j * 3) y := by
          rcases HS.out.1 with h | ⟨g, o, ha, h⟩
          · rw [h] at hy; simp at hy
          · exact ⟨g, o, ha, h j y hy⟩
        obtain ⟨y0, y1, y2⟩ := hy3.kept hN.2 (HS.out.2.2.2.2 (fun h => by rw [h] at hy; simp at hy) _ rfl)
        have hgl : g < wr.heap.size := World.block_lt_of_cell? wr _ y0
        obtain ⟨X, hX⟩ : ∃ X, X = wr.alloc (.cells #[.int .i64 y.p, .int .i64 y.f, .int .i64 y.r] 64) := ⟨_, rfl⟩
        have hKX : Keeps (fun _ => False) wr X := by rw [hX]; exact (Keeps.refl _ wr).alloc _
        obtain ⟨⟨F', hT, hsub⟩, hKF⟩ := hN
        have HL : Hid (Calls _ _ _ _ _) := lay_any t (ls.take j) F' y X (hT.kept hKX fun _ _ h => h) (held_page HB.out (List.mem_of_getElem? hy))
        rw [putT_take HB.out hy] at HL
        have HN : Hid ((∀ b, F' b → F b ∨ w.heap.size ≤ b) ∧ Keeps F w wr ∧ Keeps (fun _ => False) wr X ∧ ∀ b, F' b → b < wr.heap.size) := ⟨hsub, hKF, hKX, hT.lt⟩
        have HX : Hid (X = _) := hX
        have hlt' : (j : Int) < n := by omega
        clear hT hsub hKF hKX hX hy hy3
        go_wp2_with fail
        rw [← HX.out]
        refine HL.out.mono ?_
        rintro r w3 ⟨rfl, hN3⟩
        have H3 : Hid (NowT w w3 t (ls.take (j + 1)) F) := (hN3.first HN.out.2.2.1 HN.out.2.2.2).trans HN.out.1 HN.out.2.1
        clear hN3 HL y0 y1 y2 hgl
        go_wp2
        go_roundw
        case rel => exact ⟨j + 1, by omega, by go_num, H3.out⟩
        case measure => simp [intOf]; omega
      · obtain rfl : j = n := by omega
        have HN : Hid (NowT w wr t ls F) := by
          rw [List.take_of_length_le (by have := HS.out.2.1; omega)] at hN
          exact hN
        clear hN
        go_wp2
        go_ret
        exact .inr ⟨trivial, rfl, HN.out⟩

end Go.Proofs.YtipejahmjdamjaaGreatDoor.Tl
namespace Go.Proofs.YtipejahmjdamjaaGreatDoor.Tl
open Go.RowKit Go.Shelf
set_option linter.unusedVariables false
set_option maxRecDepth 6000

theorem flatL_cons (l : Lf) (r : List Lf) : flatL (l :: r) = .int .i64 l.p :: .int .i64 l.f :: .int .i64 l.r :: flatL r := by simp [flatL]
theorem flatL_set (xs : List Lf) (i : Nat) (l : Lf) (hi : i < xs.length) : (((flatL xs).set (i * 3) (.int .i64 l.p)).set (i * 3 + 1) (.int .i64 l.f)).set (i * 3 + 2) (.int .i64 l.r) = flatL (xs.set i l) := by
  induction xs generalizing i with
  | nil => simp at hi
  | cons x r ih =>
    cases i with
    | zero => simp [flatL_cons]
    | succ i =>
      have := ih i (by simpa using hi)
      rw [List.set_cons_succ, flatL_cons, flatL_cons, ← this, show (i + 1) * 3 = i * 3 + 1 + 1 + 1 by omega]
      simp
theorem _root_.Go.Proofs.YtipejahmjdamjaaGreatDoor.Blk.setAt {w : World} {g : Nat} {xs : List Lf} (h : Blk w g (flatL xs) 64) {i : Nat} (hi : i < xs.length) (l : Lf) :
    Blk (((w.setCell ⟨g, i * 3, none⟩ (.int .i64 l.p)).setCell ⟨g, i * 3 + 1, none⟩ (.int .i64 l.f)).setCell ⟨g, i * 3 + 2, none⟩ (.int .i64 l.r)) g (flatL (xs.set i l)) 64 := by
  rw [← flatL_set xs i l hi]
  exact ((h.setCell _ _).setCell _ _).setCell _ _
theorem _root_.Go.Proofs.YtipejahmjdamjaaGreatDoor.Keeps.setAt {S : Nat → Prop} {w w' : World} (h : Keeps S w w') (g i : Nat) (l : Lf) (hg : g < w.heap.size → S g) : Keeps S w (((w'.setCell ⟨g, i * 3, none⟩ (.int .i64 l.p)).setCell ⟨g, i * 3 + 1, none⟩ (.int .i64 l.f)).setCell ⟨g, i * 3 + 2, none⟩ (.int .i64 l.r)) :=
  ((h.setCell _ _ hg).setCell _ _ hg).setCell _ _ hg
theorem _root_.Go.Proofs.YtipejahmjdamjaaGreatDoor.Blk.leafAt {w : World} {g : Nat} {xs : List Lf} (h : Blk w g (flatL xs) 64) {i : Nat} {l : Lf} (hi : xs[i]? = some l) : LeafAt w g (i * 3) l := by
  obtain ⟨h1, h2, h3⟩ := flatL_get xs i l hi
  exact ⟨h.cell h1, h.cell h2, h.cell h3⟩
theorem _root_.Go.Proofs.YtipejahmjdamjaaGreatDoor.Blk.seg {w : World} {g : Nat} {xs : List Lf} (h : Blk w g (flatL xs) 64) : SegL w (some ⟨g, 0, none⟩) xs :=
  .inr ⟨g, 0, rfl, fun j l hj => by rw [Nat.zero_add]; exact h.leafAt hj⟩
theorem _root_.Go.Proofs.YtipejahmjdamjaaGreatDoor.Blk.seg_append {w : World} {g : Nat} {xs ys : List Lf} (h : Blk w g (flatL (xs ++ ys)) 64) : SegL w (some ⟨g, 0, none⟩) xs :=
  .inr ⟨g, 0, rfl, fun j l hj => by
    rw [Nat.zero_add]
    exact h.leafAt (by rw [List.getElem?_append_left (List.getElem?_eq_some_iff.1 hj).1]; exact hj)⟩

theorem made_leaves (n : Nat) : madeCells (Value.agg #[.int .i64 0, .int .i64 0, .int .i64 0]).cells (n * 3) = (flatL (List.replicate n Lf.none)).toArray := by
  apply Array.ext'
  apply List.ext_getElem?
  intro i
  by_cases hi : i < n * 3
  · have e : i = i / 3 * 3 + i % 3 := by omega
    have h2 : (List.replicate n Lf.none)[i / 3]? = some Lf.none := by rw [List.getElem?_replicate, if_pos (by omega)]
    obtain ⟨h3, h4, h5⟩ := flatL_get _ _ _ h2
    have hm : i % 3 = 0 ∨ i % 3 = 1 ∨ i % 3 = 2 := by omega
    have h6 : (flatL (List.replicate n Lf.none))[i]? = some (.int .i64 0) := by
      rcases hm with h | h | h
      · rw [e, h]; exact h3
      · rw [e, h]; exact h4
      · rw [e, h]; exact h5
    rw [List.toList_toArray, h6]
    simp only [madeCells]
    rcases hm with h | h | h <;> simp [hi, h, Value.cells]
  · have h1 : (flatL (List.replicate n Lf.none))[i]? = none := by
      rw [List.getElem?_eq_none_iff, flatL_length]; simp; omega
    rw [List.toList_toArray, h1]
    simp [madeCells]
    omega

/-- make([]Leaf, n). -/
theorem make_full (w : World) (n : Nat) (hn : n ≤ 5864062014700) : ∃ W, (Instr.makeSlice 42 (.int .i64 n) (.int .i64 n)).run Tryz.prog w = .ok (.slice (some ⟨w.heap.size, 0, none⟩) n n) W ∧ Blk W w.heap.size (flatL (List.replicate n Lf.none)) 64 ∧ Keeps (fun _ => False) w W ∧ W.heap.size = w.heap.size + 1 := by
  obtain ⟨i0, hi, hz0, hz1, hz2⟩ := info_parts Tryz.info64
  have h := run_make (P := Tryz.prog) w 42 64 i0 _ Tryz.underlying42 hi hz0 .i64 .i64 n n (by omega) (by omega) (by rw [hz2]; omega) (by omega)
  rw [hz1] at h
  simp only [Int.toNat_natCast] at h
  rw [made_leaves] at h
  exact ⟨_, h, by have := Blk.new w (flatL (List.replicate n Lf.none)).toArray 64; simpa using this, (Keeps.refl _ w).alloc _, by simp⟩

end Go.Proofs.YtipejahmjdamjaaGreatDoor.Tl
namespace Go.Proofs.YtipejahmjdamjaaGreatDoor
open Go.RowKit
set_option linter.unusedVariables false

def wvs (ws : List UInt32) : List Value := ws.map fun x => .int .u32 (x.toNat : Int)
theorem wvs_length (ws : List UInt32) : (wvs ws).length = ws.length := by simp [wvs]
theorem wvs_get (ws : List UInt32) (i : Nat) (h : i < ws.length) : (wvs ws)[i]? = some (.int .u32 (ws[i].toNat : Int)) := by simp [wvs, h]
theorem wvs_append (a b : List UInt32) : wvs (a ++ b) = wvs a ++ wvs b := by simp [wvs]
theorem wvs_take (xs : List UInt32) (n : Nat) : wvs (xs.take n) = (wvs xs).take n := by simp [wvs, List.map_take]
theorem wvs_drop (xs : List UInt32) (n : Nat) : wvs (xs.drop n) = (wvs xs).drop n := by simp [wvs, List.map_drop]
theorem wvs_rep (n : Nat) (x : UInt32) : wvs (List.replicate n x) = List.replicate n (.int .u32 (x.toNat : Int)) := by simp [wvs]
theorem wvs_one (xs : List UInt32) : ∀ v ∈ wvs xs, v.oneCell' = true := by
  intro v hv
  obtain ⟨x, _, rfl⟩ := List.mem_map.1 hv
  rfl

/-- These words can be read at this address. -/
def SegW (w : World) (a : Option Addr) (ws : List UInt32) : Prop :=
  ws = [] ∨ ∃ g o, a = some ⟨g, o, none⟩ ∧ ∀ j, (h : j < ws.length) → w.cell? ⟨g, o + j, none⟩ = some (.int .u32 (ws[j].toNat : Int))

theorem SegW.kept {S : Nat → Prop} {w w' : World} {a : Option Addr} {ws : List UInt32} (h : SegW w a ws) (hK : Keeps S w w') (hn : ∀ x, a = some x → ¬ S x.block) : SegW w' a ws := by
  rcases h with h | ⟨g, o, ha, hc⟩
  · exact .inl h
  · refine .inr ⟨g, o, ha, fun j hj => ?_⟩
    have h1 := hc j hj
    have hlt : g < w.heap.size := World.block_lt_of_cell? w ⟨g, o + j, none⟩ h1
    rw [World.cell?_of_block (w := w) (hK.block g hlt (hn _ ha))]
    exact h1

theorem segW_of_blk {w : World} {g : Nat} {ws : List UInt32} {t : TypeId} (h : Blk w g (wvs ws) t) : SegW w (some ⟨g, 0, none⟩) ws :=
  .inr ⟨g, 0, rfl, fun j hj => h.cell (by rw [Nat.zero_add]; exact wvs_get ws j hj)⟩

theorem segW_part {w : World} {g : Nat} {ws : List UInt32} {t : TypeId} (h : Blk w g (wvs ws) t) (o n : Nat) (hf : o + n ≤ ws.length) : SegW w (some ⟨g, o, none⟩) ((ws.drop o).take n) := by
  refine .inr ⟨g, o, rfl, fun j hj => ?_⟩
  have hj' : j < n := by simp at hj; omega
  rw [h.cell (wvs_get ws (o + j) (by omega))]
  simp

theorem segW_cells {w : World} {a : Option Addr} {xs : List UInt32} (h : SegW w a xs) : wvs xs = [] ∨ ∃ b p, a = some ⟨b, p, none⟩ ∧ ∀ j u, (wvs xs)[j]? = some u → w.cell? ⟨b, p + j, none⟩ = some u := by
  rcases h with h | ⟨g, o, h, k⟩
  · left; rw [h]; rfl
  · right
    refine ⟨g, o, h, fun j u hj => ?_⟩
    have hlt : j < xs.length := by
      have := (List.getElem?_eq_some_iff.1 hj).1
      rw [wvs_length] at this
      exact this
    rw [wvs_get xs j hlt] at hj
    rw [k j hlt]; exact hj

theorem Tryz.info37 : (Tryz.prog.info? 37).map (fun i => (i.zero, i.size, i.bytes)) = some (some (.int .u32 0), 1, 4) := by kernel_rfl
theorem Tryz.size37 : (Tryz.prog.info? 37).map (·.size) = some 1 := by kernel_rfl
theorem Tryz.zero37 (w : World) : (zeroValue 37).run Tryz.prog w = .ok (.int .u32 0) w := by kernel_rfl

theorem madeCells_words (n : Nat) : madeCells (Value.int .u32 0).cells n = (wvs (List.replicate n 0)).toArray := by
  apply Array.ext'
  apply List.ext_getElem?
  intro i
  have hm : i % 1 = 0 := by omega
  simp [madeCells, wvs, List.getElem?_replicate]
  by_cases hi : i < n
  · simp [hi, Value.cells, hm]
  · simp [hi]

theorem run_make_words {w : World} (n : Nat) (hn : n ≤ 70368744177664) :
    (Instr.makeSlice 22 (.int .i64 n) (.int .i64 n)).run Tryz.prog w = .ok (.slice (some ⟨w.heap.size, 0, none⟩) n n) (w.alloc (.cells (wvs (List.replicate n 0)).toArray 37)) := by
  obtain ⟨i0, hi, hz0, hz1, hz2⟩ := info_parts Tryz.info37
  have h := run_make (P := Tryz.prog) w 22 37 i0 (.int .u32 0) Tryz.underlying22 hi hz0 .i64 .i64 n n (by omega) (by omega) (by rw [hz2]; omega) (by omega)
  rw [hz1, Nat.mul_one, Int.toNat_natCast, madeCells_words] at h
  exact h

/-- copy(dst, src), as many as there are in src, and dst has as many. -/
theorem run_copy_wb {w : World} (ty : TypeId) (g o dCap : Nat) (l : List Value) (t : TypeId) (hg : Blk w g l t) (a : Option Addr) (sCap : Nat) (xs : List UInt32)
    (hx : SegW w a xs) (hfit : o + xs.length ≤ l.length) :
    (Builtin.copy_ #[22, 22] ty #[.slice (some ⟨g, o, none⟩) xs.length dCap, .slice a xs.length sCap]).run Tryz.prog w = .ok (goInt xs.length) (w.setRow g (l.take o ++ wvs xs ++ l.drop (o + xs.length)).toArray) := by
  rcases segW_cells hx with h0 | ⟨b, p, rfl, hc⟩
  · have hl : xs.length = 0 := by rw [← wvs_length, h0]; rfl
    have h := run_copy_none (P := Tryz.prog) w 22 22 ty 37 (some ⟨g, o, none⟩) a 0 dCap 0 sCap Tryz.underlying22 Tryz.size37 rfl
    have h2 := setRow_self w g l.toArray t (0, 0) hg
    rw [hl, h0, List.append_nil, Nat.add_zero, List.take_append_drop, h2]
    exact h
  · have h := run_copy_row Tryz.prog w 22 22 ty 37 g o xs.length dCap ⟨b, p, none⟩ xs.length sCap l.toArray t (wvs xs) Tryz.underlying22 Tryz.size37 hg (by simp [wvs_length]) (by
      intro j v hj
      rw [addr_add]
      exact hc j v hj) (by rw [wvs_length]; simpa using hfit) (wvs_one xs)
    rw [wvs_length] at h
    exact h

/-- clear(s). -/
theorem run_clear_wb {w : World} (ty : TypeId) (g o n c : Nat) (l : List Value) (t : TypeId) (hg : Blk w g l t) (hfit : o + n ≤ l.length) :
    (Builtin.clear_ #[22] ty #[.slice (some ⟨g, o, none⟩) n c]).run Tryz.prog w = .ok (.tuple #[]) (w.setRow g (l.take o ++ List.replicate n (Value.int .u32 0) ++ l.drop (o + n)).toArray) := by
  by_cases hn : n = 0
  · subst hn
    have h2 := setRow_self w g l.toArray t (0, 0) hg
    rw [List.replicate_zero, List.append_nil, Nat.add_zero, List.take_append_drop, h2]
    simp [Builtin.clear_, run_underlying Tryz.underlying22]
  · obtain ⟨m, rfl⟩ : ∃ m, n = m + 1 := ⟨n - 1, by omega⟩
    have hzc : (Builtin.zeroCells (Value.int .u32 0).cells (m + 1)).toList = List.replicate (m + 1) (.int .u32 0) := by
      simp [Builtin.zeroCells, Value.cells]
      apply List.ext_getElem
      · simp
      · intro i h1 h2
        simp [Nat.mod_one]
    have hst := run_storeCells_at Tryz.prog g o t (List.replicate (m + 1) (.int .u32 0)) 0 l.toArray w hg (by simpa using hfit) (by intro v hv'; rw [List.eq_of_mem_replicate hv']; rfl)
    rw [List.length_replicate] at hst
    simp only [Nat.add_zero] at hst
    simp [Builtin.clear_, run_underlying Tryz.underlying22, hzc, hst]

theorem wpList_clear_run {ops : Array Oper} {rest : List Oper} {o : Oper} {a : Act} {Q : Exit → Act → World → Prop} {P : Program} {w : World} (hgd : o.guard = none) (s : Operand) (t : TypeId)
    (ho : o.op = .call { callee := .builtin .clear, args := #[s], argTypes := #[t] }) (vs v' : Value) (w' : World) (hs : a.eval s = vs)
    (hr : ∀ ty, (Builtin.clear_ #[t] ty #[vs]).run P w = .ok v' w') (h : wpList P ops Q rest (a.put o.dst v') w') : wpList P ops Q (o :: rest) a w :=
  wpList_plain hgd fun _ hK => by
    unfold Oper.wp execOp
    simp only [ho, resolve, invoke, builtin, Sem.run_bind, Sem.run_pure, Result.andThen_ok, List.map_toArray, List.map_cons, List.map_nil, hs, hr]
    exact hK _ _ h
/-- A guard: the next operation is this clear. -/
theorem isClear {ops : Array Oper} {rest : List Oper} {o : Oper} {a : Act} {Q : Exit → Act → World → Prop} {P : Program} {w : World} (s : Operand) (t : TypeId)
    (_ho : o.op = .call { callee := .builtin .clear, args := #[s], argTypes := #[t] }) (h : wpList P ops Q (o :: rest) a w) : wpList P ops Q (o :: rest) a w := h

/-- A memory: its pointer's block, its words' block, its words. -/
structure Mm (w : World) (b g : Nat) (xs : List UInt32) : Prop where
  ne : b ≠ g
  blk : Blk w b [.slice (some ⟨g, 0, none⟩) xs.length xs.length] 82
  row : Blk w g (wvs xs) 37
  small : xs.length ≤ 16384

theorem Mm.kept {S : Nat → Prop} {w w' : World} {b g : Nat} {xs : List UInt32} (h : Mm w b g xs) (k : Keeps S w w') (hb : ¬ S b) (hg : ¬ S g) : Mm w' b g xs :=
  ⟨h.ne, h.blk.kept k hb, h.row.kept k hg, h.small⟩

/-- Words laid over words. -/
def lay (xs : List UInt32) (at' : Nat) (ys : List UInt32) : List UInt32 := xs.take at' ++ ys ++ xs.drop (at' + ys.length)
theorem lay_length (xs : List UInt32) (p : Nat) (ys : List UInt32) (h : p + ys.length ≤ xs.length) : (lay xs p ys).length = xs.length := by
  simp [lay]; omega

theorem Mm.laid {w : World} {b g : Nat} {xs : List UInt32} (h : Mm w b g xs) (p : Nat) (ys : List UInt32) (hf : p + ys.length ≤ xs.length) :
    Mm (w.setRow g ((wvs xs).take p ++ wvs ys ++ (wvs xs).drop (p + ys.length)).toArray) b g (lay xs p ys) := by
  refine ⟨h.ne, ?_, ?_, ?_⟩
  · rw [lay_length xs p ys hf]; exact h.blk.setRow_ne h.ne _
  · have e : wvs (lay xs p ys) = (wvs xs).take p ++ wvs ys ++ (wvs xs).drop (p + ys.length) := by simp [lay, wvs_append, wvs_take, wvs_drop]
    rw [e]; exact h.row.setRow _
  · rw [lay_length xs p ys hf]; exact h.small

set_option maxHeartbeats 400000 in
theorem copied_any (a : Option Addr) (c : Nat) (xs : List UInt32) (w : World) (hx : SegW w a xs) (hl : xs.length ≤ 1048576) :
    Calls Tryz.prog 38 #[.slice a xs.length c] w fun e w' => e = .returned (.slice (some ⟨w.heap.size, 0, none⟩) xs.length xs.length) ∧ Blk w' w.heap.size (wvs xs) 37 ∧ Keeps (fun _ => False) w w' := by
  have hmk := run_make_words (w := w) xs.length (by omega)
  obtain ⟨W1, hW⟩ : ∃ W1, W1 = w.alloc (.cells (wvs (List.replicate xs.length 0)).toArray 37) := ⟨_, rfl⟩
  rw [← hW] at hmk
  have hK1 : Keeps (fun _ => False) w W1 := by rw [hW]; exact (Keeps.refl _ w).alloc _
  have hB1 : Blk W1 w.heap.size (wvs (List.replicate xs.length 0)) 37 := by rw [hW]; exact Blk.new w _ 37
  have hs1 : SegW W1 a xs := hx.kept hK1 (fun _ _ e => e)
  have hcp := fun ty => run_copy_wb (w := W1) ty w.heap.size 0 xs.length _ 37 hB1 a c xs hs1 (by simp [wvs_length])
  have e : (wvs (List.replicate xs.length 0)).take 0 ++ wvs xs ++ (wvs (List.replicate xs.length 0)).drop (0 + xs.length) = wvs xs := by simp [wvs]
  rw [e] at hcp
  obtain ⟨W3, hW3⟩ : ∃ W3, W3 = W1.setRow w.heap.size (wvs xs).toArray := ⟨_, rfl⟩
  have hB3 : Blk W3 w.heap.size (wvs xs) 37 := by rw [hW3]; exact hB1.setRow _
  have hK3 : Keeps (fun _ => False) w W3 := by rw [hW3]; exact hK1.setRow _ _ (fun h => by omega)
  rw [← hW3] at hcp
  obtain ⟨n, hnn⟩ : ∃ n, n = xs.length := ⟨_, rfl⟩
  rw [← hnn] at hmk hcp ⊢
  have HM : Hid (_ = _) := hmk
  have HC : Hid (∀ ty, _) := hcp
  clear hmk hnn hcp hW3 hW hs1 hB1 hK1 e
  go_enter Tryz.func38, Tryz.ntmps38
  go_wp2_with (at_make; refine wpList_make_run rfl (.tmp 5) (.tmp 5) 22 rfl (.int .i64 n) (.int .i64 n) (.slice (some ⟨w.heap.size, 0, none⟩) n n) W1 rfl rfl HM.out ?_; refine Hid.out ?_)
  unfold Hid
  go_wp2_with (refine isCopy (.tmp 7) (.tmp 8) 22 22 rfl ?_; go_must (refine wpList_copy_run rfl (.tmp 7) (.tmp 8) 22 22 rfl (.slice (some ⟨w.heap.size, 0, none⟩) n n) (.slice a n c) (goInt n) W3 rfl rfl HC.out ?_))
  go_ret
  exact ⟨rfl, hB3, hK3⟩

/-- Where a run lies: at its place; but one of no words at the end lies at the block's head. -/
def at0 (L p : Nat) : Nat := if p < L then p else 0

set_option maxHeartbeats 400000 in
theorem run_in (b g : Nat) (xs : List UInt32) (p n : Nat) (w : World) (h : Mm w b g xs) (hf : p + n ≤ xs.length) :
    Calls Tryz.prog 43 #[.pointer (some ⟨b, 0, none⟩), .int .i64 p, .int .i64 n] w fun e w' => e = .returned (.tuple #[.slice (some ⟨g, at0 xs.length p, none⟩) n (xs.length - p), .int .i64 0]) ∧ w' = w := by
  have c0 := h.blk.cell (i := 0) rfl
  have hs := h.small
  obtain ⟨L, hL⟩ : ∃ L, L = xs.length := ⟨_, rfl⟩
  rw [← hL] at c0 hf hs ⊢
  clear hL h
  have h1 : (p : Int) + (n : Int) ≤ (L : Int) := by omega
  have h2 : (L : Int) ≤ 16384 := by omega
  by_cases hp : p < L
  · have e0 : at0 L p = p := if_pos hp
    rw [e0]
    have h3 : ¬ L = p := by omega
    clear hf hs e0
    go_enter Tryz.func43, Tryz.ntmps43
    go_wp2
    go_ret2
    exact ⟨by simp, rfl⟩
  · have e0 : at0 L p = 0 := if_neg hp
    rw [e0]
    obtain rfl : p = L := by omega
    obtain rfl : n = 0 := by omega
    clear hf hs e0 hp h1
    go_enter Tryz.func43, Tryz.ntmps43
    go_wp2
    go_ret2
    exact ⟨by simp, rfl⟩

set_option maxHeartbeats 400000 in
theorem run_out (b g : Nat) (xs : List UInt32) (p n : Int) (w : World) (h : Mm w b g xs) (hf : ¬ (0 ≤ p ∧ 0 ≤ n ∧ p + n ≤ xs.length)) (hp : p ≤ 9223372036854775807) :
    Calls Tryz.prog 43 #[.pointer (some ⟨b, 0, none⟩), .int .i64 p, .int .i64 n] w fun e w' => e = .returned (.tuple #[.slice none 0 0, .int .i64 51]) ∧ w' = w := by
  have c0 := h.blk.cell (i := 0) rfl
  have hs := h.small
  obtain ⟨L, hL⟩ : ∃ L, L = xs.length := ⟨_, rfl⟩
  rw [← hL] at c0 hf hs
  clear hL h
  have h2 : (L : Int) ≤ 16384 := by omega
  clear hs
  by_cases h0 : p < 0
  · clear hf
    go_enter Tryz.func43, Tryz.ntmps43
    go_wp2
    go_ret2
    exact ⟨rfl, rfl⟩
  · by_cases h1 : n < 0
    · clear hf
      go_enter Tryz.func43, Tryz.ntmps43
      go_wp2
      go_ret2
      exact ⟨rfl, rfl⟩
    · have h3 : (L : Int) - p < n := by omega
      clear hf
      go_enter Tryz.func43, Tryz.ntmps43
      go_wp2
      go_ret2
      exact ⟨rfl, rfl⟩

end Go.Proofs.YtipejahmjdamjaaGreatDoor
namespace Go.Proofs.YtipejahmjdamjaaGreatDoor
open Go.RowKit
set_option linter.unusedVariables false

theorem at0_in {L p n : Nat} (h : p + n ≤ L) (hn : 0 < n) : at0 L p = p := if_pos (by omega)
theorem at0_fit {L p n : Nat} (h : p + n ≤ L) : at0 L p + n ≤ L := by unfold at0; split <;> omega
theorem lay_at0 (xs : List UInt32) (p : Nat) (ys : List UInt32) (h : p + ys.length ≤ xs.length) : lay xs (at0 xs.length p) ys = lay xs p ys := by
  by_cases h0 : 0 < ys.length
  · rw [at0_in h h0]
  · obtain rfl : ys = [] := List.eq_nil_of_length_eq_zero (by omega)
    simp [lay]
theorem rep_wvs (xs : List UInt32) (p n : Nat) (x : UInt32) : List.take p (wvs xs) ++ List.replicate n (Value.int .u32 (x.toNat : Int)) ++ List.drop (p + n) (wvs xs) = List.take p (wvs xs) ++ wvs (List.replicate n x) ++ List.drop (p + (List.replicate n x).length) (wvs xs) := by
  rw [wvs_rep, List.length_replicate]

theorem ret_int {k : IntKind} {a b : Int} (h : a = b) : Ending.returned (.int k a) = .returned (.int k b) := by rw [h]
theorem ret_bool {a b : Bool} (h : a = b) : Ending.returned (.bool a) = .returned (.bool b) := by rw [h]

/-- Which of n things the number c speaks of. -/
def pk (c : Int) (n : Nat) : Nat := ((if c < 0 then -(c + 1) else c) % n).toNat
theorem pk_lt (c : Int) (n : Nat) (h : 0 < n) : pk c n < n := by
  unfold pk
  have h1 := Int.emod_lt_of_pos (if c < 0 then -(c + 1) else c) (show (0 : Int) < n by omega)
  have h2 := Int.emod_nonneg (if c < 0 then -(c + 1) else c) (show (n : Int) ≠ 0 by omega)
  omega
theorem pk_cast (c : Int) (n : Nat) (h : 0 < n) : ((pk c n : Nat) : Int) = (if c < 0 then -(c + 1) else c) % n := by
  unfold pk
  have h2 := Int.emod_nonneg (if c < 0 then -(c + 1) else c) (show (n : Int) ≠ 0 by omega)
  omega

set_option maxHeartbeats 400000 in
theorem words_any (b g : Nat) (xs : List UInt32) (w : World) (h : Mm w b g xs) :
    Calls Tryz.prog 33 #[.pointer (some ⟨b, 0, none⟩)] w fun e w' => e = .returned (.slice (some ⟨w.heap.size, 0, none⟩) xs.length xs.length) ∧ Blk w' w.heap.size (wvs xs) 37 ∧ Keeps (fun _ => False) w w' := by
  have c0 := h.blk.cell (i := 0) rfl
  have HC := copied_any (some ⟨g, 0, none⟩) xs.length xs w (segW_of_blk h.row) (by have := h.small; omega)
  have HC : Hid (Calls _ _ _ _ _) := HC
  clear h
  go_enter Tryz.func33, Tryz.ntmps33
  go_wp2_with fail
  refine HC.out.mono ?_
  rintro e w1 ⟨rfl, h1, h2⟩
  have H1 : Hid (Blk _ _ _ _) := h1
  have H2 : Hid (Keeps _ _ _) := h2
  clear h1 h2 HC c0
  go_wp2
  go_ret
  exact ⟨rfl, H1.out, H2.out⟩

set_option maxHeartbeats 400000 in
theorem frames_any (b g : Nat) (xs : List UInt32) (n : Nat) (w : World) (h : Mm w b g xs) (hn : xs.length = n * 16) :
    Calls Tryz.prog 34 #[.pointer (some ⟨b, 0, none⟩)] w fun e w' => e = .returned (.int .i64 n) ∧ w' = w := by
  have c0 := h.blk.cell (i := 0) rfl
  have hs := h.small
  rw [hn] at c0 hs
  have h2 : (n : Int) ≤ 1024 := by omega
  clear h hn hs
  go_enter Tryz.func34, Tryz.ntmps34
  go_wp2
  go_ret
  exact ⟨ret_int (by omega), rfl⟩

end Go.Proofs.YtipejahmjdamjaaGreatDoor
namespace Go.Proofs.YtipejahmjdamjaaGreatDoor
open Go.RowKit
set_option linter.unusedVariables false

/-- What a call that may lay words leaves: the error, the memory's words. -/
def Done (w : World) (b g : Nat) (xs : List UInt32) (p n : Int) (ys : List UInt32) (e : Ending) (w' : World) : Prop :=
  ((0 ≤ p ∧ 0 ≤ n ∧ p + n ≤ xs.length) ∧ e = .returned (.int .i64 0) ∧ Mm w' b g (lay xs p.toNat ys) ∧ Keeps (· = g) w w') ∨
  (¬ (0 ≤ p ∧ 0 ≤ n ∧ p + n ≤ xs.length) ∧ e = .returned (.int .i64 51) ∧ w' = w)

theorem setRow_keeps (w : World) (g : Nat) (cs : Array Value) : Keeps (· = g) w (w.setRow g cs) := (Keeps.refl _ w).setRow g cs fun _ => rfl

set_option maxHeartbeats 400000 in
theorem write_in (b g : Nat) (xs : List UInt32) (p : Nat) (x : UInt32) (w : World) (h : Mm w b g xs) (hf : p < xs.length) :
    Calls Tryz.prog 15 #[.pointer (some ⟨b, 0, none⟩), .int .i64 p, .int .u32 (x.toNat : Int)] w fun e w' => e = .returned (.int .i64 0) ∧ Mm w' b g (lay xs p [x]) ∧ Keeps (· = g) w w' := by
  have hc := h.row.cell (wvs_get xs p hf)
  have hz := h.row.frozen p
  have HC : Hid (Calls _ _ _ _ _) := run_in b g xs p 1 w h (by omega)
  have hfin : w.setCell ⟨g, p, none⟩ (.int .u32 (x.toNat : Int)) = w.setRow g ((wvs xs).take p ++ wvs [x] ++ (wvs xs).drop (p + [x].length)).toArray := by
    rw [setCell_eq_setRow w g p _ 37 _ _ h.row]
    congr 1
    have hl : p < (wvs xs).length := by rw [wvs_length]; exact hf
    have e : (wvs xs).set p (.int .u32 (x.toNat : Int)) = (wvs xs).take p ++ wvs [x] ++ (wvs xs).drop (p + [x].length) := by
      rw [List.set_eq_take_append_cons_drop, if_pos hl]; simp [wvs]
    rw [← e]; simp
  have hM := h.laid p [x] (by simp; omega)
  rw [← hfin] at hM
  have hK : Keeps (· = g) w (w.setCell ⟨g, p, none⟩ (.int .u32 (x.toNat : Int))) := (Keeps.refl _ w).setCell _ _ fun _ => rfl
  rw [at0_in (n := 1) (show p + 1 ≤ xs.length by omega) (by omega)] at HC
  have HM : Hid (Mm _ _ _ _) := hM
  have HK : Hid (Keeps _ _ _) := hK
  obtain ⟨L, hL⟩ : ∃ L, L = xs.length - p := ⟨_, rfl⟩
  rw [← hL] at HC
  have hL1 : 0 < L := by omega
  obtain ⟨y, hy⟩ : ∃ y : Nat, y = x.toNat := ⟨_, rfl⟩
  obtain ⟨z, hz'⟩ : ∃ z : Nat, z = xs[p].toNat := ⟨_, rfl⟩
  rw [← hz'] at hc
  rw [← hy] at HM HK ⊢
  clear hfin hM hK h hf hL hy hz'
  go_enter Tryz.func15, Tryz.ntmps15
  go_wp2_with fail
  refine HC.out.mono ?_
  rintro e w1 ⟨rfl, hw⟩
  obtain rfl := hw.symm
  clear hw HC
  go_wp2
  go_ret
  exact ⟨rfl, HM.out, HK.out⟩

set_option maxHeartbeats 400000 in
theorem write_out (b g : Nat) (xs : List UInt32) (p : Int) (x : Nat) (w : World) (h : Mm w b g xs) (hf : ¬ (0 ≤ p ∧ p < xs.length)) (hp : p ≤ 9223372036854775807) :
    Calls Tryz.prog 15 #[.pointer (some ⟨b, 0, none⟩), .int .i64 p, .int .u32 x] w fun e w' => e = .returned (.int .i64 51) ∧ w' = w := by
  have HC : Hid (Calls _ _ _ _ _) := run_out b g xs p 1 w h (by omega) hp
  clear h hf hp
  go_enter Tryz.func15, Tryz.ntmps15
  go_wp2_with fail
  refine HC.out.mono ?_
  rintro e w1 ⟨rfl, hw⟩
  obtain rfl := hw.symm
  clear hw HC
  go_wp2
  go_ret
  exact ⟨rfl, rfl⟩

set_option maxHeartbeats 400000 in
theorem read_in (b g : Nat) (xs : List UInt32) (p : Nat) (w : World) (h : Mm w b g xs) (hf : p < xs.length) :
    Calls Tryz.prog 36 #[.pointer (some ⟨b, 0, none⟩), .int .i64 p] w fun e w' => e = .returned (.tuple #[.int .u32 (xs[p].toNat : Int), .int .i64 0]) ∧ w' = w := by
  have hc := h.row.cell (wvs_get xs p hf)
  have HC : Hid (Calls _ _ _ _ _) := run_in b g xs p 1 w h (by omega)
  rw [at0_in (n := 1) (show p + 1 ≤ xs.length by omega) (by omega)] at HC
  obtain ⟨L, hL⟩ : ∃ L, L = xs.length - p := ⟨_, rfl⟩
  rw [← hL] at HC
  obtain ⟨z, hz'⟩ : ∃ z : Nat, z = xs[p].toNat := ⟨_, rfl⟩
  rw [← hz'] at hc ⊢
  clear h hf hL hz'
  go_enter Tryz.func36, Tryz.ntmps36
  go_wp2_with fail
  refine HC.out.mono ?_
  rintro e w1 ⟨rfl, hw⟩
  obtain rfl := hw.symm
  clear hw HC
  go_wp2
  go_ret2
  exact ⟨rfl, rfl⟩

end Go.Proofs.YtipejahmjdamjaaGreatDoor
namespace Go.Proofs.YtipejahmjdamjaaGreatDoor
set_option linter.unusedVariables false

/-- An entry's word. -/
def enc (f r : Nat) : UInt32 := UInt32.ofNat (2147483648 + f * 8 + r)
theorem enc_nat (f r : Nat) (hf : f < 1024) (hr : r < 8) : (enc f r).toNat = 2147483648 + f * 8 + r := by
  unfold enc
  rw [UInt32.toNat_ofNat']
  omega

/-- What a word says: is it there, its frame, its rights. -/
def isT (x : Nat) : Bool := decide (2147483648 ≤ x)
def frm (x : Nat) : Nat := if isT x then x / 8 % 1024 else 0
def rts (x : Nat) : Nat := if isT x then x % 8 else 0

theorem or_shape (f r : Nat) (hf : f < 1024) (hr : r < 8) : (2147483648 ||| f <<< 3) ||| r = 2147483648 + f * 8 + r := by
  have h1 : f <<< 3 = f * 8 := by rw [Nat.shiftLeft_eq]
  have h2 : 2147483648 ||| f <<< 3 = 2147483648 + f * 8 := by
    have := Nat.two_pow_add_eq_or_of_lt (i := 31) (b := f * 8) (by omega) 1
    rw [h1]
    exact this.symm
  have h3 : (2147483648 + f * 8) ||| r = 2147483648 + f * 8 + r := by
    have := Nat.two_pow_add_eq_or_of_lt (i := 3) (b := r) (by omega) (268435456 + f)
    have e : 2 ^ 3 * (268435456 + f) = 2147483648 + f * 8 := by omega
    rw [e] at this
    exact this.symm
  rw [h2, h3]

theorem and_top (x : Nat) (h : x < 4294967296) : x &&& 2147483648 = if isT x then 2147483648 else 0 := by
  have e : x &&& 2147483648 = 2147483648 * (x / 2147483648 % 2) := by
    apply Nat.eq_of_testBit_eq
    intro i
    rw [show (2147483648 : Nat) = 2 ^ 31 from rfl, Nat.testBit_and, Nat.testBit_two_pow_mul, Nat.testBit_two_pow, ← Nat.shiftRight_eq_div_pow]
    by_cases hi : 31 ≤ i
    · by_cases h31 : i = 31
      · subst h31
        have : (x >>> 31 % 2).testBit 0 = x.testBit 31 := by
          rw [Nat.testBit_zero, Nat.testBit_eq_decide_div_mod_eq, Nat.shiftRight_eq_div_pow]
          simp
        simp [this]
      · have hb : (x >>> 31 % 2).testBit (i - 31) = false := by
          apply Nat.testBit_lt_two_pow
          have : 2 ^ 1 ≤ 2 ^ (i - 31) := Nat.pow_le_pow_right (by omega) (by omega)
          omega
        have : ¬ 31 = i := fun e => h31 e.symm
        simp [this, hb]
    · have : ¬ 31 = i := by omega
      simp [this, hi]
  rw [e]
  unfold isT
  by_cases hx : 2147483648 ≤ x
  · rw [if_pos (decide_eq_true hx)]
    have : x / 2147483648 = 1 := by omega
    rw [this]
  · rw [if_neg (by simp; omega)]
    have : x / 2147483648 = 0 := by omega
    rw [this]

/-- A leaf. -/
structure Lf where
  page : Nat
  frame : Nat
  rights : Nat
deriving DecidableEq

def lf0 : Lf := ⟨0, 0, 0⟩

/-- What the entry at i names: frame, rights, error. -/
def nmE (n x : Nat) : Nat := if isT x then (if frm x < n then 0 else 91) else 92
def nmF (n x : Nat) : Nat := if nmE n x = 0 then frm x else 0
def nmR (n x : Nat) : Nat := if nmE n x = 0 then rts x else 0

/-- Walk: its leaf and its error, of a memory of n frames. -/
def walkT (n : Nat) (xs : List UInt32) (root page : Int) : Nat := (xs.getD (16 * root.toNat + page.toNat / 16) 0).toNat
def walkB (n : Nat) (xs : List UInt32) (root page : Int) : Nat := (xs.getD (16 * frm (walkT n xs root page) + page.toNat % 16) 0).toNat
def walkE (n : Nat) (xs : List UInt32) (root page : Int) : Nat :=
  if ¬ (0 ≤ root ∧ root < n) then 91 else if ¬ (0 ≤ page ∧ page < 256) then 92 else
  if nmE n (walkT n xs root page) = 0 then nmE n (walkB n xs root page) else nmE n (walkT n xs root page)
def walkL (n : Nat) (xs : List UInt32) (root page : Int) : Lf :=
  if walkE n xs root page = 0 then ⟨page.toNat, frm (walkB n xs root page), rts (walkB n xs root page)⟩ else lf0

end Go.Proofs.YtipejahmjdamjaaGreatDoor
