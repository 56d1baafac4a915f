import Derived.Test.YtglhfijgnfignaaGreatPM
import Derived.Test.YtglhfijgnfignaaGreatPG
import Derived.Test.YtglhfijgnfignaaGreatPTr
import Derived.RangeFuncNested
import Derived.RangeFuncBound
import Derived.RangeFuncCalls
import Derived.RangeFuncLeaves
import Derived.Shelf.Abstract
import Derived.Shelf.RegionOpen
import Derived.OwnWalkIn
import Derived.TacticsInMore
import Derived.LoopNIn
import Derived.LoopIn
import Derived.Handy
namespace Go.Proofs.YtglhfijgnfignaaGreat
namespace Mq
open Go.RowKit
set_option linter.unusedVariables false
set_option linter.unusedSimpArgs false
def _root_.Go.Proofs.YtglhfijgnfignaaGreat.Rgn.has (r : Rgn) (p : Nat) : Bool := decide (r.page ≤ p) && decide ((p : Int) < r.page + r.pages)
def findL (rs : List Rgn) (p : Nat) : Option (Nat × Nat) := (rs.find? fun r => r.has p).map fun r => ((r.frame + ((p : Int) - r.page)).toNat, r.rights.toNat)
def encO : Option (Nat × Nat) → UInt32
 | some x => enc x.1 x.2
 | none => 0
def needB (f : Nat → Option (Nat × Nat)) (t : Nat) : Bool := (List.range 16).any fun i => (f (t * 16 + i)).isSome
def rowL (f : Nat → Option (Nat × Nat)) (t : Nat) : List UInt32 := (List.range 16).map fun i => encO (f (t * 16 + i))
def cnt (f : Nat → Option (Nat × Nat)) : Nat → Nat
 | 0 => 0
 | t + 1 => cnt f t + if needB f t then 1 else 0
def topW (f : Nat → Option (Nat × Nat)) (ts : List Int) (t : Nat) : UInt32 := if needB f t then enc (ts.getD (cnt f t) 0).toNat 0 else 0
def topL (f : Nat → Option (Nat × Nat)) (ts : List Int) : List UInt32 := (List.range 16).map (topW f ts)
def layed (f : Nat → Option (Nat × Nat)) (ts : List Int) (xs : List UInt32) : Nat → List UInt32
 | 0 => xs
 | t + 1 => if needB f t then lay (layed f ts xs t) (16 * (ts.getD (cnt f t) 0).toNat) (rowL f t) else layed f ts xs t
def builtL (f : Nat → Option (Nat × Nat)) (ts : List Int) (root : Nat) (xs : List UInt32) : List UInt32 := lay (layed f ts xs 16) (16 * root) (topL f ts)
theorem rowL_length (f : Nat → Option (Nat × Nat)) (t : Nat) : (rowL f t).length = 16 := by simp [rowL]
theorem topL_length (f : Nat → Option (Nat × Nat)) (ts : List Int) : (topL f ts).length = 16 := by simp [topL]
theorem cnt_le (f : Nat → Option (Nat × Nat)) (t : Nat) : cnt f t ≤ t := by
 induction t with
 | zero => exact Nat.le_refl _
 | succ t ih => unfold cnt; split <;> omega
theorem cnt_mono (f : Nat → Option (Nat × Nat)) {s t : Nat} (h : s ≤ t) : cnt f s ≤ cnt f t := by
 induction t with
 | zero => rw [Nat.le_zero.1 h]; exact Nat.le_refl _
 | succ t ih =>
  by_cases hs : s = t + 1
  ·
   rw [hs]; exact Nat.le_refl _
  ·
   have := ih (by omega)
   show _ ≤ cnt f t + _
   omega
theorem cnt_lt (f : Nat → Option (Nat × Nat)) {s t : Nat} (h : s < t) (hn : needB f s = true) : cnt f s < cnt f t := by
 have := cnt_mono f (show s + 1 ≤ t by omega)
 have e : cnt f (s + 1) = cnt f s + 1 := by show cnt f s + _ = _; rw [if_pos hn]
 omega
theorem lay_get (xs : List UInt32) (p : Nat) (ys : List UInt32) (h : p + ys.length ≤ xs.length) (i : Nat) : (lay xs p ys)[i]? = if p ≤ i ∧ i < p + ys.length then ys[i - p]? else xs[i]? := by
 unfold lay
 have hp : (xs.take p).length = p := by simp; omega
 rw [List.append_assoc, List.getElem?_append, hp]
 split
 ·
  rw [if_neg (by omega), List.getElem?_take, if_pos (by assumption)]
 ·
  rw [List.getElem?_append]
  split
  ·
   rw [if_pos (by omega)]
  ·
   rw [if_neg (by omega), List.getElem?_drop]
   congr 1
   omega
def FitF (f : Nat → Option (Nat × Nat)) : Prop := ∀ p x, f p = some x → x.1 < 1024 ∧ x.2 < 8
theorem has_bounds {r : Rgn} {p : Nat} (h : r.has p = true) : r.page ≤ p ∧ (p : Int) < r.page + r.pages := by simpa [Rgn.has] using h
theorem findL_fit {rs : List Rgn} (h : ∀ r, r ∈ rs → r.ok) : FitF (findL rs) := by
 intro p x hx
 unfold findL at hx
 cases hf : rs.find? fun r => r.has p with
 | none => rw [hf] at hx; simp at hx
 | some r =>
  rw [hf] at hx
  simp only [Option.map_some] at hx
  obtain rfl := Option.some.inj hx
  obtain ⟨h1, h2, h3, h4, h5, h6, h7⟩ := h r (List.mem_of_find?_eq_some hf)
  have hb := has_bounds (r := r) (p := p) (by simpa using List.find?_some hf)
  simp only
  omega
end Mq
end Go.Proofs.YtglhfijgnfignaaGreat
namespace Go.Proofs.YtglhfijgnfignaaGreat
namespace Mq
open Go.RowKit Go.Shelf
set_option linter.unusedVariables false
set_option linter.unusedSimpArgs false
attribute [local go_sem] Oper.semAt_some
theorem find_take_none {rs : List Rgn} {j p : Nat} {y : Rgn} (h : (rs.take j).find? (fun r => r.has p) = none) (hy : rs[j]? = some y) (hn : y.has p = false) : (rs.take (j + 1)).find? (fun r => r.has p) = none := by
 rw [List.take_add_one, hy, List.find?_append, h]
 simp [hn]
theorem find_take_hit {rs : List Rgn} {j p : Nat} {y : Rgn} (h : (rs.take j).find? (fun r => r.has p) = none) (hy : rs[j]? = some y) (hn : y.has p = true) : rs.find? (fun r => r.has p) = some y := by
 have hlt := (List.getElem?_eq_some_iff.1 hy).1
 have e : rs = rs.take j ++ rs.drop j := (List.take_append_drop j rs).symm
 rw [e, List.find?_append, h, List.drop_eq_getElem_cons hlt]
 have : rs[j] = y := by rw [List.getElem?_eq_getElem hlt] at hy; exact Option.some.inj hy
 simp [this, hn]
def leafO (p : Nat) : Option (Nat × Nat) → Lf
 | some x => ⟨p, x.1, x.2⟩
 | none => lf0
theorem load_ints {w : World} {b : Nat} {x y z : Int} (h : Blk w b [.int .i64 x, .int .i64 y, .int .i64 z] 45) : (loadVar 45 ⟨b, 0, none⟩).run Tryz.prog w = .ok (.agg #[.int .i64 x, .int .i64 y, .int .i64 z]) w :=
 run_loadVar_row w b 45 45 _ _ _ h Tryz.underlying45 (by simp) (by kernel_rfl)
theorem _root_.Go.Proofs.YtglhfijgnfignaaGreat.Blk.set3 {w : World} {b : Nat} {x y z : Value} {t : TypeId} (h : Blk w b [x, y, z] t) (x' y' z' : Value) : Blk (((w.setCell ⟨b, 0, none⟩ x').setCell ⟨b, 1, none⟩ y').setCell ⟨b, 2, none⟩ z') b [x', y', z'] t := by
 have := ((h.setCell 0 x').setCell 1 y').setCell 2 z'
 simpa using this
theorem _root_.Go.Proofs.YtglhfijgnfignaaGreat.Keeps.set3 {S : Nat → Prop} {w w' : World} (h : Keeps S w w') (b : Nat) (x y z : Value) (hb : b < w.heap.size → S b) : Keeps S w (((w'.setCell ⟨b, 0, none⟩ x).setCell ⟨b, 1, none⟩ y).setCell ⟨b, 2, none⟩ z) :=
 ((h.setCell _ _ hb).setCell _ _ hb).setCell _ _ hb
set_option maxHeartbeats 2000000 in
theorem stand_any (B : Nat) (a : Option Addr) (rs : List Rgn) (c p : Nat) (w : World) (hB : w.cell? ⟨B, 0, none⟩ = some (.slice a rs.length c)) (hl : rs.length ≤ c ∧ c ≤ maxLen) (hs : SegR w a rs) (ho : ∀ r, r ∈ rs → r.ok) (hp : p < 256) :
  Calls Tryz.prog 106 #[.int .i64 p, .pointer (some ⟨B, 0, none⟩)] w fun e w' => e = .returned (.tuple #[(leafO p (findL rs p)).v, .bool (findL rs p).isSome]) ∧ Keeps (fun _ => False) w w' := by
 obtain ⟨L, hL⟩ : ∃ L, L = rs.length := ⟨_, rfl⟩
 rw [← hL] at hB
 have hc2 : (L : Int) ≤ c := by omega
 have hc3 : (c : Int) ≤ 9223372036854775807 := by unfold maxLen at hl; omega
 obtain ⟨W, hW⟩ : ∃ W, W = w.alloc (.cells #[.int .i64 0, .int .i64 0, .int .i64 0] 45) := ⟨_, rfl⟩
 have hBl : Blk W w.heap.size lf0.vs 45 := by rw [hW]; exact Blk.new w _ 45
 have hKW : Keeps (fun _ => False) w W := by rw [hW]; exact (Keeps.refl _ w).alloc _
 have hlt := World.block_lt_of_cell? w _ hB
 have HS : Hid (SegR W a rs ∧ L = rs.length ∧ (∀ r, r ∈ rs → r.ok) ∧ Blk W w.heap.size lf0.vs 45 ∧ Keeps (fun _ => False) w W) := ⟨hs.grown hKW, hL, ho, hBl, hKW⟩
 have HW : Hid (W = _) := hW
 have hp' : (p : Int) < 256 := by omega
 clear hl hs hL hW hBl hKW ho
 go_enter Tryz.func106, Tryz.ntmps106
 go_wp2
 rw [← HW.out]
 go_loopw [10] (fun i wr => ∃ j : Nat, j ≤ L ∧ i = .int .i64 j ∧ (rs.take j).find? (fun r => r.has p) = none ∧ Keeps (fun _ => False) W wr) (fun i _ => L - (intOf i).toNat)
 case atStart => exact ⟨0, by omega, rfl, by simp, Keeps.refl _ _⟩
 case round =>
  obtain ⟨j, hj, rfl, hn, hK⟩ := hrel
  by_cases hlt2 : j < L
  ·
   obtain ⟨y, hy⟩ : ∃ y, rs[j]? = some y := ⟨_, List.getElem?_eq_getElem (by have := HS.out.2.1; omega)⟩
   obtain ⟨g, o, rfl, hg⟩ := HS.out.1.at hy
   obtain ⟨y0, y1, y2, y3⟩ := hg.kept hK fun h => h
   have hBr := HS.out.2.2.2.1.kept hK fun h => h
   have hsz : w.heap.size < wr.heap.size := hBr.lt
   have l0 := hBr.cell (i := 0) rfl
   have l1 := hBr.cell (i := 1) rfl
   have l2 := hBr.cell (i := 2) rfl
   have f0 := hBr.frozen 0
   have f1 := hBr.frozen 1
   have f2 := hBr.frozen 2
   obtain ⟨h1, h2, h3, h4, h5, h6, h7⟩ := HS.out.2.2.1 y (List.mem_of_getElem? hy)
   have HH : Hid (∀ W' z m, Calls Tryz.prog 26 #[.int .i64 z, .int .i64 m] W' _) := fun W' z m => within_any z m W'
   have HJ : Hid ((rs.take j).find? (fun r => r.has p) = none ∧ rs[j]? = some y ∧ Keeps (fun _ => False) W wr ∧ Blk wr w.heap.size lf0.vs 45) := ⟨hn, hy, hK, hBr⟩
   clear hn hy hK hg hBr
   by_cases hh : y.has p = true
   ·
    have hb := has_bounds hh
    have HF : Hid (findL rs p = some ((y.frame + ((p : Int) - y.page)).toNat, y.rights.toNat)) := by
     show findL rs p = _
     unfold findL; rw [find_take_hit HJ.out.1 HJ.out.2.1 hh]; rfl
    have e : inR ((p : Int) - y.page) y.pages = true := inR_true (by omega) (by omega)
    have E : Hid (inR ((p : Int) - y.page) y.pages = true) := e
    have hsum : (0 : Int) ≤ y.frame + ((p : Int) - y.page) ∧ y.frame + ((p : Int) - y.page) < 1024 := by omega
    clear hh e
    go_wp2_with fail
    refine (HH.out _ _ _).mono ?_
    rintro e w1 ⟨rfl, hw⟩
    obtain rfl := hw.symm
    clear hw
    rw [E.out]
    go_wp2
    rw [HF.out]
    have HL : Hid (_ = _) := load_ints ((HJ.out.2.2.2.set3 (.int .i64 p) (.int .i64 (y.frame + ((p : Int) - y.page))) (.int .i64 y.rights)).alloc (.cells #[.int .i64 y.page, .int .i64 y.pages, .int .i64 y.frame, .int .i64 y.rights] 81))
    have HV : Hid ((leafO p (some ((y.frame + ((p : Int) - y.page)).toNat, y.rights.toNat))).v = .agg #[.int .i64 p, .int .i64 (y.frame + ((p : Int) - y.page)), .int .i64 y.rights]) := by
     have q1 : (((y.frame + ((p : Int) - y.page)).toNat : Nat) : Int) = y.frame + ((p : Int) - y.page) := by omega
     have q2 : ((y.rights.toNat : Nat) : Int) = y.rights := by omega
     show Value.agg #[.int .i64 p, .int .i64 (((y.frame + ((p : Int) - y.page)).toNat : Nat) : Int), .int .i64 ((y.rights.toNat : Nat) : Int)] = _
     rw [q1, q2]
    have HKK := ((HS.out.2.2.2.2.trans HJ.out.2.2.1 fun _ _ h => h).set3 w.heap.size (.int .i64 p) (.int .i64 (y.frame + ((p : Int) - y.page))) (.int .i64 y.rights) (fun e => absurd e (Nat.lt_irrefl _))).alloc (.cells #[.int .i64 y.page, .int .i64 y.pages, .int .i64 y.frame, .int .i64 y.rights] 81)
    refine bodyPost_ret (results_cell_tmp (p := 3) (u := 4) (ty := 45) rfl _ _ ⟨w.heap.size, 0, none⟩ _ rfl HL.out) rfl ?_
    refine ⟨?_, HKK⟩
    rw [HV.out]; rfl
   ·
    have hh := Bool.eq_false_iff.2 hh
    have HF : Hid ((rs.take (j + 1)).find? (fun r => r.has p) = none) := find_take_none HJ.out.1 HJ.out.2.1 hh
    have E : Hid (inR ((p : Int) - y.page) y.pages = false) := inR_false (fun h => by
     have : y.has p = true := by simp [Rgn.has]; omega
     rw [hh] at this; cases this)
    clear hh
    go_wp2_with fail
    refine (HH.out _ _ _).mono ?_
    rintro e w1 ⟨rfl, hw⟩
    obtain rfl := hw.symm
    clear hw
    rw [E.out]
    go_wp2
    go_roundw
    case rel => exact ⟨j + 1, by omega, by go_num, HF.out, HJ.out.2.2.1.alloc _⟩
    case measure => simp [intOf]; omega
  ·
   obtain rfl : j = L := by omega
   have HF : Hid (findL rs p = none) := by
    rw [List.take_of_length_le (by have := HS.out.2.1; omega)] at hn
    show findL rs p = none
    unfold findL; rw [hn]; rfl
   have hBr := HS.out.2.2.2.1.kept hK fun h => h
   have l0 := hBr.cell (i := 0) rfl
   have l1 := hBr.cell (i := 1) rfl
   have l2 := hBr.cell (i := 2) rfl
   have f0 := hBr.frozen 0
   have f1 := hBr.frozen 1
   have f2 := hBr.frozen 2
   have HJ : Hid (Keeps (fun _ => False) W wr ∧ Blk wr w.heap.size lf0.vs 45) := ⟨hK, hBr⟩
   clear hn hK hBr
   go_wp2
   rw [HF.out]
   have HL : Hid (_ = _) := load_leaf (HJ.out.2.setLf lf0)
   refine bodyPost_ret (results_cell_tmp (p := 3) (u := 4) (ty := 45) rfl _ _ ⟨w.heap.size, 0, none⟩ lf0.v rfl HL.out) rfl ?_
   refine ⟨rfl, (HS.out.2.2.2.2.trans HJ.out.1 fun _ _ h => h).setLf w.heap.size lf0 (fun e => absurd e (Nat.lt_irrefl _))⟩
end Mq
end Go.Proofs.YtglhfijgnfignaaGreat
namespace Go.Proofs.YtglhfijgnfignaaGreat
namespace Mq
open Go.RowKit
set_option linter.unusedVariables false
set_option linter.unusedSimpArgs false
def memB (v : Int) (ts : List Int) : Bool := decide (v ∈ ts)
theorem memB_true {v : Int} {ts : List Int} (h : v ∈ ts) : memB v ts = true := decide_eq_true h
theorem memB_false {v : Int} {ts : List Int} (h : v ∉ ts) : memB v ts = false := decide_eq_false h
def SegI (w : World) (a : Option Addr) (ts : List Int) : Prop :=
 ts = [] ∨ ∃ g o, a = some ⟨g, o, none⟩ ∧ ∀ (j : Nat) (t : Int), ts[j]? = some t → w.cell? ⟨g, o + j, none⟩ = some (.int .i64 t)
theorem SegI.kept {S : Nat → Prop} {w w' : World} {a : Option Addr} {ts : List Int} (h : SegI w a ts) (hK : Keeps S w w') (hn : ∀ x, a = some x → ¬ S x.block) : SegI w' a ts := by
 rcases h with h | ⟨g, o, ha, hc⟩
 ·
  exact .inl h
 ·
  refine .inr ⟨g, o, ha, fun j t hj => ?_⟩
  have h1 := hc j t hj
  rw [World.cell?_of_block (w := w) (hK.block g (World.block_lt_of_cell? w ⟨g, o + j, none⟩ h1) (hn _ ha))]
  exact h1
theorem SegI.grown {w w' : World} {a : Option Addr} {ts : List Int} (h : SegI w a ts) (hK : Keeps (fun _ => False) w w') : SegI w' a ts := h.kept hK fun _ _ e => e
theorem SegI.take {w : World} {a : Option Addr} {ts : List Int} (h : SegI w a ts) (n : Nat) : SegI w a (ts.take n) := by
 rcases h with h | ⟨g, o, ha, hc⟩
 ·
  left; rw [h]; simp
 ·
  refine .inr ⟨g, o, ha, fun j r hj => hc j r ?_⟩
  rw [List.getElem?_take] at hj
  split at hj
  ·
   exact hj
  ·
   simp at hj
theorem SegI.at {w : World} {a : Option Addr} {ts : List Int} (h : SegI w a ts) {j : Nat} {t : Int} (hj : ts[j]? = some t) : ∃ g o, a = some ⟨g, o, none⟩ ∧ w.cell? ⟨g, o + j, none⟩ = some (.int .i64 t) := by
 rcases h with h | ⟨g, o, ha, hc⟩
 ·
  rw [h] at hj; simp at hj
 ·
  exact ⟨g, o, ha, hc j t hj⟩
set_option maxHeartbeats 1000000 in
theorem indexI_any (a : Option Addr) (ts : List Int) (c : Nat) (v : Int) (w : World) (hl : ts.length ≤ c ∧ c ≤ maxLen) (hs : SegI w a ts) :
  Calls Tryz.prog 148 #[.slice a ts.length c, .int .i64 v] w fun e w' => (∃ z : Int, e = .returned (.int .i64 z) ∧ decide (0 ≤ z) = memB v ts) ∧ w' = w := by
 obtain ⟨L, hL⟩ : ∃ L, L = ts.length := ⟨_, rfl⟩
 have HS : Hid (SegI w a ts ∧ L = ts.length) := ⟨hs, hL⟩
 have hc2 : (L : Int) ≤ c := by omega
 have hc3 : (c : Int) ≤ 9223372036854775807 := by unfold maxLen at hl; omega
 rw [← hL]
 clear hl hs hL
 go_enter Tryz.func148, Tryz.ntmps148
 go_wp2
 go_loopw [8] (fun i wr => ∃ j : Nat, j ≤ L ∧ i = .int .i64 j ∧ v ∉ ts.take j ∧ wr = w) (fun i _ => L - (intOf i).toNat)
 case atStart => exact ⟨0, by omega, rfl, by simp, rfl⟩
 case round =>
  obtain ⟨j, hj, rfl, hn, hwr⟩ := hrel
  have hwr := hwr.symm
  subst hwr
  by_cases hlt : j < L
  ·
   obtain ⟨y, hy⟩ : ∃ y, ts[j]? = some y := ⟨_, List.getElem?_eq_getElem (by have := HS.out.2; omega)⟩
   obtain ⟨g, o, rfl, y0⟩ := HS.out.1.at hy
   have HJ : Hid (v ∉ ts.take j ∧ ts[j]? = some y) := ⟨hn, hy⟩
   clear hn hy
   by_cases hq : v = y
   ·
    have hq' : (v == y) = true := by simpa using hq
    have HF : Hid (v ∈ ts) := by rw [hq]; exact List.mem_of_getElem? HJ.out.2
    clear hq
    go_wp2
    go_ret
    exact ⟨⟨j, rfl, by rw [memB_true HF.out]; simp⟩, rfl⟩
   ·
    have hq' : (v == y) = false := by simpa using hq
    have HF : Hid (v ∉ ts.take (j + 1)) := by
     show v ∉ ts.take (j + 1)
     rw [List.take_add_one, HJ.out.2]
     intro h
     rcases List.mem_append.1 h with h | h
     ·
      exact HJ.out.1 h
     ·
      simp at h; exact hq h
    clear hq
    go_wp2
    go_roundw
    case rel => exact ⟨j + 1, by omega, by go_num, HF.out, by first | rfl | trivial⟩
    case measure => simp [intOf]; omega
  ·
   obtain rfl : j = L := by omega
   have HH : Hid (v ∉ ts) := by
    rw [List.take_of_length_le (by have := HS.out.2; omega)] at hn
    exact hn
   clear hn
   go_wp2
   go_ret
   exact ⟨⟨-1, rfl, by rw [memB_false HH.out]; rfl⟩, rfl⟩
set_option maxHeartbeats 400000 in
theorem containsI_any (a : Option Addr) (ts : List Int) (c : Nat) (v : Int) (w : World) (hl : ts.length ≤ c ∧ c ≤ maxLen) (hs : SegI w a ts) :
  Calls Tryz.prog 103 #[.slice a ts.length c, .int .i64 v] w fun e w' => e = .returned (.bool (memB v ts)) ∧ w' = w := by
 have HC : Hid (Calls _ _ _ _ _) := indexI_any a ts c v w hl hs
 obtain ⟨L, hL⟩ : ∃ L, L = ts.length := ⟨_, rfl⟩
 rw [← hL] at HC ⊢
 clear hl hs hL
 go_enter Tryz.func103, Tryz.ntmps103
 go_wp2_with fail
 refine HC.out.mono ?_
 rintro r w1 ⟨⟨z, rfl, hz⟩, hw⟩
 obtain rfl := hw.symm
 have HK : Hid (decide (0 ≤ z) = memB v ts) := hz
 clear hz hw HC
 go_wp2
 go_ret
 exact ⟨ret_bool HK.out, rfl⟩
def Says (e : Ending) (P : Prop) : Prop := ∃ b, e = .returned (.bool b) ∧ (b = true ↔ P)
theorem says_t {P : Prop} (h : P) : Says (.returned (.bool true)) P := ⟨true, rfl, ⟨fun _ => h, fun _ => rfl⟩⟩
theorem says_f {P : Prop} (h : ¬ P) : Says (.returned (.bool false)) P := ⟨false, rfl, ⟨fun e => (by cases e), fun e => absurd e h⟩⟩
def TabsOk (n : Nat) (root : Int) (ts : List Int) : Prop := ∀ (i : Nat) (t : Int), ts[i]? = some t → (0 ≤ t ∧ t < n) ∧ t ≠ root ∧ t ∉ ts.take i
def Apart (n : Nat) (root : Int) (ts : List Int) : Prop := (0 ≤ root ∧ root < n) ∧ TabsOk n root ts
theorem tabs_step {n : Nat} {root : Int} {ts : List Int} {j : Nat} {y : Int} (h : TabsOk n root (ts.take j)) (hy : ts[j]? = some y) (h1 : 0 ≤ y ∧ y < n) (h2 : y ≠ root) (h3 : y ∉ ts.take j) : TabsOk n root (ts.take (j + 1)) := by
 intro i t hi
 have hjl := (List.getElem?_eq_some_iff.1 hy).1
 rw [List.getElem?_take] at hi
 split at hi
 ·
  rename_i hlt
  by_cases hij : i = j
  ·
   subst hij
   rw [hy] at hi
   obtain rfl := Option.some.inj hi
   refine ⟨h1, h2, ?_⟩
   rw [List.take_take, Nat.min_eq_left (by omega)]; exact h3
  ·
   have := h i t (by rw [List.getElem?_take, if_pos (by omega)]; exact hi)
   rw [List.take_take, Nat.min_eq_left (by omega)] at this
   rw [List.take_take, Nat.min_eq_left (by omega)]; exact this
 ·
  simp at hi
theorem tabs_not {n : Nat} {root : Int} {ts : List Int} {j : Nat} {y : Int} (hy : ts[j]? = some y) (h : ¬ ((0 ≤ y ∧ y < n) ∧ y ≠ root ∧ y ∉ ts.take j)) : ¬ TabsOk n root ts := fun k => h (k j y hy)
set_option maxHeartbeats 2000000 in
theorem apart_any (b g n : Nat) (xs : List UInt32) (root : Int) (a : Option Addr) (ts : List Int) (c : Nat) (w : World) (h : Mn w b g n xs) (hl : ts.length ≤ c ∧ c ≤ maxLen) (hs : SegI w a ts) :
  Calls Tryz.prog 64 #[.pointer (some ⟨b, 0, none⟩), .int .i64 root, .slice a ts.length c] w fun e w' => Says e (Apart n root ts) ∧ Keeps (fun _ => False) w w' := by
 have H1 := has_any b g n xs root w h
 obtain ⟨L, hL⟩ : ∃ L, L = ts.length := ⟨_, rfl⟩
 have HS : Hid (SegI w a ts ∧ L = ts.length ∧ (L ≤ c ∧ c ≤ maxLen) ∧ Mn w b g n xs) := ⟨hs, hL, by rw [hL]; exact hl, h⟩
 have hc2 : (L : Int) ≤ c := by omega
 have hc3 : (c : Int) ≤ 9223372036854775807 := by unfold maxLen at hl; omega
 rw [← hL]
 clear hl hs hL h
 by_cases hr : 0 ≤ root ∧ root < n
 ·
  rw [inR_true hr.1 hr.2] at H1
  have H1 : Hid (Calls _ _ _ _ _) := H1
  have HR : Hid (0 ≤ root ∧ root < n) := hr
  clear hr
  go_enter Tryz.func64, Tryz.ntmps64
  go_wp2_with fail
  refine H1.out.mono ?_
  rintro e w1 ⟨rfl, hw⟩
  obtain rfl := hw.symm
  clear hw
  go_wp2
  go_loopw [15] (fun i wr => ∃ j : Nat, j ≤ L ∧ i = .int .i64 j ∧ TabsOk n root (ts.take j) ∧ wr = w) (fun i _ => L - (intOf i).toNat)
  case atStart => exact ⟨0, by omega, rfl, by intro i t h; simp at h, rfl⟩
  case round =>
   obtain ⟨j, hj, rfl, hp, hwr⟩ := hrel
   have hwr := hwr.symm
   subst hwr
   by_cases hlt : j < L
   ·
    obtain ⟨y, hy⟩ : ∃ y, ts[j]? = some y := ⟨_, List.getElem?_eq_getElem (by have := HS.out.2.1; omega)⟩
    obtain ⟨gi, o, rfl, y0⟩ := HS.out.1.at hy
    have H2 := has_any b g n xs y w HS.out.2.2.2
    have H3 := containsI_any (some ⟨gi, o, none⟩) (ts.take j) c y w ⟨by have := HS.out.2; simp; omega, HS.out.2.2.1.2⟩ (HS.out.1.take j)
    rw [show (ts.take j).length = j by have := HS.out.2.1; simp; omega] at H3
    have HJ : Hid (TabsOk n root (ts.take j) ∧ ts[j]? = some y) := ⟨hp, hy⟩
    have hlt' : (j : Int) < L := by omega
    have hjc : (j : Int) ≤ c := by omega
    clear hp hy
    by_cases h1 : 0 ≤ y ∧ y < n
    ·
     rw [inR_true h1.1 h1.2] at H2
     have H2 : Hid (Calls _ _ _ _ _) := H2
     have HY : Hid (0 ≤ y ∧ y < n) := h1
     clear h1
     by_cases h2 : y = root
     ·
      have h2' : (y == root) = true := by simpa using h2
      have HB : Hid (¬ Apart n root ts) := fun k => tabs_not HJ.out.2 (fun q => q.2.1 h2) k.2
      clear h2 H3
      go_wp2_with fail
      refine H2.out.mono ?_
      rintro e w1 ⟨rfl, hw⟩
      obtain rfl := hw.symm
      clear hw
      go_wp2
      go_ret
      exact ⟨says_f HB.out, Keeps.refl _ _⟩
     ·
      have h2' : (y == root) = false := by simpa using h2
      by_cases h3 : y ∈ ts.take j
      ·
       rw [memB_true h3] at H3
       have H3 : Hid (Calls _ _ _ _ _) := H3
       have HB : Hid (¬ Apart n root ts) := fun k => tabs_not HJ.out.2 (fun q => q.2.2 h3) k.2
       clear h2 h3
       go_wp2_with fail
       refine H2.out.mono ?_
       rintro e w1 ⟨rfl, hw⟩
       obtain rfl := hw.symm
       clear hw
       go_wp2_with fail
       refine H3.out.mono ?_
       rintro e w1 ⟨rfl, hw⟩
       obtain rfl := hw.symm
       clear hw
       go_wp2
       go_ret
       exact ⟨says_f HB.out, Keeps.refl _ _⟩
      ·
       rw [memB_false h3] at H3
       have H3 : Hid (Calls _ _ _ _ _) := H3
       have HP : Hid (TabsOk n root (ts.take (j + 1))) := tabs_step HJ.out.1 HJ.out.2 HY.out h2 h3
       clear h2 h3
       go_wp2_with fail
       refine H2.out.mono ?_
       rintro e w1 ⟨rfl, hw⟩
       obtain rfl := hw.symm
       clear hw
       go_wp2_with fail
       refine H3.out.mono ?_
       rintro e w1 ⟨rfl, hw⟩
       obtain rfl := hw.symm
       clear hw
       go_wp2
       go_roundw
       case rel => exact ⟨j + 1, by omega, by go_num, HP.out, by first | rfl | trivial⟩
       case measure => simp [intOf]; omega
    ·
     rw [inR_false h1] at H2
     have H2 : Hid (Calls _ _ _ _ _) := H2
     have HB : Hid (¬ Apart n root ts) := fun k => tabs_not HJ.out.2 (fun q => h1 q.1) k.2
     clear h1 H3
     go_wp2_with fail
     refine H2.out.mono ?_
     rintro e w1 ⟨rfl, hw⟩
     obtain rfl := hw.symm
     clear hw
     go_wp2
     go_ret
     exact ⟨says_f HB.out, Keeps.refl _ _⟩
   ·
    obtain rfl : j = L := by omega
    have HH : Hid (Apart n root ts) := by
     rw [List.take_of_length_le (by have := HS.out.2.1; omega)] at hp
     exact ⟨HR.out, hp⟩
    clear hp
    go_wp2
    go_ret
    exact ⟨says_t HH.out, Keeps.refl _ _⟩
 ·
  rw [inR_false hr] at H1
  have H1 : Hid (Calls _ _ _ _ _) := H1
  have HB : Hid (¬ Apart n root ts) := fun k => hr k.1
  clear hr
  go_enter Tryz.func64, Tryz.ntmps64
  go_wp2_with fail
  refine H1.out.mono ?_
  rintro e w1 ⟨rfl, hw⟩
  obtain rfl := hw.symm
  clear hw
  go_wp2
  go_ret
  exact ⟨says_f HB.out, Keeps.refl _ _⟩
end Mq
end Go.Proofs.YtglhfijgnfignaaGreat
namespace Go.Proofs.YtglhfijgnfignaaGreat
namespace Mq
open Go.RowKit Go.Shelf
set_option linter.unusedVariables false
set_option linter.unusedSimpArgs false
attribute [local go_sem] Oper.semAt_some
structure Fd (B : Nat) (a : Option Addr) (rs : List Rgn) (c : Nat) (w : World) : Prop where
 box : w.cell? ⟨B, 0, none⟩ = some (.slice a rs.length c)
 len : rs.length ≤ c ∧ c ≤ maxLen
 seg : SegR w a rs
 ok : ∀ r, r ∈ rs → r.ok
theorem Fd.kept {S : Nat → Prop} {B : Nat} {a : Option Addr} {rs : List Rgn} {c : Nat} {w w' : World} (h : Fd B a rs c w) (hK : Keeps S w w') (hB : ¬ S B) (ha : ∀ x, a = some x → ¬ S x.block) : Fd B a rs c w' :=
 ⟨cell_kept h.box hK hB, h.len, h.seg.kept hK ha, h.ok⟩
theorem Fd.grown {B : Nat} {a : Option Addr} {rs : List Rgn} {c : Nat} {w w' : World} (h : Fd B a rs c w) (hK : Keeps (fun _ => False) w w') : Fd B a rs c w' := h.kept hK (fun e => e) fun _ _ e => e
theorem any_take_none {f : Nat → Option (Nat × Nat)} {t i : Nat} : ((List.range (i + 1)).any fun k => (f (t * 16 + k)).isSome) = (((List.range i).any fun k => (f (t * 16 + k)).isSome) || (f (t * 16 + i)).isSome) := by
 rw [List.range_succ, List.any_append]; simp
def rowT (f : Nat → Option (Nat × Nat)) (t i : Nat) : List UInt32 := ((List.range i).map fun k => encO (f (t * 16 + k))) ++ List.replicate (16 - i) 0
theorem rowT_length (f : Nat → Option (Nat × Nat)) (t i : Nat) (h : i ≤ 16) : (rowT f t i).length = 16 := by simp [rowT]; omega
theorem rowT_step (f : Nat → Option (Nat × Nat)) (t i : Nat) (h : i < 16) : (wvs (rowT f t i)).set i (.int .u32 ((encO (f (t * 16 + i))).toNat : Int)) = wvs (rowT f t (i + 1)) := by
 have hl : (wvs ((List.range i).map fun k => encO (f (t * 16 + k)))).length = i := by rw [wvs_length]; simp
 unfold rowT
 rw [wvs_append, List.set_append_right _ _ (by omega), hl, Nat.sub_self, List.range_succ, List.map_append, wvs_append, wvs_append]
 obtain ⟨d, hd⟩ : ∃ d, 16 - i = d + 1 := ⟨16 - i - 1, by omega⟩
 rw [hd, show 16 - (i + 1) = d by omega, List.replicate_succ]
 simp [wvs]
theorem rowT_same (f : Nat → Option (Nat × Nat)) (t i : Nat) (h : i < 16) (hn : f (t * 16 + i) = none) : rowT f t (i + 1) = rowT f t i := by
 unfold rowT
 obtain ⟨d, hd⟩ : ∃ d, 16 - i = d + 1 := ⟨16 - i - 1, by omega⟩
 rw [hd, show 16 - (i + 1) = d by omega, List.replicate_succ, List.range_succ, List.map_append]
 simp [hn, encO]
theorem rowT_full (f : Nat → Option (Nat × Nat)) (t : Nat) : rowT f t 16 = rowL f t := by simp [rowT, rowL]
set_option maxRecDepth 20000 in
set_option maxHeartbeats 4000000 in
theorem tableOf_any (B : Nat) (a : Option Addr) (rs : List Rgn) (c t : Nat) (w : World) (h : Fd B a rs c w) (ht : t < 16) :
  Calls Tryz.prog 146 #[.func (.func 106) #[] #[.pointer (some ⟨B, 0, none⟩)], .int .i64 t] w fun e w' =>
   e = .returned (.tuple #[.slice (some ⟨w.heap.size, 0, none⟩) 16 16, .bool (needB (findL rs) t)]) ∧ Blk w' w.heap.size (wvs (rowL (findL rs) t)) 58 ∧ Keeps (fun _ => False) w w' := by
 have hmk := run_make_words (w := w) 16 (by omega)
 obtain ⟨W1, hW⟩ : ∃ W1, W1 = w.alloc (.cells (wvs (List.replicate 16 0)).toArray 58) := ⟨_, rfl⟩
 rw [← hW] at hmk
 have hK1 : Keeps (fun _ => False) w W1 := by rw [hW]; exact (Keeps.refl _ w).alloc _
 have hB1 : Blk W1 w.heap.size (wvs (rowT (findL rs) t 0)) 58 := by rw [hW]; exact Blk.new w _ 58
 have HM : Hid (_ = _) := hmk
 have H1 : Hid (Keeps (fun _ => False) w W1 ∧ Blk W1 w.heap.size (wvs (rowT (findL rs) t 0)) 58 ∧ Fd B a rs c w) := ⟨hK1, hB1, h⟩
 have ht' : (t : Int) < 16 := by omega
 clear hmk hW hK1 hB1 h ht
 go_enter Tryz.func146, Tryz.ntmps146
 go_wp2_with (at_make; refine wpList_make_run rfl (.const (.int .i64 16)) (.const (.int .i64 16)) 43 rfl (.int .i64 ((16 : Nat) : Int)) (.int .i64 ((16 : Nat) : Int)) (.slice (some ⟨w.heap.size, 0, none⟩) 16 16) W1 rfl rfl HM.out ?_; refine Hid.out ?_)
 unfold Hid
 go_wp2
 go_loopw [12, 5] (fun i u wr => ∃ j : Nat, j ≤ 16 ∧ i = .int .i64 j ∧ u = .bool ((List.range j).any fun k => (findL rs (t * 16 + k)).isSome) ∧ Blk wr w.heap.size (wvs (rowT (findL rs) t j)) 58 ∧ Keeps (fun _ => False) w wr) (fun i _ _ => 16 - (intOf i).toNat)
 case atStart => exact ⟨0, by omega, rfl, rfl, H1.out.2.1, H1.out.1⟩
 case round =>
  obtain ⟨j, hj, rfl, rfl, hBr, hK⟩ := hrel
  have HJ : Hid (Blk wr w.heap.size (wvs (rowT (findL rs) t j)) 58 ∧ Keeps (fun _ => False) w wr) := ⟨hBr, hK⟩
  by_cases hlt : j < 16
  ·
   have hF := H1.out.2.2.grown hK
   have hjl : (j : Int) < 16 := by omega
   have HC := stand_any B a rs c (t * 16 + j) wr hF.box hF.len hF.seg hF.ok (by omega)
   rw [show ((t * 16 + j : Nat) : Int) = (t : Int) * 16 + j by omega] at HC
   have HC : Hid (Calls _ _ _ _ _) := HC
   obtain ⟨A, hA⟩ : ∃ A, A = (List.range j).any fun k => (findL rs (t * 16 + k)).isSome := ⟨_, rfl⟩
   rw [← hA]
   have HA : Hid (A = _) := hA
   clear hA hBr hK hF
   cases hf : findL rs (t * 16 + j) with
   | none =>
    rw [hf] at HC
    have HN : Hid (findL rs (t * 16 + j) = none) := hf
    clear hf
    go_wp2_with fail
    refine HC.out.mono ?_
    rintro e w1 ⟨rfl, hK1⟩
    have HK1 : Hid (Keeps (fun _ => False) wr w1) := hK1
    clear hK1 HC
    go_wp2
    go_roundw
    case rel =>
     refine ⟨j + 1, by omega, by go_num, ?_, ?_, (HJ.out.2.trans HK1.out fun _ _ h => h).alloc _⟩
     ·
      rw [any_take_none, HN.out, ← HA.out]; simp
     ·
      rw [rowT_same _ _ _ hlt HN.out]; exact (HJ.out.1.kept HK1.out fun h => h).alloc _
    case measure => simp [intOf]; omega
   | some x =>
    rw [hf] at HC
    have HN : Hid (findL rs (t * 16 + j) = some x) := hf
    have hfit := findL_fit H1.out.2.2.ok _ x hf
    have HE := fun w => encode_in x.1 x.2 w hfit.1 hfit.2
    have HE : Hid (∀ w, Calls _ _ _ w _) := HE
    obtain ⟨X, hX⟩ : ∃ X, X = x.1 := ⟨_, rfl⟩
    obtain ⟨Y, hY⟩ : ∃ X, X = x.2 := ⟨_, rfl⟩
    obtain ⟨Z, hZ⟩ : ∃ Z, Z = (enc x.1 x.2).toNat := ⟨_, rfl⟩
    have HZ : Hid (Z = (encO (findL rs (t * 16 + j))).toNat) := by rw [hf]; exact hZ
    have hv : (leafO (t * 16 + j) (some x)).v = .agg #[.int .i64 ((t * 16 + j : Nat) : Int), .int .i64 X, .int .i64 Y] := by rw [hX, hY]; rfl
    rw [← hZ, ← hX, ← hY] at HE
    rw [hv] at HC
    clear hf hfit hX hY hZ hv
    go_wp2_with fail
    refine HC.out.mono ?_
    rintro e w1 ⟨rfl, hK1⟩
    have hB1 := HJ.out.1.kept hK1 fun h => h
    have hol : j < (rowT (findL rs) t j).length := by rw [rowT_length _ _ _ (by omega)]; exact hlt
    have hBa : Blk (w1.alloc (.cells #[.int .i64 ((t * 16 + j : Nat) : Int), .int .i64 X, .int .i64 Y] 45)) w.heap.size (wvs (rowT (findL rs) t j)) 58 := hB1.alloc _
    have hKa : Keeps (fun _ => False) w (w1.alloc (.cells #[.int .i64 ((t * 16 + j : Nat) : Int), .int .i64 X, .int .i64 Y] 45)) := (HJ.out.2.trans hK1 fun _ _ h => h).alloc _
    have cw := hB1.cell (wvs_get _ j hol)
    have zw := hB1.frozen j
    obtain ⟨v0, hv0⟩ : ∃ v0 : Nat, v0 = ((rowT (findL rs) t j)[j]'hol).toNat := ⟨_, rfl⟩
    rw [← hv0] at cw
    have hsz := hB1.lt
    have HR : Hid (Blk w1 w.heap.size (wvs (rowT (findL rs) t j)) 58 ∧ Keeps (fun _ => False) w w1) := ⟨hB1, HJ.out.2.trans hK1 fun _ _ h => h⟩
    have hst : Hid (_ = _) := rowT_step (findL rs) t j hlt
    clear hK1 HC hB1 hol hv0 hBa hKa
    go_wp2_with fail
    refine (HE.out _).mono ?_
    rintro e w2 ⟨rfl, hw⟩
    obtain rfl := hw.symm
    clear hw
    go_wp2
    go_roundw
    case rel =>
     refine ⟨j + 1, by omega, by go_num, ?_, ?_, ?_⟩
     ·
      rw [any_take_none, HN.out]; simp
     ·
      rw [← hst.out, ← HZ.out]; exact (HR.out.1.setCell j _).alloc _
     ·
      exact (HR.out.2.setCell _ _ fun e => absurd e (Nat.lt_irrefl _)).alloc _
    case measure => simp [intOf]; omega
  ·
   obtain rfl : j = 16 := by omega
   go_wp2
   go_ret2
   have := HJ.out.1
   rw [rowT_full] at this
   exact ⟨rfl, this, HJ.out.2⟩
theorem needed_any (f : Value) (w : World) (hf : ∃ F l, f = .func F #[] l) :
  Calls Tryz.prog 100 #[f] w fun e w' => e = .returned (.func (.func 145) #[] #[.pointer (some ⟨w.heap.size, 0, none⟩)]) ∧ Blk w' w.heap.size [f] 142 ∧ Keeps (fun _ => False) w w' := by
 obtain ⟨F, l, rfl⟩ := hf
 go_enter Tryz.func100, Tryz.ntmps100
 go_wp2
 go_ret
 exact ⟨rfl, Blk.new w _ 142, (Keeps.refl _ w).alloc _⟩
theorem standing_any (a : Option Addr) (n c : Nat) (w : World) :
  Calls Tryz.prog 66 #[.slice a n c] w fun e w' => e = .returned (.func (.func 106) #[] #[.pointer (some ⟨w.heap.size, 0, none⟩)]) ∧ Blk w' w.heap.size [.slice a n c] 50 ∧ Keeps (fun _ => False) w w' := by
 go_enter Tryz.func66, Tryz.ntmps66
 go_wp2
 go_ret
 exact ⟨rfl, Blk.new w _ 50, (Keeps.refl _ w).alloc _⟩
structure OnT (B1 B : Nat) (a : Option Addr) (rs : List Rgn) (c : Nat) (W : World) : Prop where
 p1 : W.cell? ⟨B1, 0, none⟩ = some (.func (.func 106) #[] #[.pointer (some ⟨B, 0, none⟩)])
 fd : Fd B a rs c W
def SkipT (rs : List Rgn) (s s' : Nat) (W : World) : Prop := s' = s + 1 ∧ s < 16 ∧ needB (findL rs) s = false
def TellT (lo : Nat) (rs : List Rgn) (s : Nat) (x : Nat × Nat) (W : World) : Prop := x.1 = s ∧ s < 16 ∧ needB (findL rs) s = true ∧ lo ≤ x.2 ∧ Blk W x.2 (wvs (rowL (findL rs) s)) 58
def encT (x : Nat × Nat) : Array Value := #[.int .i64 x.1, .slice (some ⟨x.2, 0, none⟩) 16 16]
set_option maxRecDepth 20000 in
set_option maxHeartbeats 4000000 in
theorem needed_tells (k lo : Nat) (B1 B : Nat) (a : Option Addr) (rs : List Rgn) (c : Nat) :
  Tells Fence.wide k Tryz.prog 145 #[.pointer (some ⟨B1, 0, none⟩)] encT (fun _ W => OnT B1 B a rs c W ∧ lo ≤ W.heap.size) (SkipT rs) (TellT lo rs) (fun s _ => s + 1) (fun s => s = 16) 0 := by
 intro l J Jx W hgood hskip hkeep hyield h0
 have HG : Hid (∀ s W, J s W → OnT B1 B a rs c W ∧ lo ≤ W.heap.size) := hgood
 have HS : Hid (∀ s s' W, J s W → SkipT rs s s' W → J s' W) := hskip
 have HD : Hid (∀ s W W', J s W → Keeps (fun _ => False) W W' → J s W') := hkeep
 have HY : Hid (∀ s x W, J s W → TellT lo rs s x W → YieldAt Fence.wide (k - 1) Tryz.prog l (encT x) W fun e W' => (e = .returned (.bool true) ∧ J (s + 1) W') ∨ (e = .returned (.bool false) ∧ Jx W')) := hyield
 have HJ : Hid (J 0 W) := h0
 clear hgood hskip hkeep hyield h0
 refine callsIn_of_wp Tryz.func145 rfl trivial ?_ rfl
 refine wpIn_wide.2 ?_
 simp only [Tryz.ntmps145, List.size_toArray, List.length_cons, List.length_nil, Nat.reduceAdd, Nat.reduceSub, Array.replicate_succ, Array.replicate_zero, List.push_toArray, List.append_toArray, List.nil_append, List.cons_append]
 go_wp2
 refine (wpIn_wide (n := k)).1 ?_
 gi_loopw [6] (fun i wr => ∃ s : Nat, s ≤ 16 ∧ i = .int .i64 s ∧ J s wr) (fun i _ => 16 - (intOf i).toNat)
 case atStart => exact ⟨0, by omega, rfl, HJ.out⟩
 case round =>
  obtain ⟨s, hs, rfl, hJ⟩ := hrel
  have HJs : Hid (J s wr) := hJ
  by_cases hlt : s < 16
  ·
   have hg := HG.out s wr hJ
   have p1 := hg.1.p1
   have hlt' : (s : Int) < 16 := by omega
   have HC := tableOf_any B a rs c s wr hg.1.fd hlt
   have HLo : Hid (lo ≤ wr.heap.size) := hg.2
   clear hg hJ
   cases hU : needB (findL rs) s
   ·
    rw [hU] at HC
    have HC : Hid (Calls _ _ _ wr _) := HC
    have HU : Hid (needB (findL rs) s = false) := hU
    clear hU
    gi_wp2_with fail
    refine ⟨trivial, fun h => by simp [Fence.wide] at h, ?_⟩
    refine (callsIn_wide.2 HC.out).mono ?_
    rintro e w2 ⟨rfl, hb, hk⟩
    have HK2 : Hid (Keeps (fun _ => False) wr w2) := hk
    clear hk HC p1 hb
    gi_wp2
    refine ⟨fun _ h => (by cases h), ?_⟩
    gi_wp2
    go_roundw
    case rel => exact ⟨s + 1, by omega, by go_num, HS.out s _ _ (HD.out _ _ _ HJs.out HK2.out) ⟨rfl, hlt, HU.out⟩⟩
    case measure => simp [intOf]; omega
   ·
    rw [hU] at HC
    have HC : Hid (Calls _ _ _ wr _) := HC
    have HU : Hid (needB (findL rs) s = true) := hU
    clear hU
    gi_wp2_with fail
    refine ⟨trivial, fun h => by simp [Fence.wide] at h, ?_⟩
    refine (callsIn_wide.2 HC.out).mono ?_
    rintro e w2 ⟨rfl, hb, hk⟩
    have hT : TellT lo rs s (s, wr.heap.size) w2 := ⟨rfl, hlt, HU.out, HLo.out, hb⟩
    obtain ⟨fn, tmps, assign, body, hy, hR⟩ := HY.out s (s, wr.heap.size) w2 (HD.out _ _ _ HJs.out hk) hT
    unfold encT at hy
    have HR : Hid (RoundIn _ _ _ _ _ _ _ _ _ _) := hR
    clear hR hT hk hb HC p1
    gi_wp2_with fail
    refine ⟨fun h => by simp [Fence.wide] at h, ?_⟩
    refine HR.out.mono ?_
    rintro e W3 (⟨rfl, hJ3⟩ | ⟨rfl, hJx3⟩)
    ·
     have HJ3 : Hid (J (s + 1) W3) := hJ3
     clear hJ3 hy HR
     gi_wp2
     go_roundw
     case rel => exact ⟨s + 1, by omega, by go_num, HJ3.out⟩
     case measure => simp [intOf]; omega
    ·
     have HJ3 : Hid (Jx W3) := hJx3
     clear hJx3 hy HR
     gi_wp2
     refine bodyPost_ret (results_none rfl _ _ _) rfl ?_
     exact ⟨⟨_, rfl⟩, .inr HJ3.out⟩
  ·
   obtain rfl : s = 16 := by omega
   gi_wp2
   go_end0
   exact ⟨⟨_, rfl⟩, .inl ⟨_, rfl, HJs.out⟩⟩
end Mq
end Go.Proofs.YtglhfijgnfignaaGreat
