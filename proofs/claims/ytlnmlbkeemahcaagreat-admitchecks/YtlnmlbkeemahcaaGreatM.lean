import Derived.Test.YtlnmlbkeemahcaaGreatAp
import Derived.Test.YtlnmlbkeemahcaaGreatK
import Derived.Laws.OwnMore
namespace Go.Proofs.YtlnmlbkeemahcaaGreat
open Go.RowKit
set_option linter.unusedVariables false
set_option maxRecDepth 6000
variable {f : Nat} {bs : Array Value} {S : Nat → Prop} {J : World → Int → List (Ow × Int) → Prop}
theorem frame_any (hD : Dl f bs S J) (p B C : Nat) (w : World) (a : Int) (hist : List (Ow × Int)) (hJ : J w a hist) (h0 : 0 ≤ a) (h1 : a ≤ 900000)
  (hB : w.cell? ⟨B, 0, none⟩ = some (.func (.func f) #[] bs)) (hC : w.cell? ⟨C, 0, none⟩ = some (.int .i64 p)) :
  Calls Tryz.prog 142 #[.pointer (some ⟨B, 0, none⟩), .pointer (some ⟨C, 0, none⟩)] w fun e w' => e = .returned (.int .i64 (a / 16)) ∧ J w' (a + 16) (hist ++ [(⟨9, p, 0⟩, 16)]) ∧ Keeps S w w' := by
 have hent := hD.ent
 have HC : Hid (Calls Tryz.prog f (#[Ow.v ⟨9, p, 0⟩, .int .i64 16] ++ bs) w fun e w' => e = .returned (.int .i64 a) ∧ J w' (a + 16) (hist ++ [(⟨9, p, 0⟩, 16)]) ∧ Keeps S w w') := hD.call w a hist ⟨9, p, 0⟩ 16 hJ h0 (by omega) (by omega) (by omega)
 clear hJ hD
 have hq : a.tdiv 16 = a / 16 := Int.tdiv_eq_ediv_of_nonneg h0
 have hq2 : IntKind.i64.wrap (a / 16) = a / 16 := by rw [IntKind.wrap_i64]; omega
 go_enter Tryz.func142, Tryz.ntmps142
 go_wp2_with fail
 refine HC.out.mono ?_
 rintro e w1 ⟨rfl, hj, hK⟩
 have HK : Hid (J w1 (a + 16) (hist ++ [(⟨9, p, 0⟩, 16)]) ∧ Keeps S w w1) := ⟨hj, hK⟩
 clear hj hK HC
 go_wp2
 go_ret
 exact ⟨rfl, HK.out.1, HK.out.2⟩
def cntT (rs : List Rgn) (t : Nat) : Nat := ((List.range t).filter (hasT rs)).length
def tabL (a : Int) (n : Nat) : List Int := (List.range n).map fun (k : Nat) => a / 16 + 1 + (k : Int)
theorem cntT_succ (rs : List Rgn) (t : Nat) : cntT rs (t + 1) = cntT rs t + (if hasT rs t then 1 else 0) := by
 unfold cntT; rw [List.range_succ, List.filter_append]
 cases h : hasT rs t <;> simp [h]
theorem cntT_le (rs : List Rgn) (t : Nat) : cntT rs t ≤ t := by
 unfold cntT; have := List.length_filter_le (hasT rs) (List.range t); simpa using this
theorem tabL_length (a : Int) (n : Nat) : (tabL a n).length = n := by simp [tabL]
theorem tabL_succ (a : Int) (n : Nat) : tabL a (n + 1) = tabL a n ++ [a / 16 + 1 + (n : Int)] := by simp [tabL, List.range_succ]
structure TbI (w : World) (C : Nat) (v : Value) (p : Nat) (S : Nat → Prop) (w' : World) : Prop where
 b0 : Blk w' C [.int .i64 p] 3
 b1 : Blk w' (C + 1) [v] 136
 kp : Keeps S w w'
 cw : C = w.heap.size
 sz : C + 2 ≤ w'.heap.size
 low : ∀ k, S k → k < w.heap.size
theorem TbI.c0 {w w' : World} {C p : Nat} {v : Value} (h : TbI w C v p S w') : w'.cell? ⟨C, 0, none⟩ = some (.int .i64 p) := h.b0.cell rfl
theorem TbI.c1 {w w' : World} {C p : Nat} {v : Value} (h : TbI w C v p S w') : w'.cell? ⟨C + 1, 0, none⟩ = some v := h.b1.cell rfl
theorem TbI.call {w w' w'' : World} {C p : Nat} {v : Value} (h : TbI w C v p S w') (hK : Keeps S w' w'') : TbI w C v p S w'' :=
 ⟨h.b0.kept hK fun e => by have := h.low _ e; have := h.cw; omega, h.b1.kept hK fun e => by have := h.low _ e; have := h.cw; omega, h.kp.trans hK fun _ _ h => h, h.cw, Nat.le_trans h.sz hK.size, h.low⟩
theorem TbI.grow {w w' w'' : World} {C p : Nat} {v : Value} (h : TbI w C v p S w') (hK : KF w' w'') : TbI w C v p S w'' := h.call (hK.mono fun _ _ h => h.elim)
theorem TbI.app {T : Nat → Prop} {w w' w'' : World} {C p : Nat} {v : Value} (h : TbI w C v p S w') (hK : Keeps T w' w'') (hT : ∀ k, T k → C + 2 ≤ k) : TbI w C v p S w'' :=
 ⟨h.b0.kept hK fun e => by have := hT _ e; omega, h.b1.kept hK fun e => by have := hT _ e; omega, h.kp.trans hK fun k hk e => by have := hT _ e; have := h.cw; omega, h.cw, Nat.le_trans h.sz hK.size, h.low⟩
theorem Row.lower {α : Type} {E : Elem α} {w : World} {lo lo' : Nat} {u : Value} {xs : List α} (h : Row E w lo u xs) (hl : lo' ≤ lo) : Row E w lo' u xs :=
 ⟨h.own, fun k hk => Nat.le_trans hl (h.low k hk), h.ok, fun x hx k hk => ⟨Nat.le_trans hl (h.bl x hx k hk).1, (h.bl x hx k hk).2⟩⟩
set_option maxHeartbeats 2000000 in
theorem layTables_any (hD : Dl f bs S J) (p : Nat) (ad : Option Addr) (c : Nat) (l : List Rgn) (w : World) (a : Int) (hist : List (Ow × Int)) (hJ : J w a hist) (hS : ∀ k, S k → k < w.heap.size) (h0 : 0 ≤ a) (h1 : a ≤ 800000) (h16 : a % 16 = 0)
  (hs : SegA Rgn.vs 4 w ad l) (hl1 : l.length ≤ c ∧ c ≤ maxLen) (hall : ∀ r ∈ l, r.inB = true) (hb : l ≠ [] → ∀ y, ad = some y → ¬ S y.block) :
  Calls Tryz.prog 134 #[.int .i64 p, .slice ad l.length c, .func (.func f) #[] bs] w fun e w' => ∃ u, e = .returned (.tuple #[.int .i64 (a / 16), u]) ∧ Row eInt w' w.heap.size u (tabL a (cntT l 16)) ∧
   J w' (a + 16 + 16 * (cntT l 16 : Int)) (hist ++ List.replicate (1 + cntT l 16) (⟨9, p, 0⟩, 16)) ∧ Keeps S w w' := by
 have hent := hD.ent
 have HD : Hid (Dl f bs S J) := hD
 obtain ⟨L, hL⟩ : ∃ L, l.length = L := ⟨_, rfl⟩
 rw [hL]
 have HS : Hid (SegA Rgn.vs 4 w ad l ∧ l.length = L ∧ (L ≤ c ∧ c ≤ maxLen) ∧ (∀ r ∈ l, r.inB = true) ∧ (l ≠ [] → ∀ y, ad = some y → ¬ S y.block) ∧ (∀ k, S k → k < w.heap.size)) := ⟨hs, hL, hL ▸ hl1, hall, hb, hS⟩
 obtain ⟨W, hW⟩ : ∃ W, W = (w.alloc (.cells #[.int .i64 p] 3)).alloc (.cells #[.func (.func f) #[] bs] 136) := ⟨_, rfl⟩
 obtain ⟨C, hC⟩ : ∃ C, C = w.heap.size := ⟨_, rfl⟩
 have HW : Hid (TbI w C (.func (.func f) #[] bs) p S W ∧ J W a hist) := by
  rw [hW, hC]
  have k1 : KF w (w.alloc (.cells #[.int .i64 p] 3)) := (Keeps.refl _ _).alloc _
  have k2 := k1.alloc (.cells #[.func (.func f) #[] bs] 136)
  refine ⟨⟨(Blk.new w _ _).alloc _, ?_, k2.mono fun _ _ h => h.elim, rfl, by simp, hS⟩, hD.kept hJ k2 fun _ _ h => h⟩
  have := Blk.new (w.alloc (.cells #[.int .i64 p] 3)) #[.func (.func f) #[] bs] 136
  simpa using this
 clear hs hL hl1 hall hb hS hJ hD
 go_enter Tryz.func134, Tryz.ntmps134
 go_wp2_with fail
 rw [← hW, ← hC]
 clear hW hC
 refine (frame_any HD.out p (C + 1) C W a hist HW.out.2 h0 (by omega) HW.out.1.c1 HW.out.1.c0).mono ?_
 rintro e w1 ⟨rfl, hj, hK⟩
 have HK : Hid (TbI w C (.func (.func f) #[] bs) p S w1 ∧ J w1 (a + 16) (hist ++ [(⟨9, p, 0⟩, 16)])) := ⟨HW.out.1.call hK, hj⟩
 clear hj hK
 go_wp2
 go_loopw [7, 13] (fun u i wr => ∃ j : Nat, j ≤ 16 ∧ i = .int .i64 j ∧ Row eInt wr (C + 2) u (tabL a (cntT l j)) ∧ TbI w C (.func (.func f) #[] bs) p S wr ∧ J wr (a + 16 + 16 * (cntT l j : Int)) (hist ++ List.replicate (1 + cntT l j) (⟨9, p, 0⟩, 16))) (fun _ i _ => 16 - (intOf i).toNat)
 case atStart => exact ⟨0, by omega, rfl, Row.nil _ _, HK.out.1, by simpa [cntT] using HK.out.2⟩
 case round =>
  obtain ⟨j, hj, rfl, hRow, hI, hJ⟩ := hrel
  have HR : Hid (Row eInt wr (C + 2) u7 (tabL a (cntT l j)) ∧ TbI w C (.func (.func f) #[] bs) p S wr ∧ J wr (a + 16 + 16 * (cntT l j : Int)) (hist ++ List.replicate (1 + cntT l j) (⟨9, p, 0⟩, 16))) := ⟨hRow, hI, hJ⟩
  clear hRow hI hJ
  by_cases hlt : j < 16
  ·
   have HC : Hid (Calls Tryz.prog 143 #[.slice ad L c, .int .i64 j] wr fun e w' => e = .returned (.bool (hasT l j)) ∧ KF wr w') := by
    have := hasTable_any ad c l j wr (HS.out.1.kept HR.out.2.1.kp HS.out.2.2.2.2.1) (by rw [HS.out.2.1]; exact HS.out.2.2.1) HS.out.2.2.2.1 hlt
    rw [HS.out.2.1] at this
    exact this
   go_wp2_with fail
   refine HC.out.mono ?_
   rintro e w2 ⟨rfl, hK⟩
   have HR2 : Hid (Row eInt w2 (C + 2) u7 (tabL a (cntT l j)) ∧ TbI w C (.func (.func f) #[] bs) p S w2 ∧ J w2 (a + 16 + 16 * (cntT l j : Int)) (hist ++ List.replicate (1 + cntT l j) (⟨9, p, 0⟩, 16))) := ⟨HR.out.1.kept hK fun _ h => h.elim, HR.out.2.1.grow hK, HD.out.kept HR.out.2.2 hK fun _ _ h => h⟩
   clear hK HC HR
   obtain ⟨b, hb⟩ : ∃ b, hasT l j = b := ⟨_, rfl⟩
   rw [hb]
   have HB : Hid (cntT l (j + 1) = cntT l j + (if b then 1 else 0)) := by show _ = _; rw [cntT_succ, hb]
   have hcl := cntT_le l j
   clear hb
   cases b with
   | false =>
    go_wp2
    go_roundw
    case rel => exact ⟨j + 1, by omega, by go_num, by rw [HB.out]; exact HR2.out.1, HR2.out.2.1, by rw [HB.out]; exact HR2.out.2.2⟩
    case measure => simp [intOf]; omega
   | true =>
    obtain ⟨m, hm⟩ : ∃ m, cntT l j = m := ⟨_, rfl⟩
    rw [hm] at HR2 HB hcl
    clear hm
    have HC : Hid (Calls Tryz.prog 142 #[.pointer (some ⟨C + 1, 0, none⟩), .pointer (some ⟨C, 0, none⟩)] w2 fun e w' => e = .returned (.int .i64 ((a + 16 + 16 * (m : Int)) / 16)) ∧ J w' (a + 16 + 16 * (m : Int) + 16) ((hist ++ List.replicate (1 + m) (⟨9, p, 0⟩, 16)) ++ [(⟨9, p, 0⟩, 16)]) ∧ Keeps S w2 w') :=
     frame_any HD.out p (C + 1) C w2 _ _ HR2.out.2.2 (by omega) (by omega) HR2.out.2.1.c1 HR2.out.2.1.c0
    go_wp2_with fail
    refine HC.out.mono ?_
    rintro e w3 ⟨rfl, hj3, hK⟩
    have hI3 := HR2.out.2.1.call hK
    obtain ⟨v', W', happ, hR', hKa, _⟩ := int_app ((a + 16 + 16 * (m : Int)) / 16) (HR2.out.1.kept hK fun k hk => by have := hI3.low k hk; have := hI3.cw; omega) hI3.sz (by rw [tabL_length]; omega)
    have hno : ∀ k, some k = u7.ownBlock → C + 2 ≤ k := fun k e => HR2.out.1.low k e.symm
    have HN : Hid (Row eInt W' (C + 2) v' (tabL a (m + 1)) ∧ TbI w C (.func (.func f) #[] bs) p S W' ∧ J W' (a + 16 + 16 * ((m + 1 : Nat) : Int)) (hist ++ List.replicate (1 + (m + 1)) (⟨9, p, 0⟩, 16))) := by
     refine ⟨?_, hI3.app hKa hno, ?_⟩
     ·
      rw [tabL_succ, show a / 16 + 1 + (m : Int) = (a + 16 + 16 * (m : Int)) / 16 by omega]; exact hR'
     ·
      have h5 := HD.out.kept hj3 hKa fun k hk e => by have := hno k e; have := hI3.low k hk; have := hI3.cw; omega
      rw [show a + 16 + 16 * ((m + 1 : Nat) : Int) = a + 16 + 16 * (m : Int) + 16 by omega, show List.replicate (1 + (m + 1)) ((⟨9, p, 0⟩ : Ow), (16 : Int)) = List.replicate (1 + m) (⟨9, p, 0⟩, 16) ++ [(⟨9, p, 0⟩, 16)] by rw [← Nat.add_assoc, List.replicate_succ'], ← List.append_assoc]
      exact h5
    have HAP : Hid (∀ ty, (Builtin.append_ #[114, 114] ty #[u7, .slice (some ⟨w3.heap.size, 0, none⟩) 1 1]).run Tryz.prog (w3.alloc (.cells #[.int .i64 ((a + 16 + 16 * (m : Int)) / 16)] 3)) = .ok v' W') := happ
    clear happ hR' hKa hno hI3 hj3 hK HC HR2
    go_wp2_with (at_builtin; go_must (refine wpList_append_run rfl (.tmp 19) (.tmp 22) 114 114 rfl u7 (.slice (some ⟨w3.heap.size, 0, none⟩) 1 1) v' W' rfl rfl HAP.out ?_; refine Hid.out ?_))
    unfold Hid
    clear HAP
    go_wp2
    go_roundw
    case rel => exact ⟨j + 1, by omega, by go_num, by rw [HB.out]; exact HN.out.1, HN.out.2.1, by rw [HB.out]; exact HN.out.2.2⟩
    case measure => simp [intOf]; omega
  ·
   obtain rfl : j = 16 := by omega
   go_wp2
   go_ret2
   refine ⟨_, rfl, ?_, HR.out.2.2, HR.out.2.1.kp⟩
   have := HR.out.1
   rw [HR.out.2.1.cw] at this
   exact Row.lower this (by omega)
end Go.Proofs.YtlnmlbkeemahcaaGreat
namespace Go.Proofs.YtlnmlbkeemahcaaGreat
open Go.RowKit
set_option linter.unusedVariables false
set_option maxRecDepth 6000
variable {f : Nat} {bs : Array Value} {S : Nat → Prop} {J : World → Int → List (Ow × Int) → Prop}
theorem Row.somes {α : Type} {E : Elem α} {w : World} {lo : Nat} {u : Value} {xs : List α} (h : Row E w lo u xs) (hn : xs ≠ []) : ∃ g cap, u = .slice (some ⟨g, 0, none⟩) xs.length cap ∧ xs.length ≤ cap ∧ cap ≤ maxLen ∧ lo ≤ g ∧ g < w.heap.size := by
 rcases h.own.2 with ⟨_, h0⟩ | ⟨g, cap, cur, rfl, _, hg, h1, h2, h3, h4⟩
 ·
  exact (hn (List.length_eq_zero_iff.1 h0)).elim
 ·
  exact ⟨g, cap, rfl, h1, h2, h.low g rfl, (Array.getElem?_eq_some_iff.1 hg).1⟩
theorem Row.cellAt {α : Type} {E : Elem α} {w : World} {lo g n cap : Nat} {xs : List α} (h : Row E w lo (.slice (some ⟨g, 0, none⟩) n cap) xs) {j i : Nat} {x : α} {v : Value} (hx : xs[j]? = some x) (hv : (E.vs x)[i]? = some v) : w.cell? ⟨g, j * E.k + i, none⟩ = some v := by
 have hf := flat_get E xs j x i v hx hv
 have := h.own.cells (g := g) rfl _ _ hf
 rwa [addr_add, Nat.zero_add] at this
theorem Row.frozenAt {α : Type} {E : Elem α} {w : World} {lo g n cap : Nat} {xs : List α} (h : Row E w lo (.slice (some ⟨g, 0, none⟩) n cap) xs) (i : Nat) : w.frozen? ⟨g, i, none⟩ = false := by
 rcases h.own.2 with ⟨h', _⟩ | ⟨g', cap', cur, h', hb, hg, _⟩
 ·
  simp at h'
 ·
  simp only [Value.slice.injEq, Option.some.injEq, Addr.mk.injEq, and_true] at h'
  obtain ⟨rfl, _⟩ := h'
  exact frozen_of_row w g i cur _ hg
theorem flat_set3 (xs : List Dst) (j : Nat) (d : Dst) (v : Int) (hd : xs[j]? = some d) : (xs.flatMap Dst.vs).set (j * 3 + 2) (.int .i64 v) = (xs.set j ⟨d.p, d.q, v⟩).flatMap Dst.vs := by
 induction xs generalizing j with
 | nil => simp at hd
 | cons y ys ih =>
  cases j with
  | zero =>
   simp at hd
   subst hd
   simp [List.flatMap_cons]
  | succ j =>
   have := ih j (by simpa using hd)
   rw [List.set_cons_succ, List.flatMap_cons, List.flatMap_cons, ← this, List.set_append_right _ _ (by simp; omega)]
   congr 2
   simp
   omega
theorem Row.set3 {w : World} {lo g cap : Nat} {xs : List Dst} (h : Row eDst w lo (.slice (some ⟨g, 0, none⟩) xs.length cap) xs) {j : Nat} {d : Dst} (hd : xs[j]? = some d) (v : Int) :
  Row eDst (w.setCell ⟨g, j * 3 + 2, none⟩ (.int .i64 v)) lo (.slice (some ⟨g, 0, none⟩) xs.length cap) (xs.set j ⟨d.p, d.q, v⟩) := by
 have hs := (World.ownsRow.stored h.own (j * 3 + 2) (.int .i64 v)).1
 refine ⟨?_, h.low, fun x hx => trivial, fun x hx k hk => by cases hk⟩
 have : (xs.set j ⟨d.p, d.q, v⟩).flatMap eDst.vs = (xs.flatMap eDst.vs).set (j * 3 + 2) (.int .i64 v) := (flat_set3 xs j d v hd).symm
 rw [this, List.length_set]
 exact hs
theorem Two.set3 {w : World} {lo g cap n : Nat} {u : Value} {a b : List Dst} (h : Two w lo u (.slice (some ⟨g, 0, none⟩) n cap) a b) (hn : n = b.length) {j : Nat} {d : Dst} (hd : b[j]? = some d) (v : Int) :
  Two (w.setCell ⟨g, j * 3 + 2, none⟩ (.int .i64 v)) lo u (.slice (some ⟨g, 0, none⟩) n cap) a (b.set j ⟨d.p, d.q, v⟩) ∧ Keeps (fun k => k = g) w (w.setCell ⟨g, j * 3 + 2, none⟩ (.int .i64 v)) := by
 subst hn
 have hK : Keeps (fun k => k = g) w (w.setCell ⟨g, j * 3 + 2, none⟩ (.int .i64 v)) := (Keeps.refl _ _).setCell _ _ fun _ => rfl
 refine ⟨⟨h.ra.own_kept eDst_bl hK fun k hk e => h.dif k hk (by rw [e]; rfl), h.rb.set3 hd v, h.dif⟩, hK⟩
def placed (D : List Dst) (b k : Int) (j : Nat) : List Dst := D.mapIdx fun i d => if i < j then ⟨d.p, d.q, b + i * k⟩ else d
theorem placed_zero (D : List Dst) (b k : Int) : placed D b k 0 = D := by
 unfold placed; apply List.ext_getElem? ; intro i; simp
theorem placed_length (D : List Dst) (b k : Int) (j : Nat) : (placed D b k j).length = D.length := by simp [placed]
theorem placed_at {D : List Dst} {b k : Int} {j : Nat} {d : Dst} (hd : D[j]? = some d) : (placed D b k j)[j]? = some d := by
 unfold placed; simp [List.getElem?_mapIdx, hd]
theorem placed_succ {D : List Dst} {b k : Int} {j : Nat} {d : Dst} (hd : D[j]? = some d) : placed D b k (j + 1) = (placed D b k j).set j ⟨d.p, d.q, b + j * k⟩ := by
 apply List.ext_getElem?
 intro i
 have hj : j < D.length := (List.getElem?_eq_some_iff.1 hd).1
 rw [List.getElem?_set]
 simp only [placed, List.getElem?_mapIdx, List.length_mapIdx, hj, if_true]
 by_cases e : j = i
 ·
  subst e; simp [hd]
 ·
  rw [if_neg e]
  cases D[i]? with
  | none => rfl
  | some y =>
   simp only [Option.map_some]
   by_cases h1 : i < j
   ·
    rw [if_pos (by omega), if_pos h1]
   ·
    rw [if_neg (by omega), if_neg h1]
structure ChI (w : World) (x : Cfg) (h : Chn) (C N : Nat) (S : Nat → Prop) (w' : World) : Prop where
 cfg : Blk w' C x.vs 26
 res : Blk w' (C + 1) [.int .i64 0, .int .i64 0, .int .i64 0, .int .i64 0, .slice none 0 0] 107
 shp : Blk w' (C + 2) h.vs 141
 kp : Keeps S w w'
 cin : x.In w' N
 cw : C = w.heap.size
 n : N ≤ C
 low : ∀ k, S k → N ≤ k ∧ k < w.heap.size
 sz : C + 3 ≤ w'.heap.size
theorem ChI.kept {T : Nat → Prop} {w : World} {x : Cfg} {h : Chn} {C N : Nat} {w' w'' : World} (hc : ChI w x h C N S w') (hK : Keeps T w' w'') (hT : ∀ k, T k → S k ∨ C + 3 ≤ k) : ChI w x h C N S w'' := by
 have hcw := hc.cw
 have no : ∀ k, C ≤ k → k < C + 3 → ¬ T k := fun k h1 h2 e => by
  rcases hT k e with h3 | h3
  ·
   have := (hc.low k h3).2; omega
  ·
   omega
 refine ⟨hc.cfg.kept hK (no _ (by omega) (by omega)), hc.res.kept hK (no _ (by omega) (by omega)), hc.shp.kept hK (no _ (by omega) (by omega)), hc.kp.trans hK fun k hk e => ?_, hc.cin.below (hK.below ?_ fun k e => ?_), hc.cw, hc.n, hc.low, Nat.le_trans hc.sz hK.size⟩
 ·
  rcases hT k e with h3 | h3
  ·
   exact h3
  ·
   omega
 ·
  have := hc.n; have := hc.sz; omega
 ·
  have := hc.n
  rcases hT k e with h3 | h3
  ·
   exact (hc.low k h3).1
  ·
   omega
theorem ChI.grow {w : World} {x : Cfg} {h : Chn} {C N : Nat} {w' w'' : World} (hc : ChI w x h C N S w') (hK : KF w' w'') : ChI w x h C N S w'' := hc.kept hK fun _ h => h.elim
end Go.Proofs.YtlnmlbkeemahcaaGreat
namespace Go.Proofs.YtlnmlbkeemahcaaGreat
open Go.RowKit
set_option linter.unusedVariables false
set_option linter.unusedSimpArgs false
set_option maxRecDepth 6000
variable {f : Nat} {bs : Array Value} {S : Nat → Prop} {J : World → Int → List (Ow × Int) → Prop}
theorem Tryz.mixed : Tryz.prog.follows Departure.mixedOrders = true := by kernel_rfl
theorem Tryz.size107 : (Tryz.prog.info? 107).map (·.size) = some 5 := by kernel_rfl
theorem all59 (n1 n2 n3 n4 : Int) (a1 : Option Addr) (m1 c1 : Nat) : (#[Value.int .i64 n1, .int .i64 n2, .int .i64 n3, .int .i64 n4, .slice a1 m1 c1] : Array Value).all (fun v => v.oneCell') = true := by kernel_rfl
theorem Cfg.mayB_chn {x : Cfg} (hm : x.mayB = true) {n : Nat} {h : Chn} (hh : x.hs[n]? = some h) :
  h.sized = true ∧ (∃ s, endsL true n x.ps x.ps.length = [s]) ∧ 1 ≤ (endsL false n x.ps x.ps.length).length ∧ (endsL false n x.ps x.ps.length).length ≤ 4 := by
 have h1 := (Cfg.mayB_iff.1 hm).2.2.2.2.2 n (List.getElem?_eq_some_iff.1 hh).1
 rw [chnB_some hh] at h1
 unfold Chn.whole joined at h1
 simp only [Bool.and_eq_true, decide_eq_true_eq] at h1
 refine ⟨h1.1.1, ?_, h1.2.1.2, h1.2.2⟩
 exact List.length_eq_one_iff.1 h1.2.1.1
theorem Cfg.mayB_ends {x : Cfg} (hm : x.mayB = true) : x.ps.length ≤ 8 ∧ ∀ P ∈ x.ps, P.ps.length ≤ 8 :=
 ⟨(Cfg.mayB_iff.1 hm).2.2.1, fun P hP => (Par.mayB_iff.1 ((Cfg.mayB_iff.1 hm).2.2.2.2.1 P hP)).2.1⟩
def destH (D : List Dst) (k : Int) (j : Nat) : List (Ow × Int) := (D.take j).map fun d => (⟨8, d.p, d.q⟩, k)
theorem destH_succ {D : List Dst} {k : Int} {j : Nat} {d : Dst} (hd : D[j]? = some d) : destH D k (j + 1) = destH D k j ++ [(⟨8, d.p, d.q⟩, k)] := by
 unfold destH; rw [List.take_add_one, hd]; simp
def chanH (n : Nat) (h : Chn) (D : List Dst) : List (Ow × Int) := [(⟨6, n, 0⟩, 2), (⟨7, n, 0⟩, h.stg)] ++ destH D h.prt D.length
def ChP (J : World → Int → List (Ow × Int) → Prop) (S : Nat → Prop) (x : Cfg) (n : Nat) (h : Chn) (w : World) (a : Int) (hist : List (Ow × Int)) (e : Ending) (w' : World) : Prop :=
 ∃ s v, endsL true n x.ps x.ps.length = [s] ∧ e = .returned (.agg #[.int .i64 a, .int .i64 (a + 2), .int .i64 s.p, .int .i64 s.q, v]) ∧
  Row eDst w' w.heap.size v (placed (endsL false n x.ps x.ps.length) (a + 2 + h.stg) h.prt (endsL false n x.ps x.ps.length).length) ∧
  J w' (a + 2 + h.stg + (endsL false n x.ps x.ps.length).length * h.prt) (hist ++ chanH n h (endsL false n x.ps x.ps.length)) ∧ Keeps S w w'
set_option maxHeartbeats 2000000 in
theorem layChannel_any (hD : Dl f bs S J) (x : Cfg) (n : Nat) (h : Chn) (hh : x.hs[n]? = some h) (hm : x.mayB = true) (w : World) (N : Nat) (hi : x.In w N) (hN : N ≤ w.heap.size) (a : Int) (hist : List (Ow × Int)) (hJ : J w a hist) (hS : ∀ k, S k → N ≤ k ∧ k < w.heap.size) (h0 : 0 ≤ a) (h1 : a ≤ 800000) :
  Calls Tryz.prog 132 #[x.v, .int .i64 n, .func (.func f) #[] bs] w (ChP J S x n h w a hist) := by
 have hent := hD.ent
 have e40 := fun args w => call_enter (args := args) (w := w) Tryz.func140 (by kernel_rfl) (by kernel_rfl)
 have e41 := fun args w => call_enter (args := args) (w := w) Tryz.func141 (by kernel_rfl) (by kernel_rfl)
 obtain ⟨hsz, ⟨s, hs⟩, hd1, hd4⟩ := Cfg.mayB_chn hm hh
 obtain ⟨D, hDd⟩ : ∃ D, endsL false n x.ps x.ps.length = D := ⟨_, rfl⟩
 rw [hDd] at hd1 hd4
 obtain ⟨b1, b2⟩ := Chn.plc_bd hsz
 have hst : 3 ≤ h.stg ∧ h.stg ≤ 137 := by unfold Chn.stg; omega
 have hpt : 4 ≤ h.prt ∧ h.prt ≤ 139 := by unfold Chn.prt; split <;> omega
 have hnl : (n : Int) < x.hs.length := by have := (List.getElem?_eq_some_iff.1 hh).1; omega
 have hcc : (x.hs.length : Int) ≤ x.hc ∧ (x.hc : Int) ≤ 9223372036854775807 := by have := hi.hlen; unfold maxLen at this; omega
 have HC60 : Hid (∀ w, x.In w N → N ≤ w.heap.size → Calls Tryz.prog 139 #[x.v, .int .i64 n] w (EndsP w n x.ps)) := fun w hi hN => ends_any x n w N hi hN (Cfg.mayB_ends hm)
 have HST : Hid (∀ w, Calls Tryz.prog 140 #[h.v] w fun e w' => e = .returned (.int .i64 h.stg) ∧ KF w w') := stage_any h hsz
 have HPT : Hid (∀ w, Calls Tryz.prog 141 #[h.v] w fun e w' => e = .returned (.int .i64 h.prt) ∧ KF w w') := port_any h hsz
 obtain ⟨g0, o0, ha, hc⟩ := hi.chn hh
 obtain ⟨W0, hW0⟩ : ∃ W0, W0 = (x.laid w).alloc (.cells #[.int .i64 0, .int .i64 0, .int .i64 0, .int .i64 0, .slice none 0 0] 107) := ⟨_, rfl⟩
 obtain ⟨C, hC⟩ : ∃ C, C = w.heap.size := ⟨_, rfl⟩
 obtain ⟨W1, hW1⟩ : ∃ W1, W1 = W0.alloc (.cells #[.int .i64 h.kind, .int .i64 h.words, .int .i64 h.depth] 141) := ⟨_, rfl⟩
 have k0 : KF w W0 := by rw [hW0]; exact ((Keeps.refl _ _).alloc _).alloc _
 have hs0 : W0.heap.size = C + 2 := by rw [hW0, hC]; simp [Cfg.laid]
 have HI1 : Hid (ChI w x h C N S W1 ∧ J W1 a hist) := by
  have k1 : KF w W1 := by rw [hW1]; exact k0.alloc _
  have hB0 : Blk W0 C x.vs 26 := by rw [hW0, hC]; exact (Blk.new w _ _).alloc _
  have hB1 : Blk W0 (C + 1) [.int .i64 0, .int .i64 0, .int .i64 0, .int .i64 0, .slice none 0 0] 107 := by
   rw [hW0, hC]
   have := Blk.new (x.laid w) #[.int .i64 0, .int .i64 0, .int .i64 0, .int .i64 0, .slice none 0 0] 107
   simpa [Cfg.laid] using this
  have hB2 : Blk W1 (C + 2) h.vs 141 := by rw [hW1, ← hs0]; exact Blk.new W0 _ _
  refine ⟨⟨by rw [hW1]; exact hB0.alloc _, by rw [hW1]; exact hB1.alloc _, hB2, k1.mono fun _ _ h => h.elim, hi.keeps hN k1, hC, by omega, hS, by rw [hW1]; simp; omega⟩, hD.kept hJ k1 fun _ _ h => h⟩
 have c6 : W0.cell? ⟨C, 6, none⟩ = some (.slice (some ⟨g0, o0, none⟩) x.hs.length x.hc) := by
  rw [← ha, hW0, hC]
  exact ((Blk.new w _ _).alloc _).cell rfl
 have hc0 := fun i v hv => World.cell?_of_block (w := w) (a := ⟨g0, o0 + n * 3 + i, none⟩) (k0.block g0 (World.block_lt_of_cell? w _ (hc 0 _ rfl)) fun h => h) |>.trans (hc i v hv)
 have q0 := hc0 0 _ rfl
 rw [Nat.add_zero] at q0
 have q1 := hc0 1 _ rfl
 have q2 := hc0 2 _ rfl
 have HD : Hid (Dl f bs S J) := hD
 have HE : Hid (endsL true n x.ps x.ps.length = [s] ∧ endsL false n x.ps x.ps.length = D ∧ chanH n h D = [(⟨6, n, 0⟩, 2), (⟨7, n, 0⟩, h.stg)] ++ destH D h.prt D.length) := ⟨hs, hDd, rfl⟩
 unfold Cfg.laid at hW0
 clear hD hJ hS hi hN hm hh hsz hc hc0 k0 hs hDd b1 b2
 rw [ha] at hW0
 go_enter Tryz.func132, Tryz.ntmps132
 go_upto_region 1 with fail
 rw [← hW0, ← hC]
 clear hW0 hC
 go_upto_region 2 with fail
 rw [← hW1]
 clear hs0 hW1 c6 q0 q1 q2
 have s0 := HI1.out.1.shp.cell (i := 0) rfl
 have s1 := HI1.out.1.shp.cell (i := 1) rfl
 have s2 := HI1.out.1.shp.cell (i := 2) rfl
 have b0 := HI1.out.1.cfg.cell (i := 0) rfl
 have b1 := HI1.out.1.cfg.cell (i := 1) rfl
 have b2 := HI1.out.1.cfg.cell (i := 2) rfl
 have b3 := HI1.out.1.cfg.cell (i := 3) rfl
 have b4 := HI1.out.1.cfg.cell (i := 4) rfl
 have b5 := HI1.out.1.cfg.cell (i := 5) rfl
 have b6 := HI1.out.1.cfg.cell (i := 6) rfl
 rw [ha] at b6
 go_quiet (fail)
 obtain ⟨W2, hW2⟩ : ∃ W2, W2 = W1.drewN nq := ⟨_, rfl⟩
 have HI2 : Hid (ChI w x h C N S W2 ∧ J W2 a hist) := by
  rw [hW2]; exact ⟨HI1.out.1.grow ((Keeps.refl _ _).drewN _), HD.out.kept HI1.out.2 ((Keeps.refl (fun _ => False) _).drewN _) fun _ _ h => h⟩
 rw [← hW2]
 clear hW2 HI1 s0 s1 s2 b0 b1 b2 b3 b4 b5 b6
 have b0 := HI2.out.1.cfg.cell (i := 0) rfl
 have b1 := HI2.out.1.cfg.cell (i := 1) rfl
 have b2 := HI2.out.1.cfg.cell (i := 2) rfl
 have b3 := HI2.out.1.cfg.cell (i := 3) rfl
 have b4 := HI2.out.1.cfg.cell (i := 4) rfl
 have b5 := HI2.out.1.cfg.cell (i := 5) rfl
 have b6 := HI2.out.1.cfg.cell (i := 6) rfl
 rw [ha] at b6
 have HC : Hid (Calls Tryz.prog 139 #[.agg #[.int .i64 x.frames, .int .i64 x.major, .int .i64 x.kernel, .int .i64 x.room, .slice x.ca x.cs.length x.cc, .slice x.pa x.ps.length x.pc, .slice (some ⟨g0, o0, none⟩) x.hs.length x.hc], .int .i64 n] W2 (EndsP W2 n x.ps)) := by
  have hnn : N ≤ W2.heap.size := by have := HI2.out.1.n; have := HI2.out.1.sz; omega
  have := HC60.out W2 HI2.out.1.cin hnn
  unfold Cfg.v at this
  rw [ha] at this
  exact this
 go_wp2_with fail
 refine HC.out.mono ?_
 rintro e w3 ⟨u, v, rfl, hT, hK⟩
 rw [HE.out.1, HE.out.2.1] at hT
 obtain ⟨gu, cu, rfl, hu1, hu2, hu3, hu4⟩ := hT.ra.somes (by simp)
 obtain ⟨g, cap, rfl, hv1, hv2, hv3, hv4⟩ := hT.rb.somes (fun e => by rw [e] at hd1; simp at hd1)
 obtain ⟨d, hd⟩ : ∃ d, D.length = d := ⟨_, rfl⟩
 obtain ⟨lo, hlo⟩ : ∃ lo, W2.heap.size = lo := ⟨_, rfl⟩
 simp only [hd, hlo, List.length_cons, List.length_nil, Nat.zero_add] at hT hd1 hd4 hv1 hv3 hu1 hu3 ⊢
 have HI3 : Hid (ChI w x h C N S w3 ∧ J w3 a hist ∧ Two w3 lo (.slice (some ⟨gu, 0, none⟩) 1 cu) (.slice (some ⟨g, 0, none⟩) d cap) [s] D ∧ C + 3 ≤ lo) :=
  ⟨HI2.out.1.grow hK, HD.out.kept HI2.out.2 hK fun _ _ h => h, hT, by rw [← hlo]; exact HI2.out.1.sz⟩
 have hG : Hid (D.length = d ∧ lo ≤ g ∧ lo ≤ gu ∧ D ≠ []) := ⟨hd, hv3, hu3, fun e => by rw [e] at hd; simp at hd; omega⟩
 have hcap : (d : Int) ≤ cap ∧ (cap : Int) ≤ 9223372036854775807 ∧ (1 : Int) ≤ cu ∧ (cu : Int) ≤ 9223372036854775807 := by unfold maxLen at hv2 hu2; omega
 clear hK hT HC HC60 b0 b1 b2 b3 b4 b5 b6 hd hlo hv1 hv2 hv3 hv4 hu1 hu2 hu3 hu4
 have HC : Hid (Calls Tryz.prog f (#[Ow.v ⟨6, n, 0⟩, .int .i64 2] ++ bs) w3 fun e w' => e = .returned (.int .i64 a) ∧ J w' (a + 2) (hist ++ [(⟨6, n, 0⟩, 2)]) ∧ Keeps S w3 w') := HD.out.call w3 a hist ⟨6, n, 0⟩ 2 HI3.out.2.1 h0 (by omega) (by omega) (by omega)
 go_wp2_with fail
 refine HC.out.mono ?_
 rintro e w4 ⟨rfl, hj, hK⟩
 have noS : ∀ k, S k → k < C + 3 := fun k hk => by have := (HI3.out.1.low k hk).2; have := HI3.out.1.cw; omega
 have HS : Hid (∀ k, S k → k < C + 3) := noS
 have HI4 : Hid (ChI w x h C N S w4 ∧ J w4 (a + 2) (hist ++ [(⟨6, n, 0⟩, 2)]) ∧ Two w4 lo (.slice (some ⟨gu, 0, none⟩) 1 cu) (.slice (some ⟨g, 0, none⟩) d cap) [s] D) :=
  ⟨HI3.out.1.kept hK fun k hk => Or.inl hk, hj, HI3.out.2.2.1.kept hK fun k hk => by have := noS k hk; have := HI3.out.2.2.2; omega⟩
 have hlo3 := HI3.out.2.2.2
 have HLO : Hid (C + 3 ≤ lo) := hlo3
 clear hK hj HC noS HI3 hlo3
 go_wp2_with fail
 refine (HST.out w4).mono ?_
 rintro e w5 ⟨rfl, hK⟩
 have HI5 : Hid (ChI w x h C N S w5 ∧ J w5 (a + 2) (hist ++ [(⟨6, n, 0⟩, 2)]) ∧ Two w5 lo (.slice (some ⟨gu, 0, none⟩) 1 cu) (.slice (some ⟨g, 0, none⟩) d cap) [s] D) :=
  ⟨HI4.out.1.grow hK, HD.out.kept HI4.out.2.1 hK fun _ _ h => h, HI4.out.2.2.grow hK⟩
 clear hK HI4
 obtain ⟨SG, hSG⟩ : ∃ SG, h.stg = SG := ⟨_, rfl⟩
 obtain ⟨PT, hPT⟩ : ∃ PT, h.prt = PT := ⟨_, rfl⟩
 have HGP : Hid (h.stg = SG ∧ h.prt = PT) := ⟨hSG, hPT⟩
 rw [hSG] at hst ⊢
 rw [hPT] at HPT hpt
 clear hSG hPT
 have HC : Hid (Calls Tryz.prog f (#[Ow.v ⟨7, n, 0⟩, .int .i64 SG] ++ bs) w5 fun e w' => e = .returned (.int .i64 (a + 2)) ∧ J w' (a + 2 + SG) ((hist ++ [(⟨6, n, 0⟩, 2)]) ++ [(⟨7, n, 0⟩, SG)]) ∧ Keeps S w5 w') := HD.out.call w5 _ _ ⟨7, n, 0⟩ SG HI5.out.2.1 (by omega) (by omega) (by omega) (by omega)
 go_wp2_with fail
 refine HC.out.mono ?_
 rintro e w6 ⟨rfl, hj, hK⟩
 rw [List.append_assoc] at hj
 obtain ⟨A, hA⟩ : ∃ A, a + 2 + SG = A := ⟨_, rfl⟩
 obtain ⟨H2, hH2⟩ : ∃ H2, hist ++ ([(⟨6, n, 0⟩, 2)] ++ [(⟨7, n, 0⟩, SG)]) = H2 := ⟨_, rfl⟩
 rw [hA, hH2] at hj
 have HA : Hid (a + 2 + SG = A ∧ hist ++ ([(⟨6, n, 0⟩, 2)] ++ [(⟨7, n, 0⟩, SG)]) = H2) := ⟨hA, hH2⟩
 have hAb : 0 ≤ A ∧ A ≤ 810000 := by omega
 have HI6 : Hid (ChI w x h C N S w6 ∧ J w6 A H2 ∧ Two w6 lo (.slice (some ⟨gu, 0, none⟩) 1 cu) (.slice (some ⟨g, 0, none⟩) d cap) [s] D) :=
  ⟨HI5.out.1.kept hK fun k hk => Or.inl hk, hj, HI5.out.2.2.kept hK fun k hk => by have := HS.out k hk; have := HLO.out; omega⟩
 clear hK hj HC HI5 hA hH2
 go_wp2
 go_loopw [43] (fun i wr => ∃ j : Nat, j ≤ d ∧ i = .int .i64 j ∧ ChI w x h C N S wr ∧ J wr (A + j * PT) (H2 ++ destH D PT j) ∧ Two wr lo (.slice (some ⟨gu, 0, none⟩) 1 cu) (.slice (some ⟨g, 0, none⟩) d cap) [s] (placed D A PT j)) (fun i _ => d - (intOf i).toNat)
 case atStart => exact ⟨0, by omega, rfl, HI6.out.1, by simpa [destH] using HI6.out.2.1, by rw [placed_zero]; exact HI6.out.2.2⟩
 case round =>
  obtain ⟨j, hj, rfl, hI, hJ, hT⟩ := hrel
  by_cases hlt : j < d
  ·
   obtain ⟨y, hy⟩ : ∃ y, D[j]? = some y := ⟨_, List.getElem?_eq_getElem (by have := hG.out.1; omega)⟩
   have hpy := placed_at (b := A) (k := PT) hy
   have y0 := hT.rb.cellAt (i := 0) hpy rfl
   have y1 := hT.rb.cellAt (i := 1) hpy rfl
   have y2 := hT.rb.cellAt (i := 2) hpy rfl
   simp only [eDst, Nat.add_zero] at y0 y1 y2
   obtain ⟨W7, hW7⟩ : ∃ W7, W7 = wr.alloc (.cells #[.int .i64 y.p, .int .i64 y.q, .int .i64 y.pos] 118) := ⟨_, rfl⟩
   obtain ⟨E, hE⟩ : ∃ E, E = wr.heap.size := ⟨_, rfl⟩
   have hB : Blk W7 E y.vs 118 := by rw [hW7, hE]; exact Blk.new _ _ _
   have k7 : KF wr W7 := by rw [hW7]; exact (Keeps.refl _ _).alloc _
   have HK : Hid (ChI w x h C N S W7 ∧ J W7 (A + j * PT) (H2 ++ destH D PT j) ∧ Two W7 lo (.slice (some ⟨gu, 0, none⟩) 1 cu) (.slice (some ⟨g, 0, none⟩) d cap) [s] (placed D A PT j) ∧ D[j]? = some y ∧ (placed D A PT j)[j]? = some y ∧ C + 3 ≤ E ∧ Blk W7 E y.vs 118) :=
    ⟨hI.grow k7, HD.out.kept hJ k7 fun _ _ h => h, hT.grow k7, hy, hpy, by rw [hE]; exact hI.sz, hB⟩
   have HNE : Hid (¬ E = g) := fun e => by have := hT.rb.lt g rfl; omega
   have d0 := hB.cell (i := 0) rfl
   have d1 := hB.cell (i := 1) rfl
   clear hI hJ hT hy hpy hB k7
   go_upto_region 9 with fail
   rw [← hW7, ← hE]
   clear hW7 hE y0 y1 y2
   have hjP : 0 ≤ (j : Int) * PT ∧ (j : Int) * PT ≤ 1000 := by
    have h3 : j = 0 ∨ j = 1 ∨ j = 2 ∨ j = 3 := by omega
    rcases h3 with h3 | h3 | h3 | h3 <;> subst h3 <;> omega
   have HCN : Hid (∀ w', J w' (A + j * PT) (H2 ++ destH D PT j) → Calls Tryz.prog f (#[Ow.v ⟨8, y.p, y.q⟩, .int .i64 PT] ++ bs) w' fun e w'' => e = .returned (.int .i64 (A + j * PT)) ∧ J w'' (A + j * PT + PT) ((H2 ++ destH D PT j) ++ [(⟨8, y.p, y.q⟩, PT)]) ∧ Keeps S w' w'') :=
    fun w' hj => HD.out.call w' _ _ ⟨8, y.p, y.q⟩ PT hj (by omega) (by omega) (by omega) (by omega)
   clear hjP
   refine wp_region_held_drew (S := (fun w' => w'.cell? ⟨E, 0, none⟩ = some (.int .i64 y.p) ∧ w'.cell? ⟨E, 1, none⟩ = some (.int .i64 y.q))) Tryz.mixed ⟨d0, d1⟩ (fun hHeld => ?_)
   simp only [t1, t2, List.length_nil, Nat.reduceAdd, t4, Array.replicate_zero, t6, List.append_toArray, List.nil_append, t8]
   refine tk 0 (.slice (some ⟨g, 0, none⟩) d cap) hHeld ?_
   refine tk 1 (.int .i64 j) hHeld ?_
   refine tk 2 (.func (.func f) #[] bs) hHeld ?_
   refine tk 3 (.pointer (some ⟨E, 0, none⟩)) hHeld ?_
   refine tk 4 (.int .i64 y.p) hHeld ?_
   refine tk 5 (.pointer (some ⟨E, 1, none⟩)) hHeld ?_
   refine tk 6 (.int .i64 y.q) hHeld ?_
   refine tk 7 (.agg #[.int .i64 8, .int .i64 y.p, .int .i64 y.q]) hHeld ?_
   refine tk 8 (.func (.func 141) #[.agg #[.int .i64 h.kind, .int .i64 h.words, .int .i64 h.depth]] #[]) hHeld ?_
   simp only [Act.put, s1, s2, s3]
   refine rd 9 fun K hK => ?_
   go_simp
   refine (HPT.out _).mono ?_
   rintro r w8 ⟨rfl, hK8⟩
   have k8 : KF W7 w8 := ((Keeps.refl _ _).drew).trans hK8 fun _ _ h => h
   have HK8 : Hid (ChI w x h C N S w8 ∧ J w8 (A + j * PT) (H2 ++ destH D PT j) ∧ Two w8 lo (.slice (some ⟨gu, 0, none⟩) 1 cu) (.slice (some ⟨g, 0, none⟩) d cap) [s] (placed D A PT j) ∧ Blk w8 E y.vs 118) :=
    ⟨HK.out.1.grow k8, HD.out.kept HK.out.2.1 k8 fun _ _ h => h, HK.out.2.2.1.grow k8, HK.out.2.2.2.2.2.2.kept k8 fun h => h⟩
   have hS8 : w8.cell? ⟨E, 0, none⟩ = some (.int .i64 y.p) ∧ w8.cell? ⟨E, 1, none⟩ = some (.int .i64 y.q) := ⟨HK8.out.2.2.2.cell rfl, HK8.out.2.2.2.cell rfl⟩
   clear hK8 k8
   refine hK.out _ _ hS8 (fun hHeld => ?_)
   simp only [Act.put, s1, s2, s3]
   refine rd 10 fun K hK => ?_
   go_simp
   refine (HCN.out w8 HK8.out.2.1).mono ?_
   rintro r w9 ⟨rfl, hj9, hK9⟩
   have HK9 : Hid (ChI w x h C N S w9 ∧ J w9 (A + j * PT + PT) ((H2 ++ destH D PT j) ++ [(⟨8, y.p, y.q⟩, PT)]) ∧ Two w9 lo (.slice (some ⟨gu, 0, none⟩) 1 cu) (.slice (some ⟨g, 0, none⟩) d cap) [s] (placed D A PT j) ∧ Blk w9 E y.vs 118) :=
    ⟨HK8.out.1.kept hK9 fun k hk => Or.inl hk, hj9, HK8.out.2.2.1.kept hK9 fun k hk => by have := HS.out k hk; have := HLO.out; omega, HK8.out.2.2.2.kept hK9 fun hk => by have := HS.out _ hk; have := HK.out.2.2.2.2.2.1; omega⟩
   have hS9 : w9.cell? ⟨E, 0, none⟩ = some (.int .i64 y.p) ∧ w9.cell? ⟨E, 1, none⟩ = some (.int .i64 y.q) := ⟨HK9.out.2.2.2.cell rfl, HK9.out.2.2.2.cell rfl⟩
   clear hK9 hj9
   refine hK.out _ _ hS9 (fun hHeld => ?_)
   simp only [Act.put, s1, s2, s3]
   refine tk 11 (.pointer (some ⟨g, j * 3, none⟩)) hHeld ?_
   refine tk 12 (.pointer (some ⟨g, j * 3 + 2, none⟩)) hHeld ?_
   simp only [Act.put, s1, s2, s3]
   have z2 := HK9.out.2.2.1.rb.cellAt (i := 2) HK.out.2.2.2.2.1 rfl
   have zf := HK9.out.2.2.1.rb.frozenAt (j * 3 + 2)
   simp only [eDst] at z2
   refine rd 13 fun K hK => ?_
   go_simp
   obtain ⟨hT10, hK10⟩ := HK9.out.2.2.1.set3 (by rw [placed_length]; exact hG.out.1.symm) HK.out.2.2.2.2.1 (A + j * PT)
   obtain ⟨W10, hW10⟩ : ∃ W10, W10 = w9.setCell ⟨g, j * 3 + 2, none⟩ (.int .i64 (A + j * PT)) := ⟨_, rfl⟩
   rw [← hW10] at hT10 hK10
   have hglo := hG.out.2.1
   have hS10 : W10.cell? ⟨E, 0, none⟩ = some (.int .i64 y.p) ∧ W10.cell? ⟨E, 1, none⟩ = some (.int .i64 y.q) := by
    have hne : ¬ E = g := HNE.out
    exact ⟨(HK9.out.2.2.2.kept hK10 hne).cell rfl, (HK9.out.2.2.2.kept hK10 hne).cell rfl⟩
   have HN : Hid (ChI w x h C N S W10 ∧ J W10 (A + ((j + 1 : Nat) : Int) * PT) (H2 ++ destH D PT (j + 1)) ∧ Two W10 lo (.slice (some ⟨gu, 0, none⟩) 1 cu) (.slice (some ⟨g, 0, none⟩) d cap) [s] (placed D A PT (j + 1))) := by
    refine ⟨HK9.out.1.kept hK10 fun k hk => Or.inr (by have := HLO.out; omega), ?_, ?_⟩
    ·
     have h5 := HD.out.kept HK9.out.2.1 hK10 fun k hk e => by have := HS.out k hk; have := HLO.out; omega
     rw [destH_succ HK.out.2.2.2.1, ← List.append_assoc, show A + ((j + 1 : Nat) : Int) * PT = A + (j : Int) * PT + PT by rw [Int.natCast_add, Int.add_mul]; omega]
     exact h5
    ·
     rw [placed_succ HK.out.2.2.2.1]; exact hT10
   clear hT10 hK10 z2 zf
   rw [← hW10]
   refine hK.out _ _ hS10 (fun hHeld => ?_)
   simp only [Act.put, s1, s2, s3]
   refine wpAnyH_done (by kernel_rfl) ?_ _
   clear hW10 hS8 hS9 hS10 hHeld d0 d1
   go_wp2
   go_roundw
   case rel => exact ⟨j + 1, by omega, by go_num, HN.out.1, HN.out.2.1, HN.out.2.2⟩
   case measure => simp [intOf]; omega
  ·
   obtain rfl : d = j := by omega
   have HF : Hid (ChI w x h C N S wr ∧ J wr (A + d * PT) (H2 ++ destH D PT d) ∧ Two wr lo (.slice (some ⟨gu, 0, none⟩) 1 cu) (.slice (some ⟨g, 0, none⟩) d cap) [s] (placed D A PT d)) := ⟨hI, hJ, hT⟩
   have u0 := hT.ra.cellAt (j := 0) (i := 0) rfl rfl
   have u1 := hT.ra.cellAt (j := 0) (i := 1) rfl rfl
   simp only [eDst, Nat.zero_mul, Nat.zero_add] at u0 u1
   have c0 := hI.res.cell (i := 0) rfl
   have c1 := hI.res.cell (i := 1) rfl
   have c2 := hI.res.cell (i := 2) rfl
   have c3 := hI.res.cell (i := 3) rfl
   have c4 := hI.res.cell (i := 4) rfl
   have f0 := hI.res.frozen 0
   have f1 := hI.res.frozen 1
   have f2 := hI.res.frozen 2
   have f3 := hI.res.frozen 3
   have f4 := hI.res.frozen 4
   clear hI hJ hT HI6 c0 c1 c2 c3 c4 f0 f1 f2 f3 f4
   go_wp2
   refine wp_region_held_drew (S := (fun w' => w'.cell? ⟨gu, 0, none⟩ = some (.int .i64 s.p) ∧ w'.cell? ⟨gu, 1, none⟩ = some (.int .i64 s.q))) Tryz.mixed ⟨u0, u1⟩ (fun hHeld => ?_)
   simp only [t1, t2, List.length_nil, Nat.reduceAdd, t4, Array.replicate_zero, t6, List.append_toArray, List.nil_append, t8]
   refine tk 0 (.int .i64 a) hHeld ?_
   refine tk 1 (.int .i64 (a + 2)) hHeld ?_
   refine tk 2 (.slice (some ⟨gu, 0, none⟩) 1 cu) hHeld ?_
   refine tk 3 (.pointer (some ⟨gu, 0, none⟩)) hHeld ?_
   refine tk 4 (.pointer (some ⟨gu, 0, none⟩)) hHeld ?_
   refine tk 5 (.int .i64 s.p) hHeld ?_
   refine tk 6 (.slice (some ⟨gu, 0, none⟩) 1 cu) hHeld ?_
   refine tk 7 (.pointer (some ⟨gu, 0, none⟩)) hHeld ?_
   refine tk 8 (.pointer (some ⟨gu, 1, none⟩)) hHeld ?_
   refine tk 9 (.int .i64 s.q) hHeld ?_
   refine tk 10 (.slice (some ⟨g, 0, none⟩) d cap) hHeld ?_
   refine tk 11 (.agg #[.int .i64 a, .int .i64 (a + 2), .int .i64 s.p, .int .i64 s.q, .slice (some ⟨g, 0, none⟩) d cap]) hHeld ?_
   simp only [Act.put, s1, s2, s3]
   obtain ⟨wd, hwd⟩ : ∃ wd, wd = wr.drew := ⟨_, rfl⟩
   have kwd : KF wr wd := by rw [hwd]; exact (Keeps.refl _ _).drew
   rw [← hwd]
   have hres : Blk wd (C + 1) [.int .i64 0, .int .i64 0, .int .i64 0, .int .i64 0, .slice none 0 0] 107 := HF.out.1.res.kept kwd fun h => h
   have c0 := hres.cell (i := 0) rfl
   have c1 := hres.cell (i := 1) rfl
   have c2 := hres.cell (i := 2) rfl
   have c3 := hres.cell (i := 3) rfl
   have c4 := hres.cell (i := 4) rfl
   have f0 := hres.frozen 0
   have f1 := hres.frozen 1
   have f2 := hres.frozen 2
   have f3 := hres.frozen 3
   have f4 := hres.frozen 4
   refine rd 12 fun K hK => ?_
   refine wp_store_row 107 _ _ rfl (C + 1) #[.int .i64 a, .int .i64 (a + 2), .int .i64 s.p, .int .i64 s.q, .slice (some ⟨g, 0, none⟩) d cap] (by rfl) (by rfl) 107 _ hres Tryz.size107 rfl (all59 ..) ?_
   obtain ⟨W4, hW4⟩ : ∃ W4, W4 = wd.setRow (C + 1) #[.int .i64 a, .int .i64 (a + 2), .int .i64 s.p, .int .i64 s.q, .slice (some ⟨g, 0, none⟩) d cap] := ⟨_, rfl⟩
   have hB : Blk W4 (C + 1) [.int .i64 a, .int .i64 (a + 2), .int .i64 s.p, .int .i64 s.q, .slice (some ⟨g, 0, none⟩) d cap] 107 := by rw [hW4]; exact hres.setRow _
   have hK4 : Keeps (fun k => k = C + 1) wd W4 := by rw [hW4]; exact (Keeps.refl _ _).setRow _ _ fun _ => rfl
   have k4 : Keeps (fun k => k = C + 1) wr W4 := (kwd.mono fun _ _ h => h.elim).trans hK4 fun _ _ h => h
   have hglo := hG.out.2
   have hlo := HLO.out
   have hcw := HF.out.1.cw
   have hT4 : Two W4 lo (.slice (some ⟨gu, 0, none⟩) 1 cu) (.slice (some ⟨g, 0, none⟩) d cap) [s] (placed D A PT d) := HF.out.2.2.kept k4 fun k hk => by omega
   have hS4 : W4.cell? ⟨gu, 0, none⟩ = some (.int .i64 s.p) ∧ W4.cell? ⟨gu, 1, none⟩ = some (.int .i64 s.q) := by
    have v0 := hT4.ra.cellAt (j := 0) (i := 0) rfl rfl
    have v1 := hT4.ra.cellAt (j := 0) (i := 1) rfl rfl
    simp only [eDst, Nat.zero_mul, Nat.zero_add] at v0 v1
    exact ⟨v0, v1⟩
   have HZ : Hid (Blk W4 (C + 1) [.int .i64 a, .int .i64 (a + 2), .int .i64 s.p, .int .i64 s.q, .slice (some ⟨g, 0, none⟩) d cap] 107 ∧ Row eDst W4 w.heap.size (.slice (some ⟨g, 0, none⟩) d cap) (placed D A PT d) ∧ J W4 (A + d * PT) (H2 ++ destH D PT d) ∧ Keeps S w W4) :=
    ⟨hB, hT4.rb.lower' (by omega), HD.out.kept HF.out.2.1 k4 fun k hk e => by have := (HF.out.1.low k hk).2; omega, HF.out.1.kp.trans k4 fun k hk e => by omega⟩
   clear hB hK4 hT4 hglo hlo hcw k4
   rw [← hW4]
   refine hK.out _ _ hS4 (fun hHeld => ?_)
   simp only [Act.put, s1, s2, s3]
   refine wpAnyH_done (by kernel_rfl) ?_ _
   clear hW4 hS4 hHeld u0 u1 c0 c1 c2 c3 c4 f0 f1 f2 f3 f4 hres hwd kwd
   go_wp2
   (try simp only [Exit.inBlock, Exit.then])
   refine bodyPost_ret (results_cell_row rfl _ _ (C + 1) 107 _ (0, 0) _ rfl HZ.out.1 Tryz.underlying107 rfl (by kernel_rfl)) rfl ?_
   refine ⟨s, _, HE.out.1, rfl, ?_, ?_, HZ.out.2.2.2⟩
   ·
    rw [HE.out.2.1, HGP.out.1, HGP.out.2, HA.out.1, hG.out.1]; exact HZ.out.2.1
   ·
    rw [HE.out.2.1, HE.out.2.2, HGP.out.1, HGP.out.2, HA.out.1, hG.out.1]
    have := HZ.out.2.2.1
    rw [← HA.out.2, List.append_assoc] at this
    exact this
end Go.Proofs.YtlnmlbkeemahcaaGreat
