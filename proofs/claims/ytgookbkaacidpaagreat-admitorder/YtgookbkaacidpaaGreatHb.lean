import Derived.Test.YtgookbkaacidpaaGreatGr
import Derived.Test.YtgookbkaacidpaaGreatCv
namespace Go.Proofs.YtgookbkaacidpaaGreat
open Go.RowKit
set_option linter.unusedVariables false
set_option linter.unusedSimpArgs false
set_option maxRecDepth 6000

/-- A row of numbers as a function. -/
abbrev nums (F : Nat → Int) (n : Nat) : List Value := (List.range n).map fun i => .int .i64 (F i)
theorem range_set {α : Type} (f : Nat → α) (n j : Nat) (v : α) : ((List.range n).map f).set j v = (List.range n).map (upd f j v) := by
  apply List.ext_getElem?
  intro i
  rw [List.getElem?_set, List.getElem?_map, List.getElem?_map]
  by_cases hi : i < n
  · rw [List.getElem?_range hi]
    by_cases e : j = i
    · subst e
      rw [if_pos rfl, if_pos (by simpa using hi)]
      simp [upd]
    · rw [if_neg e]
      simp [upd, Ne.symm e]
  · rw [List.getElem?_eq_none (l := List.range n) (by simpa using hi)]
    split
    · rw [if_neg (by simpa using by omega)]
      simp
    · simp
theorem nums_set (F : Nat → Int) (n j : Nat) (v : Int) : (nums F n).set j (.int .i64 v) = nums (upd F j v) n := by
  unfold nums
  rw [range_set]
  congr 1
  funext i
  unfold upd
  split <;> rfl
theorem nums_get (F : Nat → Int) {n j : Nat} (h : j < n) : (nums F n)[j]? = some (.int .i64 (F j)) := by
  unfold nums
  rw [List.getElem?_map, List.getElem?_range h]
  rfl
theorem madeCells_i (n : Nat) : madeCells (Value.int .i64 0).cells (n * 1) = (nums (fun _ => 0) n).toArray := by
  apply Array.ext'
  apply List.ext_getElem?
  intro i
  by_cases hi : i < n
  · simp [madeCells, hi, Value.cells, Nat.mod_one]
  · simp [madeCells, hi]
theorem run_make63 (w : World) (n : Nat) (hn : n ≤ 1000) :
    (Instr.makeSlice 63 (.int .i64 n) (.int .i64 n)).run Tryz.prog w = .ok (.slice (some ⟨w.heap.size, 0, none⟩) n n) (w.alloc (.cells (nums (fun _ => 0) n).toArray 3)) := by
  obtain ⟨i0, hi, hz0, hz1, hz2⟩ := info_parts Tryz.info3
  have h := run_make (P := Tryz.prog) w 63 3 i0 _ Tryz.underlying63 hi hz0 .i64 .i64 n n (by omega) (by omega) (by rw [hz2]; omega) (by omega)
  rw [Int.toNat_natCast, hz1, madeCells_i] at h
  exact h

/-- Whose home is where: only where a core has a window of it. -/
def Hom (x : Cfg) (F : Nat → Int) (j : Nat) : Prop := ∀ p : Nat, F p = 0 ∨ ∃ k : Nat, k < j ∧ F p = k + 1 ∧ ∃ X, x.cs[k]? = some X ∧ ∃ y ∈ X.ws, y.p = p
structure TmI (w : World) (x : Cfg) (C M N j : Nat) (F : Nat → Int) (w' : World) : Prop where
  one : One w x C N w'
  row : Blk w' M (nums F x.ps.length) 3
  lo : w.heap.size ≤ M
  cm : C < M
  hom : Hom x F j
theorem TmI.kept {w : World} {x : Cfg} {C M N j : Nat} {F : Nat → Int} {w' w'' : World} (h : TmI w x C M N j F w') (k : Keeps (fun _ => False) w' w'') : TmI w x C M N j F w'' := ⟨h.one.kept k, h.row.kept k fun h => h, h.lo, h.cm, h.hom⟩
theorem Hom.mono {x : Cfg} {F : Nat → Int} {j j' : Nat} (h : Hom x F j) (hj : j ≤ j') : Hom x F j' := fun p => by
  rcases h p with h | ⟨k, hk, h⟩
  · exact .inl h
  · exact .inr ⟨k, by omega, h⟩
theorem Hom.set {x : Cfg} {F : Nat → Int} {j : Nat} (h : Hom x F (j + 1)) {X : Core} (hX : x.cs[j]? = some X) {y : Win} (hy : y ∈ X.ws) {q : Nat} (hq : y.p = q) : Hom x (upd F q (j + 1)) (j + 1) := fun p => by
  unfold upd
  by_cases e : p = q
  · rw [if_pos e]
    exact .inr ⟨j, by omega, rfl, X, hX, y, hy, by rw [hq, e]⟩
  · rw [if_neg e]
    exact h p
theorem Hom.here {x : Cfg} {F : Nat → Int} {j : Nat} (h : Hom x F (j + 1)) {X : Core} (g : GC x j X) {y : Win} (hy : y ∈ X.ws) {q : Nat} (hq : y.p = q) : F q = 0 ∨ F q = j + 1 := by
  rcases h q with h | ⟨k, hk, e, X', hX', y', hy', hp⟩
  · exact .inl h
  · by_cases ek : k = j
    · subst ek; exact .inr e
    · have := g.one y hy
      unfold hasW at this
      rw [if_neg (by omega)] at this
      exfalso
      rw [List.any_eq_false] at this
      refine this X' (mem_take_get.2 ⟨k, by omega, hX'⟩) ?_
      rw [List.any_eq_true]
      exact ⟨y', hy', by rw [hp, hq]; simp⟩

set_option maxHeartbeats 8000000 in
theorem timed_any (x : Cfg) (w : World) (N : Nat) (hi : x.In w N) (hN : N ≤ w.heap.size) (g : Gd x) :
    Calls Tryz.prog 9 #[x.v] w fun e w' => e = .returned (.bool true) ∧ Keeps (fun _ => False) w w' := by
  have HG : Hid (Gd x) := g
  have HO1 := One.mk' hi hN
  obtain ⟨W, hW⟩ : ∃ W, W = x.laid w := ⟨_, rfl⟩
  obtain ⟨C, hC⟩ : ∃ C, C = w.heap.size := ⟨_, rfl⟩
  rw [← hW, ← hC] at HO1
  obtain ⟨PL, hPL⟩ : ∃ PL, x.ps.length = PL := ⟨_, rfl⟩
  obtain ⟨L, hL⟩ : ∃ L, x.cs.length = L := ⟨_, rfl⟩
  have hPb : PL ≤ 8 := by have := g.ps; omega
  have hLb : 1 ≤ L ∧ L ≤ 4 := by have := g.cs; omega
  obtain ⟨M, hM⟩ : ∃ M, M = W.heap.size := ⟨_, rfl⟩
  obtain ⟨W1, hW1⟩ : ∃ W1, W1 = W.alloc (.cells (nums (fun _ => 0) PL).toArray 3) := ⟨_, rfl⟩
  have HM : Hid ((Instr.makeSlice 63 (.int .i64 PL) (.int .i64 PL)).run Tryz.prog W = .ok (.slice (some ⟨M, 0, none⟩) PL PL) W1) := by
    rw [hM, hW1]; exact run_make63 W PL (by omega)
  have HT : Hid (TmI w x C M N 0 (fun _ => 0) W1) := by
    have := HO1.keeps.size
    have := HO1.cfg.lt
    exact ⟨by rw [hW1]; exact HO1.kept ((Keeps.refl _ _).alloc _), by rw [hW1, hM, hPL]; exact Blk.new _ _ _, by omega, by omega, fun p => .inl rfl⟩
  have HPL : Hid (x.ps.length = PL) := hPL
  have HL : Hid (x.cs.length = L) := hL
  have c5 : W.cell? ⟨C, 5, none⟩ = some (.slice x.pa PL x.pc) := by have := HO1.cfg.cell (i := 5) rfl; rw [hPL] at this; exact this
  have hcc : (L : Int) ≤ x.cc ∧ (x.cc : Int) ≤ 9223372036854775807 := by have := hi.clen; rw [hL] at this; unfold maxLen at this; omega
  unfold Cfg.laid at hW
  clear hi hN HO1 g hPL hL hM hW1
  go_enter Tryz.func9, Tryz.ntmps9
  go_upto_region 1 with fail
  rw [← hW, ← hC]
  clear hW hC
  go_wp2_with (at_make; refine wpList_make_run rfl (.tmp 10) (.tmp 10) 63 rfl (.int .i64 PL) (.int .i64 PL) (.slice (some ⟨M, 0, none⟩) PL PL) W1 rfl rfl HM.out ?_; refine Hid.out ?_)
  refine Hid.mkq ?_
  clear c5 HM
  go_wp2
  go_loopw [4] (fun i wr => ∃ (j : Nat) (F : Nat → Int), j ≤ L ∧ i = .int .i64 j ∧ TmI w x C M N j F wr) (fun i _ => L - (intOf i).toNat)
  case atStart => exact ⟨0, _, by omega, rfl, HT.out⟩
  case round =>
    obtain ⟨j, F, hj, rfl, hI⟩ := hrel
    by_cases hlt : j < L
    · obtain ⟨X, hX⟩ : ∃ X, x.cs[j]? = some X := ⟨_, List.getElem?_eq_getElem (by have := HL.out; omega)⟩
      have HX : Hid (x.cs[j]? = some X) := hX
      have gc := HG.out.gc j X hX
      have HGC : Hid (GC x j X) := gc
      obtain ⟨XL, hXL⟩ : ∃ XL, X.ws.length = XL := ⟨_, rfl⟩
      have HXL : Hid (X.ws.length = XL) := hXL
      have hXb : XL ≤ 16 := by have := gc.len; omega
      have c4 : wr.cell? ⟨C, 4, none⟩ = some (.slice x.ca L x.cc) := by have := hI.one.cfg.cell (i := 4) rfl; rw [HL.out] at this; exact this
      have HI : Hid (TmI w x C M N (j + 1) F wr) := ⟨hI.one, hI.row, hI.lo, hI.cm, hI.hom.mono (by omega)⟩
      have hxc : (XL : Int) ≤ X.c ∧ (X.c : Int) ≤ 9223372036854775807 := by have := (hI.one.cin.cin X (List.mem_of_getElem? hX)).len; rw [hXL] at this; unfold maxLen at this; omega
      clear hI gc hX hXL
      go_wp2
      go_loopw [5, 6] (fun s i wr => ∃ (k : Nat) (F : Nat → Int), k ≤ XL ∧ i = .int .i64 k ∧ s = .int .i64 (cyc (X.ws.take k)) ∧ TmI w x C M N (j + 1) F wr) (fun _ i _ => XL - (intOf i).toNat)
      case atStart => exact ⟨0, F, by omega, rfl, rfl, HI.out⟩
      case round =>
        obtain ⟨k, F, hk, rfl, rfl, hI⟩ := hrel
        clear c4
        obtain ⟨g0, o0, e0, p0⟩ := hI.one.cin.core HX.out
        dsimp only [Core.v] at p0
        rw [HXL.out] at p0
        have c4 : wr.cell? ⟨C, 4, none⟩ = some (.slice (some ⟨g0, o0, none⟩) L x.cc) := by have := hI.one.cfg.cell (i := 4) rfl; rw [HL.out, e0] at this; exact this
        clear e0
        by_cases hlk : k < XL
        · obtain ⟨y, hy⟩ : ∃ y, X.ws[k]? = some y := ⟨_, List.getElem?_eq_getElem (by have := HXL.out; omega)⟩
          have hym := List.mem_of_getElem? hy
          have hXi := hI.one.cin.cin X (List.mem_of_getElem? HX.out)
          obtain ⟨g1, o1, e1, hg1⟩ := hXi.seg.at hy
          rw [e1] at p0
          have y0 := hg1 0 _ rfl
          rw [Nat.add_zero] at y0
          have y1 := hg1 1 _ rfl
          have y2 := hg1 2 _ rfl
          have b1 := HGC.out.par y hym
          have b2 := HGC.out.use y hym
          have b3 := HGC.out.slk y hym
          rw [HPL.out] at b1
          have hb := cyc_bd (ws := X.ws.take k) fun z hz => by
            have hz' := List.mem_of_mem_take hz
            have := HGC.out.use z hz'
            have := HGC.out.slk z hz'
            unfold Win.In2
            omega
          have hl : (X.ws.take k).length ≤ 16 := by rw [List.length_take]; omega
          obtain ⟨s, hs⟩ : ∃ s, cyc (X.ws.take k) = s := ⟨_, rfl⟩
          have HS1 : Hid (cyc (X.ws.take (k + 1)) = s + (y.u + y.s)) := by refine Hid.mkq ?_; rw [cyc_take hy, hs]
          rw [hs] at hb ⊢
          have q1 : IntKind.i64.wrap (y.u + y.s) = y.u + y.s := by rw [IntKind.wrap_i64]; omega
          have q2 : IntKind.i64.wrap (s + (y.u + y.s)) = s + (y.u + y.s) := by rw [IntKind.wrap_i64]; omega
          have t1 : decide (y.s < 82) = false := by rw [decide_eq_false_iff_not]; omega
          have t2 : decide (y.u < 1) = false := by rw [decide_eq_false_iff_not]; omega
          have t3 : decide ((PL : Int) ≤ y.p) = false := by rw [decide_eq_false_iff_not]; omega
          obtain ⟨W2, hW2⟩ : ∃ W2, W2 = wr.alloc (.cells #[.int .i64 y.p, .int .i64 y.u, .int .i64 y.s] 45) := ⟨_, rfl⟩
          obtain ⟨D, hD⟩ : ∃ D, D = wr.heap.size := ⟨_, rfl⟩
          have HI2 : Hid (TmI w x C M N (j + 1) F W2) := by rw [hW2]; exact hI.kept ((Keeps.refl _ _).alloc _)
          have hB2 : Blk W2 D [.int .i64 y.p, .int .i64 y.u, .int .i64 y.s] 45 := by rw [hW2, hD]; exact Blk.new _ _ _
          have d0 := hB2.cell (i := 0) rfl
          have d1 := hB2.cell (i := 1) rfl
          have d2 := hB2.cell (i := 2) rfl
          have c5 : W2.cell? ⟨C, 5, none⟩ = some (.slice x.pa PL x.pc) := by have := HI2.out.one.cfg.cell (i := 5) rfl; rw [HPL.out] at this; exact this
          have HY : Hid (y ∈ X.ws) := hym
          clear hI hXi e1 hg1 hy hym hs hl hb hB2
          go_upto_region 10 with fail
          rw [← hW2, ← hD]
          clear hW2 hD y0 y1 y2 p0 c4
          by_cases hneg : y.p < 0
          · have t4 : decide (y.p < 0) = true := by rw [decide_eq_true_eq]; exact hneg
            go_wp2
            go_roundw
            case rel => exact ⟨k + 1, F, by omega, by go_num, by rw [HS1.out], HI2.out⟩
            case measure => simp [intOf]; omega
          · have t4 : decide (y.p < 0) = false := by rw [decide_eq_false_iff_not]; exact hneg
            obtain ⟨q, hq⟩ : ∃ q : Nat, y.p = q := ⟨y.p.toNat, by omega⟩
            have hql : q < PL := by omega
            have hF := HI2.out.hom.here HGC.out HY.out hq
            have m0 : W2.cell? ⟨M, q, none⟩ = some (.int .i64 (F q)) := HI2.out.row.cell (nums_get F (by rw [HPL.out]; exact hql))
            have m1 := HI2.out.row.frozen q
            have HPUT : Hid (TmI w x C M N (j + 1) (upd F q (j + 1)) (W2.setCell ⟨M, q, none⟩ (.int .i64 ((j : Int) + 1)))) := by
              have k1 : Keeps (fun k => k = M) W2 (W2.setCell ⟨M, q, none⟩ (.int .i64 ((j : Int) + 1))) := (Keeps.refl _ _).setCell ⟨M, q, none⟩ _ fun _ => rfl
              have hlo := HI2.out.lo
              have hcm := HI2.out.cm
              have hn := HI2.out.one.n
              refine ⟨HI2.out.one.kept' k1 (by omega) (fun k hk => by omega) (fun k hk => by omega), ?_, hlo, hcm, HI2.out.hom.set HX.out HY.out hq⟩
              have := HI2.out.row.setCell q (.int .i64 ((j : Int) + 1))
              rw [nums_set] at this
              exact this
            rw [hq] at d0 t3 t4
            have qj : IntKind.i64.wrap ((j : Int) + 1) = (j : Int) + 1 := by rw [IntKind.wrap_i64]; omega
            obtain ⟨fq, hfq⟩ : ∃ fq, F q = fq := ⟨_, rfl⟩
            rw [hfq] at hF m0
            clear hneg hq b1 b2 b3 hfq
            rcases hF with hF | hF
            · subst hF
              go_wp2
              go_roundw
              case rel => exact ⟨k + 1, _, by omega, by go_num, by rw [HS1.out], HPUT.out⟩
              case measure => simp [intOf]; omega
            · subst hF
              have q5 : (((j : Int) + 1) == 0) = false := by simp; omega
              go_wp2
              go_roundw
              case rel => exact ⟨k + 1, _, by omega, by go_num, by rw [HS1.out], HPUT.out⟩
              case measure => simp [intOf]; omega
        · have hkL : k = XL := by omega
          have HI2 : Hid (TmI w x C M N (j + 1) F wr) := hI
          have hmj : cyc (X.ws.take k) = x.major := by rw [List.take_of_length_le (by rw [HXL.out]; omega)]; exact HGC.out.sum
          have c1 := hI.one.cfg.cell (i := 1) rfl
          rw [hmj]
          clear hI hmj
          go_wp2
          go_roundw
          case rel => exact ⟨j + 1, F, by omega, by go_num, HI2.out⟩
          case measure => simp [intOf]; omega
    · have hjL : j = L := by omega
      have c4 : wr.cell? ⟨C, 4, none⟩ = some (.slice x.ca L x.cc) := by have := hI.one.cfg.cell (i := 4) rfl; rw [HL.out] at this; exact this
      have HI : Hid (Keeps (fun _ => False) w wr) := hI.one.keeps
      have q6 : decide ((0 : Int) < L) = true := by rw [decide_eq_true_eq]; omega
      clear hI
      go_wp2
      go_ret
      have q7 : decide (0 < L) = true := by rw [decide_eq_true_eq]; omega
      rw [q7]
      exact ⟨rfl, HI.out⟩
end Go.Proofs.YtgookbkaacidpaaGreat
namespace Go.Proofs.YtgookbkaacidpaaGreat
open Go.RowKit
set_option linter.unusedVariables false
set_option linter.unusedSimpArgs false
set_option maxRecDepth 6000

/-- How many ports of this kind each channel has so far. -/
def cnt (b : Bool) (ps : List Par) (qs : List Prt) : Nat → Int := fun h => ((cntQ ⟨h, b⟩ ps + qs.countP (Prt.is ⟨h, b⟩) : Nat) : Int)
theorem cnt_next {b : Bool} {ps : List Par} {k : Nat} {X : Par} (h : ps[k]? = some X) : cnt b (ps.take k) X.ps = cnt b (ps.take (k + 1)) [] := by
  funext n
  unfold cnt
  rw [cntQ_take h]
  simp
theorem cnt_hit {b : Bool} {ps : List Par} {qs : List Prt} {j : Nat} {t : Prt} (h : qs[j]? = some t) {c : Nat} (hc : t.ch = c) (hb : t.src = b) : upd (cnt b ps (qs.take j)) c (cnt b ps (qs.take j) c + 1) = cnt b ps (qs.take (j + 1)) := by
  funext n
  unfold upd cnt
  rw [countP_take1 h]
  by_cases e : n = c
  · subst e
    have : Prt.is ⟨n, b⟩ t = true := by simp [Prt.is, hc, hb]
    rw [if_pos rfl, this]
    simp
    omega
  · have : Prt.is ⟨n, b⟩ t = false := by
      simp [Prt.is, hc]
      intro h1
      omega
    rw [if_neg e, this]
    simp
theorem cnt_miss {b : Bool} {ps : List Par} {qs : List Prt} {j : Nat} {t : Prt} (h : qs[j]? = some t) (hb : t.src ≠ b) : cnt b ps (qs.take j) = cnt b ps (qs.take (j + 1)) := by
  funext n
  unfold cnt
  rw [countP_take1 h]
  have : Prt.is ⟨n, b⟩ t = false := by simp [Prt.is, hb]
  rw [this]
  simp
theorem cnt_bd {b : Bool} {ps : List Par} {qs : List Prt} {n : Nat} (h1 : ps.length ≤ 8) (h2 : ∀ P ∈ ps, P.ps.length ≤ 1000) (h3 : qs.length ≤ 8) : 0 ≤ cnt b ps qs n ∧ cnt b ps qs n ≤ 100000 := by
  unfold cnt
  have a := cntQ_le (q := ⟨n, b⟩) h2
  have c := List.countP_le_length (l := qs) (p := Prt.is ⟨n, b⟩)
  omega
structure LdI (w : World) (x : Cfg) (C M1 M2 N : Nat) (ps : List Par) (qs : List Prt) (w' : World) : Prop where
  one : One w x C N w'
  r1 : Blk w' M1 (nums (cnt true ps qs) x.hs.length) 3
  r2 : Blk w' M2 (nums (cnt false ps qs) x.hs.length) 3
  lo : w.heap.size ≤ M1
  cm : C < M1 ∧ M1 < M2
theorem LdI.kept {w : World} {x : Cfg} {C M1 M2 N : Nat} {ps : List Par} {qs : List Prt} {w' w'' : World} (h : LdI w x C M1 M2 N ps qs w') (k : Keeps (fun _ => False) w' w'') : LdI w x C M1 M2 N ps qs w'' := ⟨h.one.kept k, h.r1.kept k fun h => h, h.r2.kept k fun h => h, h.lo, h.cm⟩

set_option maxHeartbeats 8000000 in
theorem led_any (x : Cfg) (w : World) (N : Nat) (hi : x.In w N) (hN : N ≤ w.heap.size) (g : Gd x) :
    Calls Tryz.prog 10 #[x.v] w fun e w' => e = .returned (.bool true) ∧ Keeps (fun _ => False) w w' := by
  have HG : Hid (Gd x) := g
  have HO1 := One.mk' hi hN
  obtain ⟨W, hW⟩ : ∃ W, W = x.laid w := ⟨_, rfl⟩
  obtain ⟨C, hC⟩ : ∃ C, C = w.heap.size := ⟨_, rfl⟩
  rw [← hW, ← hC] at HO1
  obtain ⟨PL, hPL⟩ : ∃ PL, x.ps.length = PL := ⟨_, rfl⟩
  obtain ⟨L, hL⟩ : ∃ L, x.hs.length = L := ⟨_, rfl⟩
  have hPb : PL ≤ 8 := by have := g.ps; omega
  have hLb : L ≤ 16 := by have := g.hs; omega
  obtain ⟨M1, hM1⟩ : ∃ M, M = W.heap.size := ⟨_, rfl⟩
  obtain ⟨W1, hW1⟩ : ∃ W1, W1 = W.alloc (.cells (nums (fun _ => 0) L).toArray 3) := ⟨_, rfl⟩
  obtain ⟨M2, hM2⟩ : ∃ M, M = W1.heap.size := ⟨_, rfl⟩
  obtain ⟨W2, hW2⟩ : ∃ W2, W2 = W1.alloc (.cells (nums (fun _ => 0) L).toArray 3) := ⟨_, rfl⟩
  have HM1 : Hid ((Instr.makeSlice 63 (.int .i64 L) (.int .i64 L)).run Tryz.prog W = .ok (.slice (some ⟨M1, 0, none⟩) L L) W1) := by
    rw [hM1, hW1]; exact run_make63 W L (by omega)
  have HM2 : Hid ((Instr.makeSlice 63 (.int .i64 L) (.int .i64 L)).run Tryz.prog W1 = .ok (.slice (some ⟨M2, 0, none⟩) L L) W2) := by
    rw [hM2, hW2]; exact run_make63 W1 L (by omega)
  have c0 : cnt true (x.ps.take 0) [] = fun _ => 0 := by funext n; simp [cnt, cntQ]
  have c0' : cnt false (x.ps.take 0) [] = fun _ => 0 := by funext n; simp [cnt, cntQ]
  have HT : Hid (LdI w x C M1 M2 N (x.ps.take 0) [] W2) := by
    have := HO1.keeps.size
    have := HO1.cfg.lt
    have hb1 : Blk W1 M1 (nums (fun _ => 0) L) 3 := by rw [hW1, hM1]; exact Blk.new _ _ _
    have := hb1.lt
    refine ⟨by rw [hW2, hW1]; exact HO1.kept (((Keeps.refl _ _).alloc _).alloc _), ?_, ?_, by omega, by omega, by omega⟩
    · rw [c0, hL, hW2]
      exact hb1.alloc _
    · rw [c0', hL, hW2, hM2]
      exact Blk.new _ _ _
  have HPL : Hid (x.ps.length = PL) := hPL
  have HL : Hid (x.hs.length = L) := hL
  have c6 : W.cell? ⟨C, 6, none⟩ = some (.slice x.ha L x.hc) := by have := HO1.cfg.cell (i := 6) rfl; rw [hL] at this; exact this
  have d6 : W1.cell? ⟨C, 6, none⟩ = some (.slice x.ha L x.hc) := by
    have h1 : One w x C N W1 := by rw [hW1]; exact HO1.kept ((Keeps.refl _ _).alloc _)
    have := h1.cfg.cell (i := 6) rfl; rw [hL] at this; exact this
  have hpc : (PL : Int) ≤ x.pc ∧ (x.pc : Int) ≤ 9223372036854775807 := by have := hi.plen; rw [hPL] at this; unfold maxLen at this; omega
  unfold Cfg.laid at hW
  clear hi hN HO1 g hPL hL hM1 hM2 hW1 hW2 c0 c0'
  go_enter Tryz.func10, Tryz.ntmps10
  go_upto_region 1 with fail
  rw [← hW, ← hC]
  clear hW hC
  go_wp2_with (at_make; refine wpList_make_run rfl (.tmp 11) (.tmp 11) 63 rfl (.int .i64 L) (.int .i64 L) (.slice (some ⟨M1, 0, none⟩) L L) W1 rfl rfl HM1.out ?_; refine Hid.out ?_)
  refine Hid.mkq ?_
  clear c6 HM1
  go_wp2_with (at_make; refine wpList_make_run rfl (.tmp 15) (.tmp 15) 63 rfl (.int .i64 L) (.int .i64 L) (.slice (some ⟨M2, 0, none⟩) L L) W2 rfl rfl HM2.out ?_; refine Hid.out ?_)
  refine Hid.mkq ?_
  clear d6 HM2
  go_wp2
  go_loopw [5] (fun i wr => ∃ j : Nat, j ≤ PL ∧ i = .int .i64 j ∧ LdI w x C M1 M2 N (x.ps.take j) [] wr) (fun i _ => PL - (intOf i).toNat)
  case atStart => exact ⟨0, by omega, rfl, HT.out⟩
  case round =>
    obtain ⟨j, hj, rfl, hI⟩ := hrel
    by_cases hlt : j < PL
    · obtain ⟨X, hX⟩ : ∃ X, x.ps[j]? = some X := ⟨_, List.getElem?_eq_getElem (by have := HPL.out; omega)⟩
      have HX : Hid (x.ps[j]? = some X) := hX
      have gp := HG.out.gp j X hX
      have HGP : Hid (GP x j X) := gp
      obtain ⟨XL, hXL⟩ : ∃ XL, X.ps.length = XL := ⟨_, rfl⟩
      have HXL : Hid (X.ps.length = XL) := hXL
      have hXb : XL ≤ 8 := by have := gp.plen; omega
      have c5 : wr.cell? ⟨C, 5, none⟩ = some (.slice x.pa PL x.pc) := by have := hI.one.cfg.cell (i := 5) rfl; rw [HPL.out] at this; exact this
      have HI : Hid (LdI w x C M1 M2 N (x.ps.take j) [] wr) := hI
      have hxc : (XL : Int) ≤ X.pc ∧ (X.pc : Int) ≤ 9223372036854775807 := by have := (hI.one.cin.pin X (List.mem_of_getElem? hX)).plen; rw [hXL] at this; unfold maxLen at this; omega
      clear hI gp hX hXL
      go_wp2
      go_loopw [6] (fun i wr => ∃ k : Nat, k ≤ XL ∧ i = .int .i64 k ∧ LdI w x C M1 M2 N (x.ps.take j) (X.ps.take k) wr) (fun i _ => XL - (intOf i).toNat)
      case atStart => exact ⟨0, by omega, rfl, HI.out⟩
      case round =>
        obtain ⟨k, hk, rfl, hI⟩ := hrel
        clear c5
        obtain ⟨g0, o0, e0, hc⟩ := hI.one.cin.par HX.out
        have p7 := hc 7 _ rfl
        rw [HXL.out] at p7
        have c5 : wr.cell? ⟨C, 5, none⟩ = some (.slice (some ⟨g0, o0, none⟩) PL x.pc) := by have := hI.one.cfg.cell (i := 5) rfl; rw [HPL.out, e0] at this; exact this
        clear e0 hc
        by_cases hlk : k < XL
        · obtain ⟨t, ht⟩ : ∃ t, X.ps[k]? = some t := ⟨_, List.getElem?_eq_getElem (by have := HXL.out; omega)⟩
          have htm := List.mem_of_getElem? ht
          have hXi := hI.one.cin.pin X (List.mem_of_getElem? HX.out)
          obtain ⟨g1, o1, e1, hg1⟩ := hXi.pseg.at ht
          rw [e1] at p7
          have y0 := hg1 0 _ rfl
          rw [Nat.add_zero] at y0
          have y1 := hg1 1 _ rfl
          have b1 := HGP.out.pch t htm
          rw [HL.out] at b1
          have HT1 : Hid (X.ps[k]? = some t) := ht
          obtain ⟨ch, src⟩ := t
          obtain ⟨q, hq⟩ : ∃ q : Nat, ch = q := ⟨ch.toNat, by dsimp only at b1; omega⟩
          subst hq
          dsimp only at b1 y0 y1
          have hql : q < L := by omega
          have t1 : decide ((q : Int) < 0) = false := by rw [decide_eq_false_iff_not]; omega
          have t2 : decide ((L : Int) ≤ q) = false := by rw [decide_eq_false_iff_not]; omega
          obtain ⟨W3, hW3⟩ : ∃ W3, W3 = wr.alloc (.cells #[.int .i64 (q : Int), .bool src] 51) := ⟨_, rfl⟩
          obtain ⟨D, hD⟩ : ∃ D, D = wr.heap.size := ⟨_, rfl⟩
          have HI2 : Hid (LdI w x C M1 M2 N (x.ps.take j) (X.ps.take k) W3) := by rw [hW3]; exact hI.kept ((Keeps.refl _ _).alloc _)
          have hB3 : Blk W3 D [.int .i64 (q : Int), .bool src] 51 := by rw [hW3, hD]; exact Blk.new _ _ _
          have d0 := hB3.cell (i := 0) rfl
          have d1 := hB3.cell (i := 1) rfl
          have c6 : W3.cell? ⟨C, 6, none⟩ = some (.slice x.ha L x.hc) := by have := HI2.out.one.cfg.cell (i := 6) rfl; rw [HL.out] at this; exact this
          have hbd : ∀ b : Bool, 0 ≤ cnt b (x.ps.take j) (X.ps.take k) q ∧ cnt b (x.ps.take j) (X.ps.take k) q ≤ 100000 := fun b => cnt_bd (by rw [List.length_take]; omega) (fun P hP => by
            obtain ⟨i, hi', hPi⟩ := mem_take_get.1 hP
            have := (HG.out.gp i P hPi).plen
            omega) (by rw [List.length_take]; omega)
          have hlo := HI2.out.lo
          have hcm := HI2.out.cm
          have hn := HI2.out.one.n
          cases src with
          | true =>
            have m0 : W3.cell? ⟨M1, q, none⟩ = some (.int .i64 (cnt true (x.ps.take j) (X.ps.take k) q)) := HI2.out.r1.cell (nums_get _ (by rw [HL.out]; exact hql))
            have m1 := HI2.out.r1.frozen q
            have hb := hbd true
            have HPUT : Hid (LdI w x C M1 M2 N (x.ps.take j) (X.ps.take (k + 1)) (W3.setCell ⟨M1, q, none⟩ (.int .i64 (cnt true (x.ps.take j) (X.ps.take k) q + 1)))) := by
              have k1 : Keeps (fun k => k = M1) W3 (W3.setCell ⟨M1, q, none⟩ (.int .i64 (cnt true (x.ps.take j) (X.ps.take k) q + 1))) := (Keeps.refl _ _).setCell ⟨M1, q, none⟩ _ fun _ => rfl
              refine ⟨HI2.out.one.kept' k1 (by omega) (fun k hk => by omega) (fun k hk => by omega), ?_, ?_, hlo, hcm⟩
              · have := HI2.out.r1.setCell q (.int .i64 (cnt true (x.ps.take j) (X.ps.take k) q + 1))
                rw [nums_set, cnt_hit HT1.out rfl rfl] at this
                exact this
              · have := HI2.out.r2.kept k1 (by omega)
                rw [cnt_miss (b := false) (ps := x.ps.take j) HT1.out (by simp)] at this
                exact this
            obtain ⟨V, hV⟩ : ∃ V, cnt true (x.ps.take j) (X.ps.take k) q = V := ⟨_, rfl⟩
            rw [hV] at m0 hb HPUT
            have qv : IntKind.i64.wrap (V + 1) = V + 1 := by rw [IntKind.wrap_i64]; omega
            clear hI hXi e1 hg1 ht htm hB3 hbd hV hlo hcm hn
            go_upto_region 10 with fail
            rw [← hW3, ← hD]
            clear hW3 hD y0 y1 p7 c5
            go_wp2
            go_roundw
            case rel => exact ⟨k + 1, by omega, by go_num, HPUT.out⟩
            case measure => simp [intOf]; omega
          | false =>
            have m0 : W3.cell? ⟨M2, q, none⟩ = some (.int .i64 (cnt false (x.ps.take j) (X.ps.take k) q)) := HI2.out.r2.cell (nums_get _ (by rw [HL.out]; exact hql))
            have m1 := HI2.out.r2.frozen q
            have hb := hbd false
            have HPUT : Hid (LdI w x C M1 M2 N (x.ps.take j) (X.ps.take (k + 1)) (W3.setCell ⟨M2, q, none⟩ (.int .i64 (cnt false (x.ps.take j) (X.ps.take k) q + 1)))) := by
              have k1 : Keeps (fun k => k = M2) W3 (W3.setCell ⟨M2, q, none⟩ (.int .i64 (cnt false (x.ps.take j) (X.ps.take k) q + 1))) := (Keeps.refl _ _).setCell ⟨M2, q, none⟩ _ fun _ => rfl
              refine ⟨HI2.out.one.kept' k1 (by omega) (fun k hk => by omega) (fun k hk => by omega), ?_, ?_, hlo, hcm⟩
              · have := HI2.out.r1.kept k1 (by omega)
                rw [cnt_miss (b := true) (ps := x.ps.take j) HT1.out (by simp)] at this
                exact this
              · have := HI2.out.r2.setCell q (.int .i64 (cnt false (x.ps.take j) (X.ps.take k) q + 1))
                rw [nums_set, cnt_hit HT1.out rfl rfl] at this
                exact this
            obtain ⟨V, hV⟩ : ∃ V, cnt false (x.ps.take j) (X.ps.take k) q = V := ⟨_, rfl⟩
            rw [hV] at m0 hb HPUT
            have qv : IntKind.i64.wrap (V + 1) = V + 1 := by rw [IntKind.wrap_i64]; omega
            clear hI hXi e1 hg1 ht htm hB3 hbd hV hlo hcm hn
            go_upto_region 10 with fail
            rw [← hW3, ← hD]
            clear hW3 hD y0 y1 p7 c5
            go_wp2
            go_roundw
            case rel => exact ⟨k + 1, by omega, by go_num, HPUT.out⟩
            case measure => simp [intOf]; omega
        · have hkL : k = XL := by omega
          have HI2 : Hid (LdI w x C M1 M2 N (x.ps.take (j + 1)) [] wr) := by
            rw [List.take_of_length_le (l := X.ps) (by rw [HXL.out]; omega)] at hI
            exact ⟨hI.one, by rw [← cnt_next HX.out]; exact hI.r1, by rw [← cnt_next HX.out]; exact hI.r2, hI.lo, hI.cm⟩
          clear hI
          go_wp2
          go_roundw
          case rel => exact ⟨j + 1, by omega, by go_num, HI2.out⟩
          case measure => simp [intOf]; omega
    · have hjL : j = PL := by omega
      have c5 : wr.cell? ⟨C, 5, none⟩ = some (.slice x.pa PL x.pc) := by have := hI.one.cfg.cell (i := 5) rfl; rw [HPL.out] at this; exact this
      rw [List.take_of_length_le (by rw [HPL.out]; omega)] at hI
      have HI : Hid (LdI w x C M1 M2 N x.ps [] wr) := hI
      clear hI
      obtain ⟨wz, hwz⟩ : ∃ wz, wz = wr := ⟨_, rfl⟩
      subst hwz
      go_wp2
      go_loopw [8] (fun i wr => ∃ k : Nat, k ≤ L ∧ i = .int .i64 k ∧ wr = wz) (fun i _ => L - (intOf i).toNat)
      case atStart => exact ⟨0, by omega, rfl, rfl⟩
      case round =>
        obtain ⟨k, hk, rfl, rfl⟩ := hrel
        clear c5
        have c6 : wr.cell? ⟨C, 6, none⟩ = some (.slice x.ha L x.hc) := by have := HI.out.one.cfg.cell (i := 6) rfl; rw [HL.out] at this; exact this
        by_cases hlk : k < L
        · obtain ⟨h, hh⟩ : ∃ h, x.hs[k]? = some h := ⟨_, List.getElem?_eq_getElem (by have := HL.out; omega)⟩
          have gh := HG.out.gh k h hh
          have m0 : wr.cell? ⟨M1, k, none⟩ = some (.int .i64 (cnt true x.ps [] k)) := HI.out.r1.cell (nums_get _ (by rw [HL.out]; exact hlk))
          have m1 : wr.cell? ⟨M2, k, none⟩ = some (.int .i64 (cnt false x.ps [] k)) := HI.out.r2.cell (nums_get _ (by rw [HL.out]; exact hlk))
          have e1 : cnt true x.ps [] k = 1 := by unfold cnt; rw [gh.src]; rfl
          obtain ⟨V, hV⟩ : ∃ V, cnt false x.ps [] k = V := ⟨_, rfl⟩
          have hb : 1 ≤ V ∧ V ≤ 4 := by
            have h1 := gh.dst
            have h2 : h.most ≤ 4 := by unfold Chn.most; split <;> omega
            have h3 : cnt false x.ps [] k = (cntQ ⟨k, false⟩ x.ps : Int) := by unfold cnt; simp
            omega
          rw [e1] at m0
          rw [hV] at m1
          have t1 : decide (V < 1) = false := by rw [decide_eq_false_iff_not]; omega
          have t2 : decide (4 < V) = false := by rw [decide_eq_false_iff_not]; omega
          clear gh hh e1 hV hb
          go_wp2
          go_roundw
          case rel => exact ⟨k + 1, by omega, by go_num, by trivial⟩
          case measure => simp [intOf]; omega
        · go_wp2
          go_ret
          exact ⟨rfl, HI.out.one.keeps⟩
end Go.Proofs.YtgookbkaacidpaaGreat
