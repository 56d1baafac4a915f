import Derived.Test.YtpccdhoaicabcaaPb
import Derived.Test.YtpccdhoaicabcaaH
namespace Go.Proofs.Ytpccdhoaicabcaa
open Go.RowKit Go.Shelf
attribute [local go_sem] Oper.semAt_some
set_option linter.unusedVariables false

theorem find_take_none {rs : List Rgn} {j p : Nat} {y : Rgn} (h : (rs.take j).find? (fun r => r.has p) = none) (hy : rs[j]? = some y) (hn : y.has p = false) : (rs.take (j + 1)).find? (fun r => r.has p) = none := by
  rw [List.take_add_one, hy, List.find?_append, h]
  simp [hn]
theorem find_take_hit {rs : List Rgn} {j p : Nat} {y : Rgn} (h : (rs.take j).find? (fun r => r.has p) = none) (hy : rs[j]? = some y) (hn : y.has p = true) : rs.find? (fun r => r.has p) = some y := by
  have hlt := (List.getElem?_eq_some_iff.1 hy).1
  have e : rs = rs.take j ++ rs.drop j := (List.take_append_drop j rs).symm
  rw [e, List.find?_append, h, List.drop_eq_getElem_cons hlt]
  have : rs[j] = y := by rw [List.getElem?_eq_getElem hlt] at hy; exact Option.some.inj hy
  simp [this, hn]

/-- What the finder tells of a page. -/
def leafO (p : Nat) : Option (Nat × Nat) → Lf
  | some x => ⟨p, x.1, x.2⟩
  | none => lf0

theorem load_ints {w : World} {b : Nat} {x y z : Int} (h : Blk w b [.int .i64 x, .int .i64 y, .int .i64 z] 51) : (loadVar 51 ⟨b, 0, none⟩).run Try.prog w = .ok (.agg #[.int .i64 x, .int .i64 y, .int .i64 z]) w :=
  run_loadVar_row w b 51 51 _ _ _ h Try.underlying51 (by simp) (by kernel_rfl)
theorem Blk.set3 {w : World} {b : Nat} {x y z : Value} {t : TypeId} (h : Blk w b [x, y, z] t) (x' y' z' : Value) : Blk (((w.setCell ⟨b, 0, none⟩ x').setCell ⟨b, 1, none⟩ y').setCell ⟨b, 2, none⟩ z') b [x', y', z'] t := by
  have := ((h.setCell 0 x').setCell 1 y').setCell 2 z'
  simpa using this
theorem Keeps.set3 {S : Nat → Prop} {w w' : World} (h : Keeps S w w') (b : Nat) (x y z : Value) (hb : b < w.heap.size → S b) : Keeps S w (((w'.setCell ⟨b, 0, none⟩ x).setCell ⟨b, 1, none⟩ y).setCell ⟨b, 2, none⟩ z) :=
  ((h.setCell _ _ hb).setCell _ _ hb).setCell _ _ hb

set_option maxHeartbeats 2000000 in
theorem stand_any (B : Nat) (a : Option Addr) (rs : List Rgn) (c p : Nat) (w : World) (hB : w.cell? ⟨B, 0, none⟩ = some (.slice a rs.length c)) (hl : rs.length ≤ c ∧ c ≤ maxLen) (hs : SegR w a rs) (ho : ∀ r, r ∈ rs → r.ok) (hp : p < 256) :
    Calls Try.prog 63 #[.int .i64 p, .pointer (some ⟨B, 0, none⟩)] w fun e w' => e = .returned (.tuple #[(leafO p (findL rs p)).v, .bool (findL rs p).isSome]) ∧ Keeps (fun _ => False) w w' := by
  obtain ⟨L, hL⟩ : ∃ L, L = rs.length := ⟨_, rfl⟩
  rw [← hL] at hB
  have hc2 : (L : Int) ≤ c := by omega
  have hc3 : (c : Int) ≤ 9223372036854775807 := by unfold maxLen at hl; omega
  obtain ⟨W, hW⟩ : ∃ W, W = w.alloc (.cells #[.int .i64 0, .int .i64 0, .int .i64 0] 51) := ⟨_, rfl⟩
  have hBl : Blk W w.heap.size lf0.vs 51 := by rw [hW]; exact Blk.new w _ 51
  have hKW : Keeps (fun _ => False) w W := by rw [hW]; exact (Keeps.refl _ w).alloc _
  have hlt := World.block_lt_of_cell? w _ hB
  have HS : Hid (SegR W a rs ∧ L = rs.length ∧ (∀ r, r ∈ rs → r.ok) ∧ Blk W w.heap.size lf0.vs 51 ∧ Keeps (fun _ => False) w W) := ⟨hs.grown hKW, hL, ho, hBl, hKW⟩
  have HW : Hid (W = _) := hW
  have hp' : (p : Int) < 256 := by omega
  clear hl hs hL hW hBl hKW ho
  go_enter Try.func63, Try.ntmps63
  go_wp2
  rw [← HW.out]
  go_loopw [10] (fun i wr => ∃ j : Nat, j ≤ L ∧ i = .int .i64 j ∧ (rs.take j).find? (fun r => r.has p) = none ∧ Keeps (fun _ => False) W wr) (fun i _ => L - (intOf i).toNat)
  case atStart => exact ⟨0, by omega, rfl, by simp, Keeps.refl _ _⟩
  case round =>
    obtain ⟨j, hj, rfl, hn, hK⟩ := hrel
    by_cases hlt2 : j < L
    · obtain ⟨y, hy⟩ : ∃ y, rs[j]? = some y := ⟨_, List.getElem?_eq_getElem (by have := HS.out.2.1; omega)⟩
      obtain ⟨g, o, rfl, hg⟩ := HS.out.1.at hy
      obtain ⟨y0, y1, y2, y3⟩ := hg.kept hK fun h => h
      have hBr := HS.out.2.2.2.1.kept hK fun h => h
      have hsz : w.heap.size < wr.heap.size := hBr.lt
      have l0 := hBr.cell (i := 0) rfl
      have l1 := hBr.cell (i := 1) rfl
      have l2 := hBr.cell (i := 2) rfl
      have f0 := hBr.frozen 0
      have f1 := hBr.frozen 1
      have f2 := hBr.frozen 2
      obtain ⟨h1, h2, h3, h4, h5, h6, h7⟩ := HS.out.2.2.1 y (List.mem_of_getElem? hy)
      have HH : Hid (∀ W' z m, Calls Try.prog 40 #[.int .i64 z, .int .i64 m] W' _) := fun W' z m => within_any z m W'
      have HJ : Hid ((rs.take j).find? (fun r => r.has p) = none ∧ rs[j]? = some y ∧ Keeps (fun _ => False) W wr ∧ Blk wr w.heap.size lf0.vs 51) := ⟨hn, hy, hK, hBr⟩
      clear hn hy hK hg hBr
      by_cases hh : y.has p = true
      · have hb := has_bounds hh
        have HF : Hid (findL rs p = some ((y.frame + ((p : Int) - y.page)).toNat, y.rights.toNat)) := by
          show findL rs p = _
          unfold findL; rw [find_take_hit HJ.out.1 HJ.out.2.1 hh]; rfl
        have e : inR ((p : Int) - y.page) y.pages = true := inR_true (by omega) (by omega)
        have E : Hid (inR ((p : Int) - y.page) y.pages = true) := e
        have hsum : (0 : Int) ≤ y.frame + ((p : Int) - y.page) ∧ y.frame + ((p : Int) - y.page) < 1024 := by omega
        clear hh e
        go_wp2_with fail
        refine (HH.out _ _ _).mono ?_
        rintro e w1 ⟨rfl, hw⟩
        obtain rfl := hw.symm
        clear hw
        rw [E.out]
        go_wp2
        rw [HF.out]
        have HL : Hid (_ = _) := load_ints ((HJ.out.2.2.2.set3 (.int .i64 p) (.int .i64 (y.frame + ((p : Int) - y.page))) (.int .i64 y.rights)).alloc (.cells #[.int .i64 y.page, .int .i64 y.pages, .int .i64 y.frame, .int .i64 y.rights] 54))
        have HV : Hid ((leafO p (some ((y.frame + ((p : Int) - y.page)).toNat, y.rights.toNat))).v = .agg #[.int .i64 p, .int .i64 (y.frame + ((p : Int) - y.page)), .int .i64 y.rights]) := by
          have q1 : (((y.frame + ((p : Int) - y.page)).toNat : Nat) : Int) = y.frame + ((p : Int) - y.page) := by omega
          have q2 : ((y.rights.toNat : Nat) : Int) = y.rights := by omega
          show Value.agg #[.int .i64 p, .int .i64 (((y.frame + ((p : Int) - y.page)).toNat : Nat) : Int), .int .i64 ((y.rights.toNat : Nat) : Int)] = _
          rw [q1, q2]
        have HKK := ((HS.out.2.2.2.2.trans HJ.out.2.2.1 fun _ _ h => h).set3 w.heap.size (.int .i64 p) (.int .i64 (y.frame + ((p : Int) - y.page))) (.int .i64 y.rights) (fun e => absurd e (Nat.lt_irrefl _))).alloc (.cells #[.int .i64 y.page, .int .i64 y.pages, .int .i64 y.frame, .int .i64 y.rights] 54)
        refine bodyPost_ret (results_cell_tmp (p := 3) (u := 4) (ty := 51) rfl _ _ ⟨w.heap.size, 0, none⟩ _ rfl HL.out) rfl ?_
        refine ⟨?_, HKK⟩
        rw [HV.out]; rfl
      · have hh := Bool.eq_false_iff.2 hh
        have HF : Hid ((rs.take (j + 1)).find? (fun r => r.has p) = none) := find_take_none HJ.out.1 HJ.out.2.1 hh
        have E : Hid (inR ((p : Int) - y.page) y.pages = false) := inR_false (fun h => by
          have : y.has p = true := by simp [Rgn.has]; omega
          rw [hh] at this; cases this)
        clear hh
        go_wp2_with fail
        refine (HH.out _ _ _).mono ?_
        rintro e w1 ⟨rfl, hw⟩
        obtain rfl := hw.symm
        clear hw
        rw [E.out]
        go_wp2
        go_roundw
        case rel => exact ⟨j + 1, by omega, by go_num, HF.out, HJ.out.2.2.1.alloc _⟩
        case measure => simp [intOf]; omega
    · obtain rfl : j = L := by omega
      have HF : Hid (findL rs p = none) := by
        rw [List.take_of_length_le (by have := HS.out.2.1; omega)] at hn
        show findL rs p = none
        unfold findL; rw [hn]; rfl
      have hBr := HS.out.2.2.2.1.kept hK fun h => h
      have l0 := hBr.cell (i := 0) rfl
      have l1 := hBr.cell (i := 1) rfl
      have l2 := hBr.cell (i := 2) rfl
      have f0 := hBr.frozen 0
      have f1 := hBr.frozen 1
      have f2 := hBr.frozen 2
      have HJ : Hid (Keeps (fun _ => False) W wr ∧ Blk wr w.heap.size lf0.vs 51) := ⟨hK, hBr⟩
      clear hn hK hBr
      go_wp2
      rw [HF.out]
      have HL : Hid (_ = _) := load_leaf (HJ.out.2.setLf lf0)
      refine bodyPost_ret (results_cell_tmp (p := 3) (u := 4) (ty := 51) rfl _ _ ⟨w.heap.size, 0, none⟩ lf0.v rfl HL.out) rfl ?_
      refine ⟨rfl, (HS.out.2.2.2.2.trans HJ.out.1 fun _ _ h => h).setLf w.heap.size lf0 (fun e => absurd e (Nat.lt_irrefl _))⟩

end Go.Proofs.Ytpccdhoaicabcaa
