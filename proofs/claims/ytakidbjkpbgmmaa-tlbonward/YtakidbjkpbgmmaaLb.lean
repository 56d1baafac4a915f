import Derived.Test.YtakidbjkpbgmmaaLa
namespace Go.Proofs.Ytakidbjkpbgmmaa
open Go.RowKit Go.Shelf
set_option linter.unusedVariables false

/-- The mark at a place. -/
def mk (i : Nat) : Lf := ⟨-100 - i, -200 - i, 90 + i⟩

theorem results_cell {P : Program} {fn : Func} {p : Tmp} {ty : TypeId} (h : fn.results = #[.cell p ty]) (tmps : Array Value) (w : World) (a : Addr) (v : Value)
    (hp : tmps.getD p undef = .pointer (some a)) (hl : (loadVar ty a).run P w = .ok v w) : (results fn tmps).run P w = .ok v w := by
  have hp' : tmps[p]?.getD undef = .pointer (some a) := by simpa using hp
  simp [results, h, hp', asAddr, hl]

theorem mark_any (i : Nat) (w : World) (hi : i ≤ 5864062014700) : Calls Try.prog 36 #[.int .i64 (i : Int)] w fun r w' => r = .returned (mk i).v ∧ Keeps (fun _ => False) w w' := by
  have h1 : (i : Int) ≤ 5864062014700 := by omega
  have e1 : IntKind.i64.wrap (-100 - (i : Int)) = -100 - (i : Int) := by rw [IntKind.wrap_i64]; omega
  have e2 : IntKind.i64.wrap (-200 - (i : Int)) = -200 - (i : Int) := by rw [IntKind.wrap_i64]; omega
  have e3 : IntKind.i64.wrap (90 + (i : Int)) = 90 + (i : Int) := by rw [IntKind.wrap_i64]; omega
  go_enter Try.func36, Try.ntmps36
  go_wp2
  refine bodyPost_ret (results_cell rfl _ _ _ (mk i).v rfl (load_leaf (l := mk i) (Blk.new w _ 38))) rfl ?_
  exact ⟨rfl, (Keeps.refl _ w).alloc _⟩

theorem take_set {j : Nat} {ls ys : List Lf} {y : Lf} (hy : ls[j]? = some y) (hys : j < ys.length) : (ls.take j ++ ys.drop j).set j y = ls.take (j + 1) ++ ys.drop (j + 1) := by
  have hj : j < ls.length := (List.getElem?_eq_some_iff.1 hy).1
  have e : ys.drop j = (ys[j]'hys) :: ys.drop (j + 1) := by rw [List.getElem_cons_drop]
  rw [List.set_append_right _ _ (by simp; omega), List.take_add_one, hy, show j - (ls.take j).length = 0 by simp; omega, e, List.set_cons_zero]
  simp

set_option maxHeartbeats 1000000 in
theorem copied_any (a : Option Addr) (ls : List Lf) (c : Nat) (w : World) (hl : ls.length ≤ c ∧ c ≤ maxLen) (hb : ls.length ≤ 5864062014634) (hs : SegL w a ls) :
    Calls Try.prog 16 #[.slice a ls.length c] w fun r w' => ∃ g, r = .returned (.slice (some ⟨g, 0, none⟩) ls.length ls.length) ∧ Blk w' g (flatL ls) 38 ∧ w.heap.size ≤ g ∧ Keeps (fun _ => False) w w' := by
  obtain ⟨n, hn⟩ : ∃ n, n = ls.length := ⟨_, rfl⟩
  obtain ⟨W, hm, hB, hKW, hz⟩ := make_full w ls.length (by omega)
  have HS : Hid (SegL w a ls ∧ n = ls.length ∧ Blk W w.heap.size (flatL (List.replicate ls.length Lf.none)) 38 ∧ Keeps (fun _ => False) w W) := ⟨hs, hn, hB, hKW⟩
  rw [← hn] at hm
  have HM : Hid _ := hm
  have hc2 : (n : Int) ≤ c := by omega
  have hc3 : (c : Int) ≤ 9223372036854775807 := by unfold maxLen at hl; omega
  rw [← hn]
  obtain ⟨G, hG⟩ : ∃ G, G = w.heap.size := ⟨_, rfl⟩
  rw [← hG] at HS HM
  have HG : Hid (G = w.heap.size) := hG
  clear hl hs hn hm hB hKW hz hb hG
  go_enter Try.func16, Try.ntmps16
  go_wp2_with (at_make; refine wpList_make_run rfl _ _ 26 rfl _ _ _ _ rfl rfl HM.out ?_; refine Hid.out ?_)
  unfold Hid
  clear HM
  go_wp2
  go_loopw [4] (fun i wr => ∃ j : Nat, j ≤ n ∧ i = .int .i64 j ∧ Blk wr G (flatL (ls.take j ++ (List.replicate ls.length Lf.none).drop j)) 38 ∧ Keeps (fun _ => False) w wr) (fun i _ => n - (intOf i).toNat)
  case atStart => exact ⟨0, by omega, rfl, by simpa using HS.out.2.2.1, HS.out.2.2.2⟩
  case round =>
    obtain ⟨j, hj, rfl, hB, hK⟩ := hrel
    by_cases hlt : j < n
    · obtain ⟨y, hy⟩ : ∃ y, ls[j]? = some y := ⟨_, List.getElem?_eq_getElem (by have := HS.out.2.1; omega)⟩
      obtain ⟨g, o, rfl, hy3⟩ : ∃ g o, a = some ⟨g, o, none⟩ ∧ LeafAt w g (o + j * 3) y := by
        rcases HS.out.1 with h | ⟨g, o, ha, h⟩
        · rw [h] at hy; simp at hy
        · exact ⟨g, o, ha, h j y hy⟩
      obtain ⟨y0, y1, y2⟩ := hy3.kept hK fun h => h
      have hlen : (ls.take j ++ (List.replicate ls.length Lf.none).drop j).length = n := by have := HS.out.2.1; simp; omega
      obtain ⟨z, hz⟩ : ∃ z, (ls.take j ++ (List.replicate ls.length Lf.none).drop j)[j]? = some z := ⟨_, List.getElem?_eq_getElem (by omega)⟩
      obtain ⟨z0, z1, z2⟩ := hB.leafAt hz
      have f0 := hB.frozen (j * 3)
      have f1 := hB.frozen (j * 3 + 1)
      have f2 := hB.frozen (j * 3 + 2)
      have hne : g ≠ G := by have := hy3.lt; have := HG.out; omega
      have hlt' : (j : Int) < n := by omega
      have HE : Hid (Blk (((wr.setCell ⟨G, j * 3, none⟩ (.int .i64 y.p)).setCell ⟨G, j * 3 + 1, none⟩ (.int .i64 y.f)).setCell ⟨G, j * 3 + 2, none⟩ (.int .i64 y.r)) G (flatL (ls.take (j + 1) ++ (List.replicate ls.length Lf.none).drop (j + 1))) 38 ∧ Keeps (fun _ => False) w (((wr.setCell ⟨G, j * 3, none⟩ (.int .i64 y.p)).setCell ⟨G, j * 3 + 1, none⟩ (.int .i64 y.f)).setCell ⟨G, j * 3 + 2, none⟩ (.int .i64 y.r))) := by
        refine ⟨?_, hK.setAt G j y fun h => by have := HG.out; omega⟩
        have := hB.setAt (i := j) (by omega) y
        rw [take_set hy (by have := HS.out.2.1; simp; omega)] at this
        exact this
      clear hB hK hy hy3 hz hlen
      go_wp2
      go_roundw
      case rel => exact ⟨j + 1, by omega, by go_num, HE.out⟩
      case measure => simp [intOf]; omega
    · obtain rfl : j = n := by omega
      have HE : Hid (Blk wr G (flatL ls) 38 ∧ Keeps (fun _ => False) w wr) := by
        rw [List.take_of_length_le (by have := HS.out.2.1; omega), List.drop_of_length_le (by have := HS.out.2.1; simp; omega), List.append_nil] at hB
        exact ⟨hB, hK⟩
      clear hB hK
      go_wp2
      go_ret
      exact ⟨G, rfl, HE.out.1, by have := HG.out; omega, HE.out.2⟩

/-- The marks behind a list of n. -/
def tailM (n : Nat) : List Lf := ((List.range (n + 40)).map mk).drop n
theorem tailM_length (n : Nat) : (tailM n).length = 40 := by simp [tailM]
theorem tailM_get (n i : Nat) (hi : n + i < n + 40) : (tailM n)[i]? = some (mk (n + i)) := by
  unfold tailM
  rw [List.getElem?_drop, List.getElem?_map, List.getElem?_range hi]
  rfl

set_option maxHeartbeats 1000000 in
theorem wide_any (a : Option Addr) (ls : List Lf) (c : Nat) (w : World) (hl : ls.length ≤ c ∧ c ≤ maxLen) (hb : ls.length ≤ 5864062014634) (hs : SegL w a ls) :
    Calls Try.prog 22 #[.slice a ls.length c] w fun r w' => ∃ g, r = .returned (.slice (some ⟨g, 0, none⟩) ls.length (ls.length + 40)) ∧ Blk w' g (flatL (ls ++ tailM ls.length)) 38 ∧ w.heap.size ≤ g ∧ Keeps (fun _ => False) w w' := by
  obtain ⟨n, hn⟩ : ∃ n, n = ls.length := ⟨_, rfl⟩
  obtain ⟨W, hm, hB, hKW, hz⟩ := make_full w (n + 40) (by omega)
  obtain ⟨G, hG⟩ : ∃ G, G = w.heap.size := ⟨_, rfl⟩
  rw [← hG] at hm hB
  have HS : Hid (SegL w a ls ∧ n = ls.length ∧ Blk W G (flatL (List.replicate (n + 40) Lf.none)) 38 ∧ Keeps (fun _ => False) w W ∧ n ≤ 5864062014634) := ⟨hs, hn, hB, hKW, by omega⟩
  have e40 : IntKind.i64.wrap ((n : Int) + 40) = ((n + 40 : Nat) : Int) := by rw [IntKind.wrap_i64]; omega
  obtain ⟨m, hmm⟩ : ∃ m, m = n + 40 := ⟨_, rfl⟩
  rw [← hmm] at hm e40
  have HM : Hid _ := hm
  have hc2 : (n : Int) ≤ c := by omega
  have hc3 : (c : Int) ≤ 9223372036854775807 := by unfold maxLen at hl; omega
  rw [← hn]
  have HG : Hid (G = w.heap.size ∧ m = n + 40) := ⟨hG, hmm⟩
  have hm2 : (m : Int) ≤ 5864062014674 := by omega
  have hm3 : (n : Int) ≤ m := by omega
  clear hl hs hn hm hB hKW hz hb hG hmm
  go_enter Try.func22, Try.ntmps22
  go_wp2_with (at_make; refine wpList_make_run rfl _ _ 26 rfl _ _ _ _ rfl rfl HM.out ?_; refine Hid.out ?_)
  unfold Hid
  clear HM e40
  go_wp2
  go_loopw [4] (fun i wr => ∃ j : Nat, j ≤ m ∧ i = .int .i64 j ∧ Blk wr G (flatL (((List.range (n + 40)).map mk).take j ++ (List.replicate (n + 40) Lf.none).drop j)) 38 ∧ Keeps (fun _ => False) w wr) (fun i _ => m - (intOf i).toNat)
  case atStart => exact ⟨0, by omega, rfl, by simpa using HS.out.2.2.1, HS.out.2.2.2.1⟩
  case round =>
    obtain ⟨j, hj, rfl, hB, hK⟩ := hrel
    by_cases hlt : j < m
    · have hy : ((List.range (n + 40)).map mk)[j]? = some (mk j) := by rw [List.getElem?_map, List.getElem?_range (by have := HG.out.2; omega)]; rfl
      have HC : Hid (Calls _ _ _ _ _) := mark_any j wr (by omega)
      have HJ : Hid (Blk wr G (flatL (((List.range (n + 40)).map mk).take j ++ (List.replicate (n + 40) Lf.none).drop j)) 38 ∧ Keeps (fun _ => False) w wr ∧ ((List.range (n + 40)).map mk)[j]? = some (mk j)) := ⟨hB, hK, hy⟩
      have hlt' : (j : Int) < m := by omega
      clear hB hK hy
      go_wp2_with fail
      refine HC.out.mono ?_
      rintro r w1 ⟨rfl, hK1⟩
      have hB1 := HJ.out.1.kept hK1 fun h => h
      have hlen : (((List.range (n + 40)).map mk).take j ++ (List.replicate (n + 40) Lf.none).drop j).length = m := by have := HG.out.2; simp; omega
      obtain ⟨z, hz⟩ : ∃ z, (((List.range (n + 40)).map mk).take j ++ (List.replicate (n + 40) Lf.none).drop j)[j]? = some z := ⟨_, List.getElem?_eq_getElem (by omega)⟩
      obtain ⟨z0, z1, z2⟩ := hB1.leafAt hz
      have f0 := hB1.frozen (j * 3)
      have f1 := hB1.frozen (j * 3 + 1)
      have f2 := hB1.frozen (j * 3 + 2)
      have HE : Hid (Blk (((w1.setCell ⟨G, j * 3, none⟩ (.int .i64 (mk j).p)).setCell ⟨G, j * 3 + 1, none⟩ (.int .i64 (mk j).f)).setCell ⟨G, j * 3 + 2, none⟩ (.int .i64 (mk j).r)) G (flatL (((List.range (n + 40)).map mk).take (j + 1) ++ (List.replicate (n + 40) Lf.none).drop (j + 1))) 38 ∧ Keeps (fun _ => False) w (((w1.setCell ⟨G, j * 3, none⟩ (.int .i64 (mk j).p)).setCell ⟨G, j * 3 + 1, none⟩ (.int .i64 (mk j).f)).setCell ⟨G, j * 3 + 2, none⟩ (.int .i64 (mk j).r))) := by
        refine ⟨?_, (HJ.out.2.1.trans hK1 fun _ _ h => h).setAt G j (mk j) fun h => by have := HG.out.1; omega⟩
        have := hB1.setAt (i := j) (by omega) (mk j)
        rw [take_set HJ.out.2.2 (by have := HG.out.2; simp; omega)] at this
        exact this
      clear hB1 hK1 hz hlen HC
      go_wp2
      go_roundw
      case rel => exact ⟨j + 1, by omega, by go_num, HE.out⟩
      case measure => simp [intOf]; omega
    · obtain rfl : j = m := by omega
      have H1 : Hid (Blk wr G (flatL ((List.range (n + 40)).map mk)) 38 ∧ Keeps (fun _ => False) w wr) := by
        rw [List.take_of_length_le (by have := HG.out.2; simp; omega), List.drop_of_length_le (by have := HG.out.2; simp; omega), List.append_nil] at hB
        exact ⟨hB, hK⟩
      clear hB hK hlt
      go_wp2
      go_loopw [5] (fun i wr => ∃ k : Nat, k ≤ n ∧ i = .int .i64 k ∧ Blk wr G (flatL (ls.take k ++ ((List.range (n + 40)).map mk).drop k)) 38 ∧ Keeps (fun _ => False) w wr) (fun i _ => n - (intOf i).toNat)
      case atStart => exact ⟨0, by omega, rfl, by simpa using H1.out.1, H1.out.2⟩
      case round =>
        obtain ⟨k, hk, rfl, hB, hK⟩ := hrel
        by_cases hlt : k < n
        · obtain ⟨y, hy⟩ : ∃ y, ls[k]? = some y := ⟨_, List.getElem?_eq_getElem (by have := HS.out.2.1; omega)⟩
          obtain ⟨g, o, rfl, hy3⟩ : ∃ g o, a = some ⟨g, o, none⟩ ∧ LeafAt w g (o + k * 3) y := by
            rcases HS.out.1 with h | ⟨g, o, ha, h⟩
            · rw [h] at hy; simp at hy
            · exact ⟨g, o, ha, h k y hy⟩
          obtain ⟨y0, y1, y2⟩ := hy3.kept hK fun h => h
          have hlen : (ls.take k ++ ((List.range (n + 40)).map mk).drop k).length = n + 40 := by have := HS.out.2.1; simp; omega
          obtain ⟨z, hz⟩ : ∃ z, (ls.take k ++ ((List.range (n + 40)).map mk).drop k)[k]? = some z := ⟨_, List.getElem?_eq_getElem (by omega)⟩
          obtain ⟨z0, z1, z2⟩ := hB.leafAt hz
          have f0 := hB.frozen (k * 3)
          have f1 := hB.frozen (k * 3 + 1)
          have f2 := hB.frozen (k * 3 + 2)
          have hne : g ≠ G := by have := hy3.lt; have := HG.out.1; omega
          have hlt' : (k : Int) < n := by omega
          have hlt2 : (k : Int) < j := by omega
          have HE : Hid (Blk (((wr.setCell ⟨G, k * 3, none⟩ (.int .i64 y.p)).setCell ⟨G, k * 3 + 1, none⟩ (.int .i64 y.f)).setCell ⟨G, k * 3 + 2, none⟩ (.int .i64 y.r)) G (flatL (ls.take (k + 1) ++ ((List.range (n + 40)).map mk).drop (k + 1))) 38 ∧ Keeps (fun _ => False) w (((wr.setCell ⟨G, k * 3, none⟩ (.int .i64 y.p)).setCell ⟨G, k * 3 + 1, none⟩ (.int .i64 y.f)).setCell ⟨G, k * 3 + 2, none⟩ (.int .i64 y.r))) := by
            refine ⟨?_, hK.setAt G k y fun h => by have := HG.out.1; omega⟩
            have := hB.setAt (i := k) (by omega) y
            rw [take_set hy (by simp; omega)] at this
            exact this
          clear hB hK hy hy3 hz hlen
          go_wp2
          go_roundw
          case rel => exact ⟨k + 1, by omega, by go_num, HE.out⟩
          case measure => simp [intOf]; omega
        · obtain rfl : k = n := by omega
          have HE : Hid (Blk wr G (flatL (ls ++ tailM k)) 38 ∧ Keeps (fun _ => False) w wr) := by
            rw [List.take_of_length_le (by have := HS.out.2.1; omega)] at hB
            exact ⟨hB, hK⟩
          clear hB hK
          go_wp2
          go_ret
          exact ⟨G, by have := HG.out.2; subst this; rfl, HE.out.1, by have := HG.out.1; omega, HE.out.2⟩

end Go.Proofs.Ytakidbjkpbgmmaa
