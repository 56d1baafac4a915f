import Derived.Test.YtadhldpeklkcmaaRf
import Derived.Test.YtadhldpeklkcmaaQ
namespace Go.Proofs.Ytadhldpeklkcmaa
open Go.RowKit
set_option linter.unusedVariables false

/-- copy(dst, src), all of src, over the head of dst. -/
theorem run_copy_big {w : World} (dT ty elem : TypeId) (k : Nat) (hk : 0 < k) (g dLen dCap : Nat) (a : Option Addr) (sLen sCap : Nat) (cur : List Value) (t : TypeId) (cs : List Value)
    (hu : Try.prog.underlying dT = some (.slice elem)) (hs : (Try.prog.info? elem).map (·.size) = some k) (hg : Blk w g cur t) (hn : cs.length = sLen * k) (hle : sLen ≤ dLen)
    (hsrc : cs = [] ∨ ∃ b p, a = some ⟨b, p, none⟩ ∧ ∀ j v, cs[j]? = some v → w.cell? ⟨b, p + j, none⟩ = some v) (hfit : cs.length ≤ cur.length) (h1 : ∀ v ∈ cs, v.oneCell' = true) :
    (Builtin.copy_ #[dT, dT] ty #[.slice (some ⟨g, 0, none⟩) dLen dCap, .slice a sLen sCap]).run Try.prog w = .ok (goInt sLen) (w.setRow g (cs ++ cur.drop cs.length).toArray) := by
  have hmin : min sLen dLen = sLen := by omega
  have hst := run_storeCells_at Try.prog g 0 t cs 0 cur.toArray w hg (by simpa using hfit) h1
  simp only [Nat.zero_add, List.take_zero, List.nil_append, Nat.add_zero] at hst
  cases hq : Try.prog.info? elem with
  | none => simp [hq] at hs
  | some i =>
    have hi : i.size = k := by simpa [hq] using hs
    rcases hsrc with rfl | ⟨b, p, rfl, hc⟩
    · have h0 : sLen = 0 := by
        have : sLen * k = 0 := by simpa using hn.symm
        rcases Nat.mul_eq_zero.1 this with h | h
        · exact h
        · omega
      subst h0
      cases a with
      | none => simp [Builtin.copy_, run_underlying hu, Builtin.lenOf, Builtin.firstCells, sizeOf, typeInfo, hq, hst]
      | some x => simp [Builtin.copy_, run_underlying hu, Builtin.lenOf, Builtin.firstCells, sizeOf, typeInfo, hq, hst, loadCells, loadCellsFrom]
    · have hl := run_loadCells_list (P := Try.prog) w ⟨b, p, none⟩ cs (fun j v hj => by rw [addr_add]; exact hc j v hj)
      rw [hn] at hl
      simp [Builtin.copy_, run_underlying hu, Builtin.lenOf, Builtin.firstCells, sizeOf, typeInfo, hq, hi, hmin, hl, hst]


theorem Try.size3 : (Try.prog.info? 3).map (·.size) = some 1 := by kernel_rfl
theorem madeCells_ints (n : Nat) : madeCells (Value.int .i64 0).cells n = (ivs (List.replicate n 0)).toArray := by
  apply Array.ext'
  apply List.ext_getElem?
  intro i
  have hm : i % 1 = 0 := by omega
  simp [madeCells, ivs, List.getElem?_replicate]
  by_cases hi : i < n
  · simp [hi, Value.cells, hm]
  · simp [hi]
theorem run_make_ints {w : World} (n : Nat) (hn : n ≤ 4294967296) :
    (Instr.makeSlice 27 (.int .i64 n) (.int .i64 n)).run Try.prog w = .ok (.slice (some ⟨w.heap.size, 0, none⟩) n n) (w.alloc (.cells (ivs (List.replicate n 0)).toArray 3)) := by
  obtain ⟨i0, hi, hz0, hz1, hz2⟩ := info_parts Try.info3
  have h := run_make (P := Try.prog) w 27 3 i0 (.int .i64 0) Try.underlying27 hi hz0 .i64 .i64 n n (by omega) (by omega) (by rw [hz2]; omega) (by omega)
  rw [hz1, Nat.mul_one, Int.toNat_natCast, madeCells_ints] at h
  exact h

def marksI (j : Nat) : List Int := List.replicate j (-77) ++ List.replicate (9 - j) 0
theorem marksI_length (j : Nat) (h : j ≤ 9) : (marksI j).length = 9 := by simp [marksI]; omega
theorem marksI_set (ts : List Int) (j : Nat) (h : j < 9) : (ts ++ marksI j).set (ts.length + j) (-77) = ts ++ marksI (j + 1) := by
  rw [List.set_append_right _ _ (by omega), Nat.add_sub_cancel_left]
  congr 1
  unfold marksI
  rw [List.set_append_right _ _ (by simp), List.length_replicate, Nat.sub_self]
  obtain ⟨d, hd⟩ : ∃ d, 9 - j = d + 1 := ⟨9 - j - 1, by omega⟩
  rw [hd, show 9 - (j + 1) = d by omega, List.replicate_succ, List.set_cons_zero, List.replicate_succ']
  simp
theorem ivs_set' (ts : List Int) (i : Nat) (z : Int) : ivs (ts.set i z) = (ivs ts).set i (.int .i64 z) := by simp [ivs, List.map_set]

set_option maxRecDepth 20000 in
set_option maxHeartbeats 2000000 in
theorem lentI (a : Option Addr) (c : Nat) (zs : List Int) (w : World) (hx : SegI w a zs) (hl : zs.length ≤ 4294967000) :
    Calls Try.prog 40 #[.slice a zs.length c] w fun e w' => e = .returned (.slice (some ⟨w.heap.size, 0, none⟩) zs.length (zs.length + 9)) ∧ Blk w' w.heap.size (ivs (zs ++ marksI 9)) 3 ∧ Keeps (fun _ => False) w w' := by
  have m1 := run_make_ints (w := w) (zs.length + 9) (by omega)
  obtain ⟨w2, hw2⟩ : ∃ w2, w2 = w.alloc (.cells (ivs (List.replicate (zs.length + 9) 0)).toArray 3) := ⟨_, rfl⟩
  rw [← hw2] at m1
  have k2 : Keeps (fun _ => False) w w2 := by rw [hw2]; exact (Keeps.refl _ w).alloc _
  have b2 : Blk w2 w.heap.size (ivs (List.replicate (zs.length + 9) 0)) 3 := by rw [hw2]; exact Blk.new w _ 3
  have cp1 := fun ty => run_copy_big (w := w2) 27 ty 3 1 (by omega) w.heap.size (zs.length + 9) (zs.length + 9) a zs.length c (ivs (List.replicate (zs.length + 9) 0)) 3 (ivs zs) Try.underlying27 Try.size3 b2 (by rw [ivs_length]; omega) (by omega)
    (segI_cells (hx.kept k2 fun _ _ e => e)) (by rw [ivs_length, ivs_length]; simp) (ivs_one zs)
  have e1 : ivs zs ++ (ivs (List.replicate (zs.length + 9) 0)).drop (ivs zs).length = ivs (zs ++ marksI 0) := by
    rw [ivs_length]
    simp [ivs, marksI]
  rw [e1] at cp1
  obtain ⟨w3, hw3⟩ : ∃ w3, w3 = w2.setRow w.heap.size (ivs (zs ++ marksI 0)).toArray := ⟨_, rfl⟩
  rw [← hw3] at cp1
  have b3 : Blk w3 w.heap.size (ivs (zs ++ marksI 0)) 3 := by rw [hw3]; exact b2.setRow _
  have k3 : Keeps (fun _ => False) w w3 := by rw [hw3]; exact k2.setRow _ _ (fun h => by omega)
  obtain ⟨L, hL⟩ : ∃ L, L = zs.length := ⟨_, rfl⟩
  obtain ⟨B, hB⟩ : ∃ B, B = w.heap.size := ⟨_, rfl⟩
  rw [← hL] at m1 cp1 ⊢
  rw [← hB] at m1 cp1 b3 ⊢
  have e9 : ((L + 9 : Nat) : Int) = (L : Int) + 9 := by omega
  rw [e9] at m1
  have M1 : Hid (_ = _) := m1
  have C1 : Hid (∀ ty, _) := cp1
  have HH : Hid (Blk w3 B (ivs (zs ++ marksI 0)) 3 ∧ Keeps (fun _ => False) w w3 ∧ L = zs.length ∧ B = w.heap.size) := ⟨b3, k3, hL, hB⟩
  have hLb : (L : Int) ≤ 4294967000 := by omega
  have hw9 : IntKind.i64.wrap ((L : Int) + 9) = (L : Int) + 9 := by rw [IntKind.wrap_i64]; omega
  clear m1 cp1 hw2 k2 b2 hw3 b3 k3 e1 hL hB e9 hx hl
  go_enter Try.func40, Try.ntmps40
  go_wp2_with (at_make; refine wpList_make_run rfl (.tmp 7) (.tmp 7) 27 rfl (.int .i64 ((L : Int) + 9)) (.int .i64 ((L : Int) + 9)) (.slice (some ⟨B, 0, none⟩) (L + 9) (L + 9)) w2 rfl rfl M1.out ?_; refine Hid.out ?_)
  unfold Hid
  go_wp2_with (refine isCopy (.tmp 9) (.tmp 10) 27 27 rfl ?_; go_must (refine wpList_copy_run rfl (.tmp 9) (.tmp 10) 27 27 rfl (.slice (some ⟨B, 0, none⟩) (L + 9) (L + 9)) (.slice a L c) (goInt L) w3 rfl rfl C1.out ?_))
  go_loopw [4] (fun i wr => ∃ k : Nat, k ≤ 9 ∧ i = .int .i64 ((L + k : Nat) : Int) ∧ Blk wr B (ivs (zs ++ marksI k)) 3 ∧ Keeps (fun _ => False) w wr) (fun i _ => L + 9 - (intOf i).toNat)
  case atStart => exact ⟨0, by omega, rfl, HH.out.1, HH.out.2.1⟩
  case round =>
    obtain ⟨k, hk, rfl, hBk, hKk⟩ := hrel
    obtain ⟨q, hq⟩ : ∃ q, q = L + k := ⟨_, rfl⟩
    rw [← hq]
    by_cases hlt : k < 9
    · have hq' : (q : Int) < (L : Int) + 9 := by omega
      have hql : q < (ivs (zs ++ marksI k)).length := by rw [ivs_length, List.length_append, marksI_length k hk, ← HH.out.2.2.1]; omega
      obtain ⟨vq, hvq⟩ : ∃ vq, (ivs (zs ++ marksI k))[q]? = some vq := ⟨_, List.getElem?_eq_getElem hql⟩
      have cq := hBk.cell hvq
      have zq := hBk.frozen q
      have HB2 : Hid (Blk (wr.setCell ⟨B, q, none⟩ (.int .i64 (-77))) B (ivs (zs ++ marksI (k + 1))) 3 ∧ Keeps (fun _ => False) w (wr.setCell ⟨B, q, none⟩ (.int .i64 (-77))) ∧ q = L + k) := by
        refine ⟨?_, hKk.setCell _ _ (fun h => by have := HH.out.2.2.2; simp only at h; omega), hq⟩
        rw [← marksI_set zs k hlt, ivs_set', ← HH.out.2.2.1, ← hq]
        exact hBk.setCell q _
      have hqs : IntKind.i64.wrap ((q : Int) + 1) = ((q + 1 : Nat) : Int) := by rw [IntKind.wrap_i64]; omega
      clear hBk hKk hql hq hvq
      go_wp2
      go_roundw
      case rel => exact ⟨k + 1, by omega, by have := HB2.out.2.2; subst this; go_num, HB2.out.1, HB2.out.2.1⟩
      case measure => have := HB2.out.2.2; simp [intOf]; omega
    · obtain rfl : k = 9 := by omega
      have hq' : ¬ (q : Int) < (L : Int) + 9 := by omega
      have HB2 : Hid (Blk wr B (ivs (zs ++ marksI 9)) 3 ∧ Keeps (fun _ => False) w wr) := ⟨hBk, hKk⟩
      clear hBk hKk hq
      go_wp2
      go_ret
      exact ⟨rfl, HB2.out⟩

/-- Half written over. -/
def overI (zs : List Int) (k : Nat) : List Int := List.replicate k (-78) ++ (zs ++ marksI 9).drop k
theorem overI_get (zs : List Int) (k : Nat) (hk : k < zs.length + 9) : (ivs (overI zs k))[k]? = (ivs (zs ++ marksI 9))[k]? := by
  unfold overI
  simp only [ivs, List.map_append, List.map_replicate]
  rw [List.getElem?_append_right (by simp)]
  simp
theorem overI_set (zs : List Int) (k : Nat) (hk : k < zs.length + 9) : (overI zs k).set k (-78) = overI zs (k + 1) := by
  unfold overI
  have hl : k < (zs ++ marksI 9).length := by rw [List.length_append, marksI_length 9 (by omega)]; exact hk
  rw [List.set_append_right _ _ (by simp), List.length_replicate, Nat.sub_self, List.drop_eq_getElem_cons hl, List.set_cons_zero, List.replicate_succ']
  simp

set_option maxRecDepth 20000 in
set_option maxHeartbeats 2000000 in
theorem backI (B : Nat) (a : Option Addr) (c : Nat) (zs : List Int) (w : World) (hB : Blk w B (ivs (zs ++ marksI 9)) 3) (hx : SegI w a zs) (hne : ∀ x, a = some x → zs ≠ [] → x.block ≠ B) (hl : zs.length ≤ 4294967000) :
    Calls Try.prog 42 #[.slice (some ⟨B, 0, none⟩) zs.length (zs.length + 9), .slice a zs.length c] w fun e w' => e = .returned (.bool true) ∧ Keeps (· = B) w w' := by
  obtain ⟨L, hL⟩ : ∃ L, L = zs.length := ⟨_, rfl⟩
  have HH : Hid (Blk w B (ivs (zs ++ marksI 9)) 3 ∧ SegI w a zs ∧ (∀ x, a = some x → zs ≠ [] → x.block ≠ B) ∧ L = zs.length) := ⟨hB, hx, hne, hL⟩
  rw [← hL] at hl ⊢
  have hLb : (L : Int) ≤ 4294967000 := by omega
  have hw9 : IntKind.i64.wrap ((L : Int) + 9) = (L : Int) + 9 := by rw [IntKind.wrap_i64]; omega
  clear hB hx hne hL hl
  go_enter Try.func42, Try.ntmps42
  go_wp2_with fail
  go_loopw [6, 7] (fun ok i wr => ∃ k : Nat, k ≤ L + 9 ∧ ok = .bool true ∧ i = .int .i64 (k : Int) ∧ Blk wr B (ivs (overI zs k)) 3 ∧ Keeps (· = B) w wr) (fun _ i _ => L + 9 - (intOf i).toNat)
  case atStart => exact ⟨0, by omega, rfl, rfl, by unfold overI; simpa using HH.out.1, Keeps.refl _ _⟩
  case round =>
    obtain ⟨k, hk, rfl, rfl, hBk, hKk⟩ := hrel
    have HR : Hid (Blk wr B (ivs (overI zs k)) 3 ∧ Keeps (· = B) w wr) := ⟨hBk, hKk⟩
    by_cases hlt : k < L + 9
    · have hk' : (k : Int) < (L : Int) + 9 := by omega
      have hkz : k < zs.length + 9 := by have := HH.out.2.2.2; omega
      have zq := hBk.frozen k
      have hBn : Blk (wr.setCell ⟨B, k, none⟩ (.int .i64 (-78))) B (ivs (overI zs (k + 1))) 3 := by
        rw [← overI_set zs k hkz, ivs_set']
        exact hBk.setCell k _
      have hks : IntKind.i64.wrap ((k : Int) + 1) = ((k + 1 : Nat) : Int) := by rw [IntKind.wrap_i64]; omega
      by_cases hkL : k < L
      · have hkL' : (k : Int) < L := by omega
        have hkz2 : k < zs.length := by have := HH.out.2.2.2; omega
        rcases HH.out.2.1 with h | ⟨ga, oa, ha, hc⟩
        · rw [h] at hkz2; simp at hkz2
        have hga : ¬ ga = B := HH.out.2.2.1 _ ha (by intro e; rw [e] at hkz2; simp at hkz2)
        have cl := cell_kept (hc k hkz2) hKk hga
        have hv : (ivs (overI zs k))[k]? = some (.int .i64 (zs[k]'hkz2)) := by
          rw [overI_get zs k hkz]
          simp only [ivs, List.map_append]
          rw [List.getElem?_append_left (by simpa using hkz2)]
          simp [hkz2]
        have cq := hBk.cell hv
        obtain ⟨Z, hZ⟩ : ∃ Z : Int, Z = (zs[k]'hkz2) := ⟨_, rfl⟩
        rw [← hZ] at cl cq
        have HN : Hid (Blk (wr.setCell ⟨B, k, none⟩ (.int .i64 (-78))) B (ivs (overI zs (k + 1))) 3 ∧ Keeps (· = B) w (wr.setCell ⟨B, k, none⟩ (.int .i64 (-78)))) := ⟨hBn, hKk.setCell _ _ fun _ => rfl⟩
        have HN2 : Hid (∀ n, Blk ((wr.drewN n).setCell ⟨B, k, none⟩ (.int .i64 (-78))) B (ivs (overI zs (k + 1))) 3 ∧ Keeps (· = B) w ((wr.drewN n).setCell ⟨B, k, none⟩ (.int .i64 (-78)))) := fun n => by
          refine ⟨?_, (hKk.drewN n).setCell _ _ fun _ => rfl⟩
          rw [← overI_set zs k hkz, ivs_set']
          exact (hBk.drewN n).setCell k _
        subst ha
        clear hBk hKk hBn hc hv hZ
        go_wp2_with fail
        go_quiet (fail)
        go_wp2
        go_roundw
        case rel => exact ⟨k + 1, by omega, rfl, by go_num, HN2.out _⟩
        case measure => simp [intOf]; omega
      · have hkL' : ¬ (k : Int) < L := by omega
        have hkz2 : zs.length ≤ k := by have := HH.out.2.2.2; omega
        have hv : (ivs (overI zs k))[k]? = some (.int .i64 (-77)) := by
          rw [overI_get zs k hkz]
          simp only [ivs, List.map_append]
          rw [List.getElem?_append_right (by simpa using hkz2)]
          simp only [marksI, Nat.sub_self, List.replicate_zero, List.append_nil, List.map_replicate, List.length_map, List.getElem?_replicate]
          rw [if_pos (by omega)]
        have cq := hBk.cell hv
        have HN : Hid (Blk (wr.setCell ⟨B, k, none⟩ (.int .i64 (-78))) B (ivs (overI zs (k + 1))) 3 ∧ Keeps (· = B) w (wr.setCell ⟨B, k, none⟩ (.int .i64 (-78)))) := ⟨hBn, hKk.setCell _ _ fun _ => rfl⟩
        clear hBk hKk hBn hv
        go_wp2
        go_roundw
        case rel => exact ⟨k + 1, by omega, rfl, by go_num, HN.out⟩
        case measure => simp [intOf]; omega
    · have hk' : ¬ (k : Int) < (L : Int) + 9 := by omega
      clear hBk hKk
      go_wp2
      go_ret
      exact ⟨rfl, HR.out.2⟩

def marksW (j : Nat) : List UInt32 := List.replicate j (2004318071) ++ List.replicate (9 - j) 0
theorem marksW_length (j : Nat) (h : j ≤ 9) : (marksW j).length = 9 := by simp [marksW]; omega
theorem marksW_set (ts : List UInt32) (j : Nat) (h : j < 9) : (ts ++ marksW j).set (ts.length + j) (2004318071) = ts ++ marksW (j + 1) := by
  rw [List.set_append_right _ _ (by omega), Nat.add_sub_cancel_left]
  congr 1
  unfold marksW
  rw [List.set_append_right _ _ (by simp), List.length_replicate, Nat.sub_self]
  obtain ⟨d, hd⟩ : ∃ d, 9 - j = d + 1 := ⟨9 - j - 1, by omega⟩
  rw [hd, show 9 - (j + 1) = d by omega, List.replicate_succ, List.set_cons_zero, List.replicate_succ']
  simp
theorem wvs_set' (ts : List UInt32) (i : Nat) (z : UInt32) : wvs (ts.set i z) = (wvs ts).set i (.int .u32 (z.toNat : Int)) := by simp [wvs, List.map_set]

set_option maxRecDepth 20000 in
set_option maxHeartbeats 2000000 in
theorem lentW (a : Option Addr) (c : Nat) (zs : List UInt32) (w : World) (hx : SegW w a zs) (hl : zs.length ≤ 4294967000) :
    Calls Try.prog 41 #[.slice a zs.length c] w fun e w' => e = .returned (.slice (some ⟨w.heap.size, 0, none⟩) zs.length (zs.length + 9)) ∧ Blk w' w.heap.size (wvs (zs ++ marksW 9)) 26 ∧ Keeps (fun _ => False) w w' := by
  have m1 := run_make_words (w := w) (zs.length + 9) (by omega)
  obtain ⟨w2, hw2⟩ : ∃ w2, w2 = w.alloc (.cells (wvs (List.replicate (zs.length + 9) 0)).toArray 26) := ⟨_, rfl⟩
  rw [← hw2] at m1
  have k2 : Keeps (fun _ => False) w w2 := by rw [hw2]; exact (Keeps.refl _ w).alloc _
  have b2 : Blk w2 w.heap.size (wvs (List.replicate (zs.length + 9) 0)) 26 := by rw [hw2]; exact Blk.new w _ 26
  have cp1 := fun ty => run_copy_big (w := w2) 28 ty 26 1 (by omega) w.heap.size (zs.length + 9) (zs.length + 9) a zs.length c (wvs (List.replicate (zs.length + 9) 0)) 26 (wvs zs) Try.underlying28 Try.size26 b2 (by rw [wvs_length]; omega) (by omega)
    (segW_cells (hx.kept k2 fun _ _ e => e)) (by rw [wvs_length, wvs_length]; simp) (wvs_one zs)
  have e1 : wvs zs ++ (wvs (List.replicate (zs.length + 9) 0)).drop (wvs zs).length = wvs (zs ++ marksW 0) := by
    rw [wvs_length]
    simp [wvs, marksW]
  rw [e1] at cp1
  obtain ⟨w3, hw3⟩ : ∃ w3, w3 = w2.setRow w.heap.size (wvs (zs ++ marksW 0)).toArray := ⟨_, rfl⟩
  rw [← hw3] at cp1
  have b3 : Blk w3 w.heap.size (wvs (zs ++ marksW 0)) 26 := by rw [hw3]; exact b2.setRow _
  have k3 : Keeps (fun _ => False) w w3 := by rw [hw3]; exact k2.setRow _ _ (fun h => by omega)
  obtain ⟨L, hL⟩ : ∃ L, L = zs.length := ⟨_, rfl⟩
  obtain ⟨B, hB⟩ : ∃ B, B = w.heap.size := ⟨_, rfl⟩
  rw [← hL] at m1 cp1 ⊢
  rw [← hB] at m1 cp1 b3 ⊢
  have e9 : ((L + 9 : Nat) : Int) = (L : Int) + 9 := by omega
  rw [e9] at m1
  have M1 : Hid (_ = _) := m1
  have C1 : Hid (∀ ty, _) := cp1
  have HH : Hid (Blk w3 B (wvs (zs ++ marksW 0)) 26 ∧ Keeps (fun _ => False) w w3 ∧ L = zs.length ∧ B = w.heap.size) := ⟨b3, k3, hL, hB⟩
  have hLb : (L : Int) ≤ 4294967000 := by omega
  have hw9 : IntKind.i64.wrap ((L : Int) + 9) = (L : Int) + 9 := by rw [IntKind.wrap_i64]; omega
  clear m1 cp1 hw2 k2 b2 hw3 b3 k3 e1 hL hB e9 hx hl
  go_enter Try.func41, Try.ntmps41
  go_wp2_with (at_make; refine wpList_make_run rfl (.tmp 7) (.tmp 7) 28 rfl (.int .i64 ((L : Int) + 9)) (.int .i64 ((L : Int) + 9)) (.slice (some ⟨B, 0, none⟩) (L + 9) (L + 9)) w2 rfl rfl M1.out ?_; refine Hid.out ?_)
  unfold Hid
  go_wp2_with (refine isCopy (.tmp 9) (.tmp 10) 28 28 rfl ?_; go_must (refine wpList_copy_run rfl (.tmp 9) (.tmp 10) 28 28 rfl (.slice (some ⟨B, 0, none⟩) (L + 9) (L + 9)) (.slice a L c) (goInt L) w3 rfl rfl C1.out ?_))
  go_loopw [4] (fun i wr => ∃ k : Nat, k ≤ 9 ∧ i = .int .i64 ((L + k : Nat) : Int) ∧ Blk wr B (wvs (zs ++ marksW k)) 26 ∧ Keeps (fun _ => False) w wr) (fun i _ => L + 9 - (intOf i).toNat)
  case atStart => exact ⟨0, by omega, rfl, HH.out.1, HH.out.2.1⟩
  case round =>
    obtain ⟨k, hk, rfl, hBk, hKk⟩ := hrel
    obtain ⟨q, hq⟩ : ∃ q, q = L + k := ⟨_, rfl⟩
    rw [← hq]
    by_cases hlt : k < 9
    · have hq' : (q : Int) < (L : Int) + 9 := by omega
      have hql : q < (wvs (zs ++ marksW k)).length := by rw [wvs_length, List.length_append, marksW_length k hk, ← HH.out.2.2.1]; omega
      obtain ⟨vq, hvq⟩ : ∃ vq, (wvs (zs ++ marksW k))[q]? = some vq := ⟨_, List.getElem?_eq_getElem hql⟩
      have cq := hBk.cell hvq
      have zq := hBk.frozen q
      have HB2 : Hid (Blk (wr.setCell ⟨B, q, none⟩ (.int .u32 2004318071)) B (wvs (zs ++ marksW (k + 1))) 26 ∧ Keeps (fun _ => False) w (wr.setCell ⟨B, q, none⟩ (.int .u32 2004318071)) ∧ q = L + k) := by
        refine ⟨?_, hKk.setCell _ _ (fun h => by have := HH.out.2.2.2; simp only at h; omega), hq⟩
        rw [← marksW_set zs k hlt, wvs_set', ← HH.out.2.2.1, ← hq]
        exact hBk.setCell q _
      have hqs : IntKind.i64.wrap ((q : Int) + 1) = ((q + 1 : Nat) : Int) := by rw [IntKind.wrap_i64]; omega
      clear hBk hKk hql hq hvq
      go_wp2
      go_roundw
      case rel => exact ⟨k + 1, by omega, by have := HB2.out.2.2; subst this; go_num, HB2.out.1, HB2.out.2.1⟩
      case measure => have := HB2.out.2.2; simp [intOf]; omega
    · obtain rfl : k = 9 := by omega
      have hq' : ¬ (q : Int) < (L : Int) + 9 := by omega
      have HB2 : Hid (Blk wr B (wvs (zs ++ marksW 9)) 26 ∧ Keeps (fun _ => False) w wr) := ⟨hBk, hKk⟩
      clear hBk hKk hq
      go_wp2
      go_ret
      exact ⟨rfl, HB2.out⟩

/-- Half written over. -/
def overW (zs : List UInt32) (k : Nat) : List UInt32 := List.replicate k (2021161080) ++ (zs ++ marksW 9).drop k
theorem overW_get (zs : List UInt32) (k : Nat) (hk : k < zs.length + 9) : (wvs (overW zs k))[k]? = (wvs (zs ++ marksW 9))[k]? := by
  unfold overW
  simp only [wvs, List.map_append, List.map_replicate]
  rw [List.getElem?_append_right (by simp)]
  simp
theorem overW_set (zs : List UInt32) (k : Nat) (hk : k < zs.length + 9) : (overW zs k).set k (2021161080) = overW zs (k + 1) := by
  unfold overW
  have hl : k < (zs ++ marksW 9).length := by rw [List.length_append, marksW_length 9 (by omega)]; exact hk
  rw [List.set_append_right _ _ (by simp), List.length_replicate, Nat.sub_self, List.drop_eq_getElem_cons hl, List.set_cons_zero, List.replicate_succ']
  simp

set_option maxRecDepth 20000 in
set_option maxHeartbeats 2000000 in
theorem backW (B : Nat) (a : Option Addr) (c : Nat) (zs : List UInt32) (w : World) (hB : Blk w B (wvs (zs ++ marksW 9)) 26) (hx : SegW w a zs) (hne : ∀ x, a = some x → zs ≠ [] → x.block ≠ B) (hl : zs.length ≤ 4294967000) :
    Calls Try.prog 45 #[.slice (some ⟨B, 0, none⟩) zs.length (zs.length + 9), .slice a zs.length c] w fun e w' => e = .returned (.bool true) ∧ Keeps (· = B) w w' := by
  obtain ⟨L, hL⟩ : ∃ L, L = zs.length := ⟨_, rfl⟩
  have HH : Hid (Blk w B (wvs (zs ++ marksW 9)) 26 ∧ SegW w a zs ∧ (∀ x, a = some x → zs ≠ [] → x.block ≠ B) ∧ L = zs.length) := ⟨hB, hx, hne, hL⟩
  rw [← hL] at hl ⊢
  have hLb : (L : Int) ≤ 4294967000 := by omega
  have hw9 : IntKind.i64.wrap ((L : Int) + 9) = (L : Int) + 9 := by rw [IntKind.wrap_i64]; omega
  clear hB hx hne hL hl
  go_enter Try.func45, Try.ntmps45
  go_wp2_with fail
  go_loopw [6, 7] (fun ok i wr => ∃ k : Nat, k ≤ L + 9 ∧ ok = .bool true ∧ i = .int .i64 (k : Int) ∧ Blk wr B (wvs (overW zs k)) 26 ∧ Keeps (· = B) w wr) (fun _ i _ => L + 9 - (intOf i).toNat)
  case atStart => exact ⟨0, by omega, rfl, rfl, by unfold overW; simpa using HH.out.1, Keeps.refl _ _⟩
  case round =>
    obtain ⟨k, hk, rfl, rfl, hBk, hKk⟩ := hrel
    have HR : Hid (Blk wr B (wvs (overW zs k)) 26 ∧ Keeps (· = B) w wr) := ⟨hBk, hKk⟩
    by_cases hlt : k < L + 9
    · have hk' : (k : Int) < (L : Int) + 9 := by omega
      have hkz : k < zs.length + 9 := by have := HH.out.2.2.2; omega
      have zq := hBk.frozen k
      have hBn : Blk (wr.setCell ⟨B, k, none⟩ (.int .u32 2021161080)) B (wvs (overW zs (k + 1))) 26 := by
        rw [← overW_set zs k hkz, wvs_set']
        exact hBk.setCell k _
      have hks : IntKind.i64.wrap ((k : Int) + 1) = ((k + 1 : Nat) : Int) := by rw [IntKind.wrap_i64]; omega
      by_cases hkL : k < L
      · have hkL' : (k : Int) < L := by omega
        have hkz2 : k < zs.length := by have := HH.out.2.2.2; omega
        rcases HH.out.2.1 with h | ⟨ga, oa, ha, hc⟩
        · rw [h] at hkz2; simp at hkz2
        have hga : ¬ ga = B := HH.out.2.2.1 _ ha (by intro e; rw [e] at hkz2; simp at hkz2)
        have cl := cell_kept (hc k hkz2) hKk hga
        have hv : (wvs (overW zs k))[k]? = some (.int .u32 ((zs[k]'hkz2).toNat : Int)) := by
          rw [overW_get zs k hkz]
          simp only [wvs, List.map_append]
          rw [List.getElem?_append_left (by simpa using hkz2)]
          simp [hkz2]
        have cq := hBk.cell hv
        obtain ⟨Z, hZ⟩ : ∃ Z : Nat, Z = ((zs[k]'hkz2).toNat) := ⟨_, rfl⟩
        rw [← hZ] at cl cq
        have HN : Hid (Blk (wr.setCell ⟨B, k, none⟩ (.int .u32 2021161080)) B (wvs (overW zs (k + 1))) 26 ∧ Keeps (· = B) w (wr.setCell ⟨B, k, none⟩ (.int .u32 2021161080))) := ⟨hBn, hKk.setCell _ _ fun _ => rfl⟩
        have HN2 : Hid (∀ n, Blk ((wr.drewN n).setCell ⟨B, k, none⟩ (.int .u32 2021161080)) B (wvs (overW zs (k + 1))) 26 ∧ Keeps (· = B) w ((wr.drewN n).setCell ⟨B, k, none⟩ (.int .u32 2021161080))) := fun n => by
          refine ⟨?_, (hKk.drewN n).setCell _ _ fun _ => rfl⟩
          rw [← overW_set zs k hkz, wvs_set']
          exact (hBk.drewN n).setCell k _
        subst ha
        clear hBk hKk hBn hc hv hZ
        go_wp2_with fail
        go_quiet (fail)
        go_wp2
        go_roundw
        case rel => exact ⟨k + 1, by omega, rfl, by go_num, HN2.out _⟩
        case measure => simp [intOf]; omega
      · have hkL' : ¬ (k : Int) < L := by omega
        have hkz2 : zs.length ≤ k := by have := HH.out.2.2.2; omega
        have hv : (wvs (overW zs k))[k]? = some (.int .u32 2004318071) := by
          rw [overW_get zs k hkz]
          simp only [wvs, List.map_append]
          rw [List.getElem?_append_right (by simpa using hkz2)]
          simp only [marksW, Nat.sub_self, List.replicate_zero, List.append_nil, List.map_replicate, List.length_map, List.getElem?_replicate]
          rw [if_pos (by omega)]; rfl
        have cq := hBk.cell hv
        have HN : Hid (Blk (wr.setCell ⟨B, k, none⟩ (.int .u32 2021161080)) B (wvs (overW zs (k + 1))) 26 ∧ Keeps (· = B) w (wr.setCell ⟨B, k, none⟩ (.int .u32 2021161080))) := ⟨hBn, hKk.setCell _ _ fun _ => rfl⟩
        clear hBk hKk hBn hv
        go_wp2
        go_roundw
        case rel => exact ⟨k + 1, by omega, rfl, by go_num, HN.out⟩
        case measure => simp [intOf]; omega
    · have hk' : ¬ (k : Int) < (L : Int) + 9 := by omega
      clear hBk hKk
      go_wp2
      go_ret
      exact ⟨rfl, HR.out.2⟩

end Go.Proofs.Ytadhldpeklkcmaa
