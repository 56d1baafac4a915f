import Derived.Test.YtekijhhpldnmnaaX
namespace Go.Proofs.Ytekijhhpldnmnaa
open Go.RowKit
set_option linter.unusedVariables false

theorem cell_kept {S : Nat → Prop} {w w' : World} {b i : Nat} {v : Value} (h : w.cell? ⟨b, i, none⟩ = some v) (hK : Keeps S w w') (hn : ¬ S b) : w'.cell? ⟨b, i, none⟩ = some v := by
  have hlt : b < w.heap.size := World.block_lt_of_cell? w ⟨b, i, none⟩ h
  rw [World.cell?_of_block (w := w) (hK.block b hlt hn)]
  exact h

def markI (i : Nat) : Int := -5000 - (i : Int)
theorem Try.info3 : (Try.prog.info? 3).map (fun i => (i.zero, i.size, i.bytes)) = some (some (.int .i64 0), 1, 8) := by kernel_rfl

/-- The cells of N things. -/
def fI (N : Nat) (f : Nat → Int) : List Value := (List.range N).map fun i => .int .i64 (f i)
theorem fI_get {N : Nat} (f : Nat → Int) {i : Nat} (h : i < N) : (fI N f)[i]? = some (.int .i64 (f i)) := by
  unfold fI
  rw [List.getElem?_map, List.getElem?_range h]
  rfl
theorem fI_length (N : Nat) (f : Nat → Int) : (fI N f).length = N := by simp [fI]
theorem fI_set {N : Nat} (f : Nat → Int) (m : Nat) (x : Int) : (fI N f).set m (.int .i64 (x)) = fI N (fun i => if i = m then x else f i) := by
  apply List.ext_getElem?
  intro i
  rw [List.getElem?_set]
  by_cases hi : i < N
  · rw [fI_get _ hi, fI_get _ hi]
    by_cases e : m = i
    · subst e
      simp [fI_length, hi]
    · have e2 : ¬ i = m := fun h => e h.symm
      simp [e, e2]
  · have h1 : (fI N f)[i]? = none := by rw [List.getElem?_eq_none_iff, fI_length]; omega
    have h2 : (fI N (fun i => if i = m then x else f i))[i]? = none := by rw [List.getElem?_eq_none_iff, fI_length]; omega
    rw [h1, h2]
    by_cases e : m = i
    · subst e; simp [fI_length, hi]
    · simp [e]
theorem fI_congr {N : Nat} {f g : Nat → Int} (h : ∀ i, i < N → f i = g i) : fI N f = fI N g := by
  unfold fI
  refine List.map_congr_left fun i hi => ?_
  rw [h i (by simpa using hi)]

/-- What a handed list has in its places and behind them. -/
def spareI (ks : List Int) (i : Nat) : Int := (ks[i]?).getD (markI i)

theorem makeI (w : World) (N : Nat) (hN : N ≤ 3000000000) : (Instr.makeSlice 33 (.int .i64 N) (.int .i64 N)).run Try.prog w = .ok (.slice (some ⟨w.heap.size, 0, none⟩) N N) (w.alloc (.cells (fI N (fun _ => 0)).toArray 3)) := by
  obtain ⟨i0, hi, hz0, hz1, hz2⟩ := info_parts Try.info3
  have h := run_make (P := Try.prog) w 33 3 i0 _ Try.underlying33 hi hz0 .i64 .i64 N N (by omega) (by omega) (by rw [hz2]; omega) (by omega)
  rw [hz1, Nat.mul_one, Int.toNat_natCast] at h
  have e : madeCells (Value.int .i64 0).cells N = (fI N (fun _ => 0)).toArray := by
    apply Array.ext'
    apply List.ext_getElem?
    intro i
    have hm : i % 1 = 0 := by omega
    by_cases hi : i < N
    · simp [madeCells, fI, hi, Value.cells, hm]
    · simp [madeCells, fI, hi]
  rw [e] at h
  exact h


set_option maxHeartbeats 2000000 in
theorem handI_any (a : Option Addr) (n c : Nat) (ks : List Int) (w : World) (hs : SegI w a ks) (hn : n = ks.length) (hl : n ≤ 2147483647) :
    Calls Try.prog 31 #[.slice a n c] w fun e w' => e = .returned (.slice (some ⟨w.heap.size, 0, none⟩) n (n + 70)) ∧ Blk w' w.heap.size (fI (n + 70) (spareI ks)) 3 ∧ Keeps (fun _ => False) w w' := by
  obtain ⟨N, hN⟩ : ∃ N, N = n + 70 := ⟨_, rfl⟩
  obtain ⟨W1, hW1⟩ : ∃ W1, W1 = w.alloc (.cells (fI N (fun _ => 0)).toArray 3) := ⟨_, rfl⟩
  have HM : Hid ((Instr.makeSlice 33 (.int .i64 N) (.int .i64 N)).run Try.prog w = .ok (.slice (some ⟨w.heap.size, 0, none⟩) N N) W1) := by
    have := makeI w N (by omega)
    rw [hW1]; exact this
  have hB : Blk W1 w.heap.size (fI N (fun _ => 0)) 3 := by rw [hW1]; exact Blk.new w _ 3
  have hK : Keeps (fun _ => False) w W1 := by rw [hW1]; exact (Keeps.refl _ w).alloc _
  have hnN : (n : Int) + 70 = (N : Int) := by omega
  have hwN : IntKind.i64.wrap ((n : Int) + 70) = (N : Int) := by rw [IntKind.wrap_i64]; omega
  obtain ⟨B, hBB⟩ : ∃ B, B = w.heap.size := ⟨_, rfl⟩
  rw [← hN, ← hBB]
  rw [← hBB] at hB HM
  have HB : Hid (Blk W1 B (fI N (fun _ => 0)) 3 ∧ Keeps (fun _ => False) w W1 ∧ SegI w a ks ∧ n = ks.length ∧ N = n + 70 ∧ B = w.heap.size ∧ N ≤ 2147483717) := ⟨hB, hK, hs, hn, hN, hBB, by omega⟩
  have hN2 : (N : Int) ≤ 9000000000000000000 := by omega
  have hnle : (n : Int) ≤ N := by omega
  clear hB hK hs hn hN hBB hW1 hl
  go_enter Try.func31, Try.ntmps31
  go_wp2_with (at_make; refine wpList_make_run rfl _ _ 33 rfl (.int .i64 N) (.int .i64 N) (.slice (some ⟨B, 0, none⟩) N N) W1 rfl rfl HM.out ?_; refine Hid.out ?_)
  unfold Hid
  clear HM hwN
  go_wp2
  go_loopw [4] (fun i wr => ∃ m : Nat, m ≤ N ∧ i = .int .i64 m ∧ Keeps (fun _ => False) w wr ∧ Blk wr B (fI N (fun i => if i < m then markI i else 0)) 3) (fun i _ => N - (intOf i).toNat)
  case atStart => exact ⟨0, by omega, rfl, HB.out.2.1, by simpa using HB.out.1⟩
  case round =>
    obtain ⟨m, hm, rfl, hK, hB⟩ := hrel
    by_cases hlt : m < N
    · have hmz : (m : Int) < N := by omega
      have cu := hB.cell (fI_get _ hlt)
      have fu := hB.frozen m
      have HR : Hid (Keeps (fun _ => False) w (wr.setCell ⟨B, m, none⟩ (.int .i64 (markI m))) ∧ Blk (wr.setCell ⟨B, m, none⟩ (.int .i64 (markI m))) B (fI N (fun i => if i < m + 1 then markI i else 0)) 3 ∧ m < N) := by
        refine ⟨hK.setCell _ _ fun h => by have := HB.out.2.2.2.2.2.1; simp at h; omega, ?_, hlt⟩
        have h1 := hB.setCell m (.int .i64 (markI m))
        rw [fI_set] at h1
        rw [fI_congr (f := fun i => if i < m + 1 then markI i else 0) fun i hi => ?_]
        · exact h1
        · by_cases e : i = m
          · subst e; simp
          · by_cases e2 : i < m
            · have : i < m + 1 := by omega
              simp [e, e2, this]
            · have : ¬ i < m + 1 := by omega
              simp [e, e2, this]
      have hw : IntKind.i64.wrap (-5000 - (m : Int)) = -5000 - (m : Int) := by rw [IntKind.wrap_i64]; have := HB.out.2.2.2.2.2.2; omega
      have em : markI m = -5000 - (m : Int) := rfl
      rw [em] at HR
      clear hB hK hm hlt
      go_wp2
      go_roundw
      case rel => exact ⟨m + 1, by have := HR.out.2.2; omega, by go_num, HR.out.1, HR.out.2.1⟩
      case measure => have := HR.out.2.2; simp [intOf]; omega
    · obtain rfl : m = N := by omega
      have HR : Hid (Keeps (fun _ => False) w wr ∧ Blk wr B (fI m (fun i => markI i)) 3) := by
        refine ⟨hK, ?_⟩
        rw [fI_congr (g := fun i => if i < m then markI i else 0) fun i hi => by simp [hi]]
        exact hB
      clear hB hK hm hlt
      go_wp2
      go_loopw [5] (fun i wr => ∃ j : Nat, j ≤ n ∧ i = .int .i64 j ∧ Keeps (fun _ => False) w wr ∧ Blk wr B (fI m (fun i => if i < j then spareI ks i else markI i)) 3) (fun i _ => n - (intOf i).toNat)
      case atStart => exact ⟨0, by omega, rfl, HR.out.1, by simpa using HR.out.2⟩
      case round =>
        obtain ⟨j, hj, rfl, hK, hB⟩ := hrel
        by_cases hlt : j < n
        · obtain ⟨g1, g2, g3, g4, g5, g6, g7⟩ := HB.out
          have hju : j < ks.length := by omega
          rcases g3 with h0 | ⟨b, o, rfl, hcell⟩
          · exact absurd hju (by rw [h0]; simp)
          · have hjz : (j : Int) < n := by omega
            have hjm : (j : Int) < m := by omega
            have cx := cell_kept (hcell j hju) hK fun h => h
            have cu := hB.cell (fI_get _ (show j < m by omega))
            have fu := hB.frozen j
            obtain ⟨x, hxx⟩ : ∃ x, x = ks[j]'hju := ⟨_, rfl⟩
            rw [← hxx] at cx
            have HR2 : Hid (Keeps (fun _ => False) w (wr.setCell ⟨B, j, none⟩ (.int .i64 (x))) ∧ Blk (wr.setCell ⟨B, j, none⟩ (.int .i64 (x))) B (fI m (fun i => if i < j + 1 then spareI ks i else markI i)) 3 ∧ j < n) := by
              refine ⟨hK.setCell _ _ fun h => by simp at h; omega, ?_, hlt⟩
              have h1 := hB.setCell j (.int .i64 (x))
              rw [fI_set] at h1
              rw [fI_congr (f := fun i => if i < j + 1 then spareI ks i else markI i) fun i hi => ?_]
              · exact h1
              · by_cases e : i = j
                · subst e; simp [spareI, hju, hxx]
                · by_cases e2 : i < j
                  · have : i < j + 1 := by omega
                    simp [e, e2, this]
                  · have : ¬ i < j + 1 := by omega
                    simp [e, e2, this]
            clear hB hK hj hlt hcell hju hxx g1 g2 g4 g5 g6 g7 HR
            go_wp2
            go_roundw
            case rel => exact ⟨j + 1, by have := HR2.out.2.2; omega, by go_num, HR2.out.1, HR2.out.2.1⟩
            case measure => have := HR2.out.2.2; simp [intOf]; omega
        · obtain rfl : j = n := by omega
          have HR2 : Hid (Blk wr B (fI m (spareI ks)) 3 ∧ Keeps (fun _ => False) w wr) := by
            refine ⟨?_, hK⟩
            rw [fI_congr (g := fun i => if i < j then spareI ks i else markI i) fun i hi => ?_]
            · exact hB
            · by_cases e : i < j
              · simp [e]
              · have h1 : ks[i]? = none := by rw [List.getElem?_eq_none_iff]; have := HB.out.2.2.2.1; omega
                simp [e, spareI, h1]
          clear hB hK hj hlt HR
          go_wp2
          go_ret
          exact ⟨rfl, HR2.out⟩

set_option maxHeartbeats 2000000 in
theorem keptI_any (B : Nat) (a : Option Addr) (n c : Nat) (ks : List Int) (w : World) (hB : Blk w B (fI (n + 70) (spareI ks)) 3) (hs : SegI w a ks) (hn : n = ks.length) (hl : n ≤ 2147483647) :
    Calls Try.prog 33 #[.slice (some ⟨B, 0, none⟩) n (n + 70), .slice a n c] w fun e w' => e = .returned (.bool true) ∧ w' = w := by
  obtain ⟨N, hN⟩ : ∃ N, N = n + 70 := ⟨_, rfl⟩
  have hwN : IntKind.i64.wrap ((n : Int) + 70) = (N : Int) := by rw [IntKind.wrap_i64]; omega
  have hN2 : (N : Int) ≤ 9000000000000000000 := by omega
  have hnN : (n : Int) ≤ N := by omega
  have hnz : (n : Int) + 70 = N := by omega
  rw [← hN] at hB ⊢
  have HB : Hid (Blk w B (fI N (spareI ks)) 3 ∧ SegI w a ks ∧ n = ks.length ∧ N ≤ 2147483717) := ⟨hB, hs, hn, by omega⟩
  clear hB hs hn hN hl
  go_enter Try.func33, Try.ntmps33
  go_wp2
  go_loopw [6] (fun i wr => ∃ m : Nat, m ≤ N ∧ i = .int .i64 m ∧ wr = w) (fun i _ => N - (intOf i).toNat)
  case atStart => exact ⟨0, by omega, rfl, rfl⟩
  case round =>
    obtain ⟨m, hm, rfl, rfl⟩ := hrel
    by_cases hlt : m < N
    · obtain ⟨g1, g2, g3, g4⟩ := HB.out
      have hmz : (m : Int) < N := by omega
      have cu := g1.cell (fI_get _ hlt)
      have hw : IntKind.i64.wrap (-5000 - (m : Int)) = -5000 - (m : Int) := by rw [IntKind.wrap_i64]; omega
      have em : markI m = -5000 - (m : Int) := rfl
      have HM : Hid (m < N) := hlt
      by_cases hmn : m < n
      · have hmu : m < ks.length := by omega
        rcases g2 with h0 | ⟨b, o, rfl, hcell⟩
        · exact absurd hmu (by rw [h0]; simp)
        · have cx := hcell m hmu
          have e1 : spareI ks m = ks[m]'hmu := by simp [spareI, hmu]
          rw [e1] at cu
          obtain ⟨x, hxx⟩ : ∃ x, x = ks[m]'hmu := ⟨_, rfl⟩
          rw [← hxx] at cu cx
          have hmz2 : (m : Int) < n := by omega
          clear g1 g3 g4 hcell hxx e1 hmu hmn hlt hm
          go_wp2
          go_roundw
          case rel => exact ⟨m + 1, by have := HM.out; omega, by go_num, trivial⟩
          case measure => have := HM.out; simp [intOf]; omega
      · have e1 : spareI ks m = markI m := by
          have h1 : ks[m]? = none := by rw [List.getElem?_eq_none_iff]; omega
          simp [spareI, h1]
        rw [e1] at cu
        have hmz2 : ¬ ((m : Int) < n) := by omega
        clear g1 g2 g3 g4 e1 hmn hlt hm
        rw [em] at cu
        go_wp2
        go_roundw
        case rel => exact ⟨m + 1, by have := HM.out; omega, by go_num, trivial⟩
        case measure => have := HM.out; simp [intOf]; omega
    · obtain rfl : m = N := by omega
      go_wp2
      go_ret
      exact ⟨rfl, rfl⟩

end Go.Proofs.Ytekijhhpldnmnaa
