import Derived.Test.YtohojpacijnnaaaDoorZ
namespace Go.Proofs.YtohojpacijnnaaaDoor
open Go.RowKit
set_option linter.unusedVariables false

set_option maxHeartbeats 2000000 in
set_option maxHeartbeats 2000000 in
theorem markWBig (i : Nat) (w : World) (hi : i ≤ 35184372088000) : Calls Tryd.prog 9 #[.int .i64 i] w fun e w' => e = .returned (.int .u32 ((markW i).toNat : Int)) ∧ w' = w := by
  have e : ((markW i).toNat : Int) = (2768240640 + ((i : Int) % 4294967296 * 7) % 4294967296) % 4294967296 := by
    unfold markW
    rw [UInt32.toNat_add, UInt32.toNat_mul, UInt32.toNat_ofNat']
    have h1 : (2768240640 : UInt32).toNat = 2768240640 := rfl
    have h2 : (7 : UInt32).toNat = 7 := rfl
    rw [h1, h2]
    omega
  rw [e]
  have HI : Hid (i ≤ 35184372088000) := hi
  clear hi e
  go_enter Tryd.func9, Tryd.ntmps9
  go_wp2
  go_ret
  refine ⟨ret_int ?_, rfl⟩
  first | rfl | (simp only [IntKind.wrap_u32]; omega) | (have := HI.out; omega)

theorem makeWBig (w : World) (N : Nat) (hN : N ≤ 35184372088000) : (Instr.makeSlice 22 (.int .i64 N) (.int .i64 N)).run Tryd.prog w = .ok (.slice (some ⟨w.heap.size, 0, none⟩) N N) (w.alloc (.cells (fW N (fun _ => 0)).toArray 26)) := by
  obtain ⟨i0, hi, hz0, hz1, hz2⟩ := info_parts Tryd.info26
  have h := run_make (P := Tryd.prog) w 22 26 i0 _ Tryd.underlying22 hi hz0 .i64 .i64 N N (by omega) (by omega) (by rw [hz2]; omega) (by omega)
  rw [hz1, Nat.mul_one, Int.toNat_natCast] at h
  have e : madeCells (Value.int .u32 0).cells N = (fW N (fun _ => 0)).toArray := by
    apply Array.ext'
    apply List.ext_getElem?
    intro i
    have hm : i % 1 = 0 := by omega
    by_cases hi : i < N
    · simp [madeCells, fW, hi, Value.cells, hm]
    · simp [madeCells, fW, hi]
  rw [e] at h
  exact h


set_option maxHeartbeats 2000000 in
theorem handWBig (a : Option Addr) (n c : Nat) (ks : List UInt32) (w : World) (hs : SegW w a ks) (hn : n = ks.length) (hl : n ≤ 35184372087808) :
    Calls Tryd.prog 4 #[.slice a n c] w fun e w' => e = .returned (.slice (some ⟨w.heap.size, 0, none⟩) n (n + 70)) ∧ Blk w' w.heap.size (fW (n + 70) (spareW ks)) 26 ∧ Keeps (fun _ => False) w w' := by
  obtain ⟨N, hN⟩ : ∃ N, N = n + 70 := ⟨_, rfl⟩
  obtain ⟨W1, hW1⟩ : ∃ W1, W1 = w.alloc (.cells (fW N (fun _ => 0)).toArray 26) := ⟨_, rfl⟩
  have HM : Hid ((Instr.makeSlice 22 (.int .i64 N) (.int .i64 N)).run Tryd.prog w = .ok (.slice (some ⟨w.heap.size, 0, none⟩) N N) W1) := by
    have := makeWBig w N (by omega)
    rw [hW1]; exact this
  have hB : Blk W1 w.heap.size (fW N (fun _ => 0)) 26 := by rw [hW1]; exact Blk.new w _ 26
  have hK : Keeps (fun _ => False) w W1 := by rw [hW1]; exact (Keeps.refl _ w).alloc _
  have hnN : (n : Int) + 70 = (N : Int) := by omega
  have hwN : IntKind.i64.wrap ((n : Int) + 70) = (N : Int) := by rw [IntKind.wrap_i64]; omega
  obtain ⟨B, hBB⟩ : ∃ B, B = w.heap.size := ⟨_, rfl⟩
  rw [← hN, ← hBB]
  rw [← hBB] at hB HM
  have HB : Hid (Blk W1 B (fW N (fun _ => 0)) 26 ∧ Keeps (fun _ => False) w W1 ∧ SegW w a ks ∧ n = ks.length ∧ N = n + 70 ∧ B = w.heap.size ∧ N ≤ 35184372087878) := ⟨hB, hK, hs, hn, hN, hBB, by omega⟩
  have hN2 : (N : Int) ≤ 9000000000000000000 := by omega
  have hnle : (n : Int) ≤ N := by omega
  clear hB hK hs hn hN hBB hW1 hl
  go_enter Tryd.func4, Tryd.ntmps4
  go_wp2_with (at_make; refine wpList_make_run rfl _ _ 22 rfl (.int .i64 N) (.int .i64 N) (.slice (some ⟨B, 0, none⟩) N N) W1 rfl rfl HM.out ?_; refine Hid.out ?_)
  unfold Hid
  clear HM hwN
  go_wp2
  go_loopw [4] (fun i wr => ∃ m : Nat, m ≤ N ∧ i = .int .i64 m ∧ Keeps (fun _ => False) w wr ∧ Blk wr B (fW N (fun i => if i < m then markW i else 0)) 26) (fun i _ => N - (intOf i).toNat)
  case atStart => exact ⟨0, by omega, rfl, HB.out.2.1, by simpa using HB.out.1⟩
  case round =>
    obtain ⟨m, hm, rfl, hK, hB⟩ := hrel
    by_cases hlt : m < N
    · have hmz : (m : Int) < N := by omega
      have cu := hB.cell (fW_get _ hlt)
      have fu := hB.frozen m
      have HR : Hid (Keeps (fun _ => False) w (wr.setCell ⟨B, m, none⟩ (.int .u32 ((markW m).toNat : Int))) ∧ Blk (wr.setCell ⟨B, m, none⟩ (.int .u32 ((markW m).toNat : Int))) B (fW N (fun i => if i < m + 1 then markW i else 0)) 26 ∧ m < N) := by
        refine ⟨hK.setCell _ _ fun h => by have := HB.out.2.2.2.2.2.1; simp at h; omega, ?_, hlt⟩
        have h1 := hB.setCell m (.int .u32 ((markW m).toNat : Int))
        rw [fW_set] at h1
        rw [fW_congr (f := fun i => if i < m + 1 then markW i else 0) fun i hi => ?_]
        · exact h1
        · by_cases e : i = m
          · subst e; simp
          · by_cases e2 : i < m
            · have : i < m + 1 := by omega
              simp [e, e2, this]
            · have : ¬ i < m + 1 := by omega
              simp [e, e2, this]
      have HMk : Hid (Calls _ _ _ _ _) := markWBig m wr (by have := HB.out.2.2.2.2.2.2; omega)
      obtain ⟨mk, hmk⟩ : ∃ mk : Nat, mk = (markW m).toNat := ⟨_, rfl⟩
      rw [← hmk] at HR HMk
      clear hmk
      clear hB hK hm hlt
      go_wp2_with fail
      refine HMk.out.mono ?_
      rintro e w1 ⟨rfl, hw⟩
      obtain rfl := hw.symm
      clear hw HMk
      go_wp2
      go_roundw
      case rel => exact ⟨m + 1, by have := HR.out.2.2; omega, by go_num, HR.out.1, HR.out.2.1⟩
      case measure => have := HR.out.2.2; simp [intOf]; omega
    · obtain rfl : m = N := by omega
      have HR : Hid (Keeps (fun _ => False) w wr ∧ Blk wr B (fW m (fun i => markW i)) 26) := by
        refine ⟨hK, ?_⟩
        rw [fW_congr (g := fun i => if i < m then markW i else 0) fun i hi => by simp [hi]]
        exact hB
      clear hB hK hm hlt
      go_wp2
      go_loopw [5] (fun i wr => ∃ j : Nat, j ≤ n ∧ i = .int .i64 j ∧ Keeps (fun _ => False) w wr ∧ Blk wr B (fW m (fun i => if i < j then spareW ks i else markW i)) 26) (fun i _ => n - (intOf i).toNat)
      case atStart => exact ⟨0, by omega, rfl, HR.out.1, by simpa using HR.out.2⟩
      case round =>
        obtain ⟨j, hj, rfl, hK, hB⟩ := hrel
        by_cases hlt : j < n
        · obtain ⟨g1, g2, g3, g4, g5, g6, g7⟩ := HB.out
          have hju : j < ks.length := by omega
          rcases g3 with h0 | ⟨b, o, rfl, hcell⟩
          · exact absurd hju (by rw [h0]; simp)
          · have hjz : (j : Int) < n := by omega
            have hjm : (j : Int) < m := by omega
            have cx := cell_kept (hcell j hju) hK fun h => h
            have cu := hB.cell (fW_get _ (show j < m by omega))
            have fu := hB.frozen j
            obtain ⟨x, hxx⟩ : ∃ x, x = ks[j]'hju := ⟨_, rfl⟩
            rw [← hxx] at cx
            have HR2 : Hid (Keeps (fun _ => False) w (wr.setCell ⟨B, j, none⟩ (.int .u32 ((x).toNat : Int))) ∧ Blk (wr.setCell ⟨B, j, none⟩ (.int .u32 ((x).toNat : Int))) B (fW m (fun i => if i < j + 1 then spareW ks i else markW i)) 26 ∧ j < n) := by
              refine ⟨hK.setCell _ _ fun h => by simp at h; omega, ?_, hlt⟩
              have h1 := hB.setCell j (.int .u32 ((x).toNat : Int))
              rw [fW_set] at h1
              rw [fW_congr (f := fun i => if i < j + 1 then spareW ks i else markW i) fun i hi => ?_]
              · exact h1
              · by_cases e : i = j
                · subst e; simp [spareW, hju, hxx]
                · by_cases e2 : i < j
                  · have : i < j + 1 := by omega
                    simp [e, e2, this]
                  · have : ¬ i < j + 1 := by omega
                    simp [e, e2, this]
            clear hB hK hj hlt hcell hju hxx g1 g2 g4 g5 g6 g7 HR
            go_wp2
            go_roundw
            case rel => exact ⟨j + 1, by have := HR2.out.2.2; omega, by go_num, HR2.out.1, HR2.out.2.1⟩
            case measure => have := HR2.out.2.2; simp [intOf]; omega
        · obtain rfl : j = n := by omega
          have HR2 : Hid (Blk wr B (fW m (spareW ks)) 26 ∧ Keeps (fun _ => False) w wr) := by
            refine ⟨?_, hK⟩
            rw [fW_congr (g := fun i => if i < j then spareW ks i else markW i) fun i hi => ?_]
            · exact hB
            · by_cases e : i < j
              · simp [e]
              · have h1 : ks[i]? = none := by rw [List.getElem?_eq_none_iff]; have := HB.out.2.2.2.1; omega
                simp [e, spareW, h1]
          clear hB hK hj hlt HR
          go_wp2
          go_ret
          exact ⟨rfl, HR2.out⟩

set_option maxHeartbeats 2000000 in
theorem keptWBig (B : Nat) (a : Option Addr) (n c : Nat) (ks : List UInt32) (w : World) (hB : Blk w B (fW (n + 70) (spareW ks)) 26) (hs : SegW w a ks) (hn : n = ks.length) (hl : n ≤ 35184372087808) :
    Calls Tryd.prog 7 #[.slice (some ⟨B, 0, none⟩) n (n + 70), .slice a n c] w fun e w' => e = .returned (.bool true) ∧ w' = w := by
  obtain ⟨N, hN⟩ : ∃ N, N = n + 70 := ⟨_, rfl⟩
  have hwN : IntKind.i64.wrap ((n : Int) + 70) = (N : Int) := by rw [IntKind.wrap_i64]; omega
  have hN2 : (N : Int) ≤ 9000000000000000000 := by omega
  have hnN : (n : Int) ≤ N := by omega
  have hnz : (n : Int) + 70 = N := by omega
  rw [← hN] at hB ⊢
  have HB : Hid (Blk w B (fW N (spareW ks)) 26 ∧ SegW w a ks ∧ n = ks.length ∧ N ≤ 35184372087878) := ⟨hB, hs, hn, by omega⟩
  clear hB hs hn hN hl
  go_enter Tryd.func7, Tryd.ntmps7
  go_wp2
  go_loopw [6] (fun i wr => ∃ m : Nat, m ≤ N ∧ i = .int .i64 m ∧ wr = w) (fun i _ => N - (intOf i).toNat)
  case atStart => exact ⟨0, by omega, rfl, rfl⟩
  case round =>
    obtain ⟨m, hm, rfl, rfl⟩ := hrel
    by_cases hlt : m < N
    · obtain ⟨g1, g2, g3, g4⟩ := HB.out
      have hmz : (m : Int) < N := by omega
      have cu := g1.cell (fW_get _ hlt)
      have HMk : Hid (Calls _ _ _ _ _) := markWBig m wr (by omega)
      have HM : Hid (m < N) := hlt
      by_cases hmn : m < n
      · have hmu : m < ks.length := by omega
        rcases g2 with h0 | ⟨b, o, rfl, hcell⟩
        · exact absurd hmu (by rw [h0]; simp)
        · have cx := hcell m hmu
          have e1 : spareW ks m = ks[m]'hmu := by simp [spareW, hmu]
          rw [e1] at cu
          obtain ⟨x, hxx⟩ : ∃ x, x = ks[m]'hmu := ⟨_, rfl⟩
          rw [← hxx] at cu cx
          have hmz2 : (m : Int) < n := by omega
          clear g1 g3 g4 hcell hxx e1 hmu hmn hlt hm
          go_wp2_with fail
          refine HMk.out.mono ?_
          rintro e w1 ⟨rfl, hw⟩
          obtain rfl := hw.symm
          clear hw HMk
          go_wp2
          go_roundw
          case rel => exact ⟨m + 1, by have := HM.out; omega, by go_num, trivial⟩
          case measure => have := HM.out; simp [intOf]; omega
      · have e1 : spareW ks m = markW m := by
          have h1 : ks[m]? = none := by rw [List.getElem?_eq_none_iff]; omega
          simp [spareW, h1]
        rw [e1] at cu
        have hmz2 : ¬ ((m : Int) < n) := by omega
        clear g1 g2 g3 g4 e1 hmn hlt hm
        obtain ⟨mk, hmk⟩ : ∃ mk : Nat, mk = (markW m).toNat := ⟨_, rfl⟩
        rw [← hmk] at cu HMk
        clear hmk
        go_wp2_with fail
        refine HMk.out.mono ?_
        rintro e w1 ⟨rfl, hw⟩
        obtain rfl := hw.symm
        clear hw HMk
        go_wp2
        go_roundw
        case rel => exact ⟨m + 1, by have := HM.out; omega, by go_num, trivial⟩
        case measure => have := HM.out; simp [intOf]; omega
    · obtain rfl : m = N := by omega
      go_wp2
      go_ret
      exact ⟨rfl, rfl⟩


end Go.Proofs.YtohojpacijnnaaaDoor
