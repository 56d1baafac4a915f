import Derived.Test.YtjadpbkhfclldaaGreatMg
import Derived.Test.YtjadpbkhfclldaaGreatJGk
import Derived.Test.YtjadpbkhfclldaaGreatJGa
import Derived.Test.YtjadpbkhfclldaaGreatJPx
namespace Go.Proofs.YtjadpbkhfclldaaGreat
open Go.RowKit Gw
set_option linter.unusedVariables false
set_option linter.unusedSimpArgs false
set_option maxRecDepth 8000

theorem ret_intB {k : IntKind} {a b : Int} (h : a = b) : Ending.returned (.int k a) = .returned (.int k b) := by rw [h]
def markK (i : Nat) : UInt8 := UInt8.ofNat (165 + i * 7)
/-- The cells of N things. -/
def fK (N : Nat) (f : Nat → UInt8) : List Value := (List.range N).map fun i => .int .u8 ((f i).toNat : Int)
theorem fK_get {N : Nat} (f : Nat → UInt8) {i : Nat} (h : i < N) : (fK N f)[i]? = some (.int .u8 ((f i).toNat : Int)) := by
  unfold fK
  rw [List.getElem?_map, List.getElem?_range h]
  rfl
theorem fK_length (N : Nat) (f : Nat → UInt8) : (fK N f).length = N := by simp [fK]
theorem fK_set {N : Nat} (f : Nat → UInt8) (m : Nat) (x : UInt8) : (fK N f).set m (.int .u8 ((x).toNat : Int)) = fK N (fun i => if i = m then x else f i) := by
  apply List.ext_getElem?
  intro i
  rw [List.getElem?_set]
  by_cases hi : i < N
  · rw [fK_get _ hi, fK_get _ hi]
    by_cases e : m = i
    · subst e
      simp [fK_length, hi]
    · have e2 : ¬ i = m := fun h => e h.symm
      simp [e, e2]
  · have h1 : (fK N f)[i]? = none := by rw [List.getElem?_eq_none_iff, fK_length]; omega
    have h2 : (fK N (fun i => if i = m then x else f i))[i]? = none := by rw [List.getElem?_eq_none_iff, fK_length]; omega
    rw [h1, h2]
    by_cases e : m = i
    · subst e; simp [fK_length, hi]
    · simp [e]
theorem fK_congr {N : Nat} {f g : Nat → UInt8} (h : ∀ i, i < N → f i = g i) : fK N f = fK N g := by
  unfold fK
  refine List.map_congr_left fun i hi => ?_
  rw [h i (by simpa using hi)]
/-- What a handed list has in its places and behind them. -/
def spareK (ks : List UInt8) (i : Nat) : UInt8 := (ks[i]?).getD (markK i)
theorem Tryz.inf5 : (Tryz.prog.info? 5).map (fun i => (i.zero, i.size, i.bytes)) = some (some (.int .u8 0), 1, 1) := by kernel_rfl
theorem markK_toNat (i : Nat) : ((markK i).toNat : Int) = (165 + (i : Int) * 7) % 256 := by
  unfold markK
  rw [UInt8.toNat_ofNat']
  omega

theorem makeK (w : World) (N : Nat) (hN : N ≤ 100000) : (Instr.makeSlice 28 (.int .i64 N) (.int .i64 N)).run Tryz.prog w = .ok (.slice (some ⟨w.heap.size, 0, none⟩) N N) (w.alloc (.cells (fK N (fun _ => 0)).toArray 5)) := by
  obtain ⟨i0, hi, hz0, hz1, hz2⟩ := info_parts Tryz.inf5
  have h := run_make (P := Tryz.prog) w 28 5 i0 _ Tryz.underlying28 hi hz0 .i64 .i64 N N (by omega) (by omega) (by rw [hz2]; omega) (by omega)
  rw [hz1, Nat.mul_one, Int.toNat_natCast] at h
  have e : madeCells (Value.int .u8 0).cells N = (fK N (fun _ => 0)).toArray := by
    apply Array.ext'
    apply List.ext_getElem?
    intro i
    have hm : i % 1 = 0 := by omega
    by_cases hi : i < N
    · simp [madeCells, fK, hi, Value.cells, hm]
    · simp [madeCells, fK, hi]
  rw [e] at h
  exact h

set_option maxHeartbeats 2000000 in
/-- bulkheadkeep.Bytes. -/
theorem handK (a : Option Addr) (n c : Nat) (ks : List UInt8) (w : World) (hs : Seg w a ks) (hn : n = ks.length) (hl : n ≤ 16384) :
    Calls Tryz.prog 25 #[.slice a n c] w fun e w' => e = .returned (.slice (some ⟨w.heap.size, 0, none⟩) n (n + 70)) ∧ Blk w' w.heap.size (fK (n + 70) (spareK ks)) 5 ∧ Keeps (fun _ => False) w w' := by
  obtain ⟨N, hN⟩ : ∃ N, N = n + 70 := ⟨_, rfl⟩
  obtain ⟨W1, hW1⟩ : ∃ W1, W1 = w.alloc (.cells (fK N (fun _ => 0)).toArray 5) := ⟨_, rfl⟩
  have HM : Hid ((Instr.makeSlice 28 (.int .i64 N) (.int .i64 N)).run Tryz.prog w = .ok (.slice (some ⟨w.heap.size, 0, none⟩) N N) W1) := by
    have := makeK w N (by omega)
    rw [hW1]; exact this
  have hB : Blk W1 w.heap.size (fK N (fun _ => 0)) 5 := by rw [hW1]; exact Blk.new w _ 5
  have hK : Keeps (fun _ => False) w W1 := by rw [hW1]; exact (Keeps.refl _ w).alloc _
  have hnN : (n : Int) + 70 = (N : Int) := by omega
  have hwN : IntKind.i64.wrap ((n : Int) + 70) = (N : Int) := by rw [IntKind.wrap_i64]; omega
  obtain ⟨B, hBB⟩ : ∃ B, B = w.heap.size := ⟨_, rfl⟩
  rw [← hN, ← hBB]
  rw [← hBB] at hB HM
  have HB : Hid (Blk W1 B (fK N (fun _ => 0)) 5 ∧ Keeps (fun _ => False) w W1 ∧ Seg w a ks ∧ n = ks.length ∧ N = n + 70 ∧ B = w.heap.size ∧ N ≤ 16454) := ⟨hB, hK, hs, hn, hN, hBB, by omega⟩
  have hN2 : (N : Int) ≤ 16454 := by omega
  have hnle : (n : Int) ≤ N := by omega
  clear hB hK hs hn hN hBB hW1 hl
  go_enter Tryz.func25, Tryz.ntmps25
  go_wp2_with (at_make; refine wpList_make_run rfl _ _ 28 rfl (.int .i64 N) (.int .i64 N) (.slice (some ⟨B, 0, none⟩) N N) W1 rfl rfl HM.out ?_; refine Hid.out ?_)
  unfold Hid
  clear HM hwN
  go_wp2
  go_loopw [4] (fun i wr => ∃ m : Nat, m ≤ N ∧ i = .int .i64 m ∧ Keeps (fun _ => False) w wr ∧ Blk wr B (fK N (fun i => if i < m then markK i else 0)) 5) (fun i _ => N - (intOf i).toNat)
  case atStart => exact ⟨0, by omega, rfl, HB.out.2.1, by simpa using HB.out.1⟩
  case round =>
    obtain ⟨m, hm, rfl, hK, hB⟩ := hrel
    by_cases hlt : m < N
    · have hmz : (m : Int) < N := by omega
      have cu := hB.cell (fK_get _ hlt)
      have fu := hB.frozen m
      have w1 : IntKind.i64.wrap ((m : Int) * 7) = (m : Int) * 7 := by rw [IntKind.wrap_i64]; omega
      have w2 : IntKind.i64.wrap (165 + (m : Int) * 7) = 165 + (m : Int) * 7 := by rw [IntKind.wrap_i64]; omega
      obtain ⟨mk, hmk⟩ : ∃ mk : Int, mk = ((markK m).toNat : Int) := ⟨_, rfl⟩
      have w3 : IntKind.u8.wrap (165 + (m : Int) * 7) = mk := by rw [hmk, markK_toNat]; exact IntKind.wrap_u8 _
      have HR : Hid (Keeps (fun _ => False) w (wr.setCell ⟨B, m, none⟩ (.int .u8 mk)) ∧ Blk (wr.setCell ⟨B, m, none⟩ (.int .u8 mk)) B (fK N (fun i => if i < m + 1 then markK i else 0)) 5 ∧ m < N) := by
        refine ⟨hK.setCell _ _ fun h => by have := HB.out.2.2.2.2.2.1; simp at h; omega, ?_, hlt⟩
        have h1 := hB.setCell m (.int .u8 ((markK m).toNat : Int))
        rw [fK_set] at h1
        rw [fK_congr (f := fun i => if i < m + 1 then markK i else 0) fun i hi => ?_]
        · rw [hmk]; exact h1
        · by_cases e : i = m
          · subst e; simp
          · by_cases e2 : i < m
            · have : i < m + 1 := by omega
              simp [e, e2, this]
            · have : ¬ i < m + 1 := by omega
              simp [e, e2, this]
      clear hmk hB hK hm hlt
      go_wp2
      go_roundw
      case rel => exact ⟨m + 1, by have := HR.out.2.2; omega, by go_num, HR.out.1, HR.out.2.1⟩
      case measure => have := HR.out.2.2; simp [intOf]; omega
    · obtain rfl : m = N := by omega
      have HR : Hid (Keeps (fun _ => False) w wr ∧ Blk wr B (fK m (fun i => markK i)) 5) := by
        refine ⟨hK, ?_⟩
        rw [fK_congr (g := fun i => if i < m then markK i else 0) fun i hi => by simp [hi]]
        exact hB
      clear hB hK hm hlt
      go_wp2
      go_loopw [5] (fun i wr => ∃ j : Nat, j ≤ n ∧ i = .int .i64 j ∧ Keeps (fun _ => False) w wr ∧ Blk wr B (fK m (fun i => if i < j then spareK ks i else markK i)) 5) (fun i _ => n - (intOf i).toNat)
      case atStart => exact ⟨0, by omega, rfl, HR.out.1, by simpa using HR.out.2⟩
      case round =>
        obtain ⟨j, hj, rfl, hK, hB⟩ := hrel
        by_cases hlt : j < n
        · obtain ⟨g1, g2, g3, g4, g5, g6, g7⟩ := HB.out
          have hju : j < ks.length := by omega
          rcases g3 with h0 | ⟨b, o, rfl, hcell⟩
          · exact absurd hju (by rw [h0]; simp)
          · have hjz : (j : Int) < n := by omega
            have hjm : (j : Int) < m := by omega
            have cx := cell_kept (hcell j hju) hK fun h => h
            have cu := hB.cell (fK_get _ (show j < m by omega))
            have fu := hB.frozen j
            obtain ⟨x, hxx⟩ : ∃ x, x = ks[j]'hju := ⟨_, rfl⟩
            rw [← hxx] at cx
            have HR2 : Hid (Keeps (fun _ => False) w (wr.setCell ⟨B, j, none⟩ (.int .u8 ((x).toNat : Int))) ∧ Blk (wr.setCell ⟨B, j, none⟩ (.int .u8 ((x).toNat : Int))) B (fK m (fun i => if i < j + 1 then spareK ks i else markK i)) 5 ∧ j < n) := by
              refine ⟨hK.setCell _ _ fun h => by simp at h; omega, ?_, hlt⟩
              have h1 := hB.setCell j (.int .u8 ((x).toNat : Int))
              rw [fK_set] at h1
              rw [fK_congr (f := fun i => if i < j + 1 then spareK ks i else markK i) fun i hi => ?_]
              · exact h1
              · by_cases e : i = j
                · subst e; simp [spareK, hju, hxx]
                · by_cases e2 : i < j
                  · have : i < j + 1 := by omega
                    simp [e, e2, this]
                  · have : ¬ i < j + 1 := by omega
                    simp [e, e2, this]
            clear hB hK hj hlt hcell hju hxx g1 g2 g4 g5 g6 g7 HR
            go_wp2
            go_roundw
            case rel => exact ⟨j + 1, by have := HR2.out.2.2; omega, by go_num, HR2.out.1, HR2.out.2.1⟩
            case measure => have := HR2.out.2.2; simp [intOf]; omega
        · obtain rfl : j = n := by omega
          have HR2 : Hid (Blk wr B (fK m (spareK ks)) 5 ∧ Keeps (fun _ => False) w wr) := by
            refine ⟨?_, hK⟩
            rw [fK_congr (g := fun i => if i < j then spareK ks i else markK i) fun i hi => ?_]
            · exact hB
            · by_cases e : i < j
              · simp [e]
              · have h1 : ks[i]? = none := by rw [List.getElem?_eq_none_iff]; have := HB.out.2.2.2.1; omega
                simp [e, spareK, h1]
          clear hB hK hj hlt HR
          go_wp2
          go_ret
          exact ⟨rfl, HR2.out⟩

set_option maxHeartbeats 2000000 in
/-- bulkheadkeep.BytesKept. -/
theorem keptK (B : Nat) (a : Option Addr) (n c : Nat) (ks : List UInt8) (w : World) (hB : Blk w B (fK (n + 70) (spareK ks)) 5) (hs : Seg w a ks) (hn : n = ks.length) (hl : n ≤ 16384) :
    Calls Tryz.prog 27 #[.slice (some ⟨B, 0, none⟩) n (n + 70), .slice a n c] w fun e w' => e = .returned (.bool true) ∧ w' = w := by
  obtain ⟨N, hN⟩ : ∃ N, N = n + 70 := ⟨_, rfl⟩
  have hwN : IntKind.i64.wrap ((n : Int) + 70) = (N : Int) := by rw [IntKind.wrap_i64]; omega
  have hN2 : (N : Int) ≤ 16454 := by omega
  have hnN : (n : Int) ≤ N := by omega
  have hnz : (n : Int) + 70 = N := by omega
  rw [← hN] at hB ⊢
  have HB : Hid (Blk w B (fK N (spareK ks)) 5 ∧ Seg w a ks ∧ n = ks.length ∧ N ≤ 16454) := ⟨hB, hs, hn, by omega⟩
  clear hB hs hn hN hl
  go_enter Tryz.func27, Tryz.ntmps27
  go_wp2
  go_loopw [6] (fun i wr => ∃ m : Nat, m ≤ N ∧ i = .int .i64 m ∧ wr = w) (fun i _ => N - (intOf i).toNat)
  case atStart => exact ⟨0, by omega, rfl, rfl⟩
  case round =>
    obtain ⟨m, hm, rfl, rfl⟩ := hrel
    by_cases hlt : m < N
    · obtain ⟨g1, g2, g3, g4⟩ := HB.out
      have hmz : (m : Int) < N := by omega
      have cu := g1.cell (fK_get _ hlt)
      have HM : Hid (m < N) := hlt
      have w1 : IntKind.i64.wrap ((m : Int) * 7) = (m : Int) * 7 := by rw [IntKind.wrap_i64]; omega
      have w2 : IntKind.i64.wrap (165 + (m : Int) * 7) = 165 + (m : Int) * 7 := by rw [IntKind.wrap_i64]; omega
      obtain ⟨mk, hmk⟩ : ∃ mk : Int, mk = ((markK m).toNat : Int) := ⟨_, rfl⟩
      have w3 : IntKind.u8.wrap (165 + (m : Int) * 7) = mk := by rw [hmk, markK_toNat]; exact IntKind.wrap_u8 _
      by_cases hmn : m < n
      · have hmu : m < ks.length := by omega
        rcases g2 with h0 | ⟨b, o, rfl, hcell⟩
        · exact absurd hmu (by rw [h0]; simp)
        · have cx := hcell m hmu
          have e1 : spareK ks m = ks[m]'hmu := by simp [spareK, hmu]
          rw [e1] at cu
          obtain ⟨x, hxx⟩ : ∃ x, x = ks[m]'hmu := ⟨_, rfl⟩
          rw [← hxx] at cu cx
          have hmz2 : (m : Int) < n := by omega
          clear g1 g3 g4 hcell hxx e1 hmu hmn hlt hm hmk
          go_wp2
          go_roundw
          case rel => exact ⟨m + 1, by have := HM.out; omega, by go_num, trivial⟩
          case measure => have := HM.out; simp [intOf]; omega
      · have e1 : spareK ks m = markK m := by
          have h1 : ks[m]? = none := by rw [List.getElem?_eq_none_iff]; omega
          simp [spareK, h1]
        rw [e1, ← hmk] at cu
        have hmz2 : ¬ ((m : Int) < n) := by omega
        clear g1 g2 g3 g4 e1 hmn hlt hm hmk
        go_wp2
        go_roundw
        case rel => exact ⟨m + 1, by have := HM.out; omega, by go_num, trivial⟩
        case measure => have := HM.out; simp [intOf]; omega
    · obtain rfl : m = N := by omega
      go_wp2
      go_ret
      exact ⟨rfl, rfl⟩
end Go.Proofs.YtjadpbkhfclldaaGreat
namespace Go.Proofs.YtjadpbkhfclldaaGreat
open Go.RowKit Gw
set_option linter.unusedVariables false
set_option linter.unusedSimpArgs false
set_option maxRecDepth 8000

def nwS (q : Int) (_ k : Nat) : List Value := [.int .u8 (IntKind.u8.wrap (q + (k : Int)))]
theorem u8_of {z : Int} : ∃ y : UInt8, (y.toNat : Int) = IntKind.u8.wrap z := by
  refine ⟨UInt8.ofNat (z % 256).toNat, ?_⟩
  rw [UInt8.toNat_ofNat', IntKind.wrap_u8]
  omega
theorem bvs_set (xs : List UInt8) (i : Nat) (y : UInt8) : bvs (xs.set i y) = (bvs xs).set i (.int .u8 (y.toNat : Int)) := by simp [bvs, List.map_set]

set_option maxHeartbeats 4000000 in
/-- bulkheadkeep.SpoilBytes. -/
theorem spoil_any (a : Option Addr) (n c : Nat) (ks : List UInt8) (x : Int) (w : World) (ho : w.ownsRow 0 5 1 (.slice a n c) n (bvs ks)) (hl : n ≤ 16384) :
    Calls Tryz.prog 28 #[.slice a n c, .int .u8 x] w fun e w' => e = .returned (.tuple #[]) ∧ (∃ ys : List UInt8, ys.length = n ∧ w'.ownsRow 0 5 1 (.slice a n c) n (bvs ys)) ∧ Keeps (fun k => k ∈ bk a) w w' := by
  have hkl : ks.length = n := by have := ho.1; rw [bvs_length] at this; omega
  have HO : Hid (w.ownsRow 0 5 1 (.slice a n c) n (bvs ks) ∧ ks.length = n ∧ n ≤ 16384) := ⟨ho, hkl, hl⟩
  have hn1 : (n : Int) ≤ 16384 := by omega
  obtain ⟨M, hM⟩ : ∃ M : Nat, M = 72 := ⟨_, rfl⟩
  have HM : Hid (M = 72) := hM
  have hcap : (n : Int) ≤ c ∧ (c : Int) ≤ 9223372036854775807 := by
    obtain ⟨_, _, e, h1, h2⟩ := own_slice ho
    injection e with _ _ e
    subst e
    unfold maxLen at h2
    omega
  clear ho hkl hl hM
  go_enter Tryz.func28, Tryz.ntmps28
  go_wp2
  go_loopw [4] (fun i wr => ∃ (j : Nat) (ys : List UInt8), j ≤ n ∧ i = .int .i64 j ∧ ys.length = n ∧ wr.ownsRow 0 5 1 (.slice a n c) n (bvs ys) ∧ Keeps (fun k => k ∈ bk a) w wr) (fun i _ => n - (intOf i).toNat)
  case atStart => exact ⟨0, ks, by omega, rfl, HO.out.2.1, HO.out.1, Keeps.refl _ _⟩
  case round =>
    obtain ⟨j, ys, hj, rfl, hyl, ho, hK⟩ := hrel
    by_cases hlt : j < n
    · obtain ⟨g, hg⟩ := own_addr ho (by omega)
      subst hg
      obtain ⟨z1, hz1⟩ : ∃ z, IntKind.u8.wrap (j : Int) = z := ⟨_, rfl⟩
      obtain ⟨z2, hz2⟩ : ∃ z, IntKind.u8.wrap (z1 * 3) = z := ⟨_, rfl⟩
      obtain ⟨y, hy⟩ := u8_of (z := x + z2)
      obtain ⟨Z, hZ⟩ : ∃ Z, IntKind.u8.wrap (x + z2) = Z := ⟨_, rfl⟩
      obtain ⟨⟨v0, c0⟩, f0, ho2⟩ := own_set ho (i := j) (by omega) (.int .u8 Z)
      have HE : Hid ((ys.set j y).length = n ∧ (wr.setCell ⟨g, j, none⟩ (.int .u8 Z)).ownsRow 0 5 1 (.slice (some ⟨g, 0, none⟩) n c) n (bvs (ys.set j y)) ∧ Keeps (fun k => k ∈ bk (some ⟨g, 0, none⟩)) w (wr.setCell ⟨g, j, none⟩ (.int .u8 Z)) ∧ j < n) :=
        ⟨by rw [List.length_set]; exact hyl, by rw [bvs_set, hy, hZ]; exact ho2, hK.setCell _ _ fun _ => by simp [bk], hlt⟩
      have hjn : (j : Int) < n := by omega
      clear ho ho2 hK hyl hlt hj hy
      go_wp2
      go_roundw
      case rel => exact ⟨j + 1, ys.set j y, by have := HE.out.2.2.2; omega, by go_num, HE.out.1, HE.out.2.1, HE.out.2.2.1⟩
      case measure => have := HE.out.2.2.2; simp [intOf]; omega
    · obtain rfl : n = j := by omega
      obtain ⟨WS, hWS⟩ : ∃ WS, WS = wr := ⟨_, rfl⟩
      subst hWS
      obtain ⟨q, hq⟩ : ∃ q, q = bits .xor .u8 x 90 := ⟨_, rfl⟩
      have HS : Hid (ys.length = n ∧ Keeps (fun k => k ∈ bk a) w WS ∧ GB WS 5 3 1 1 M (fun _ => .slice a n c) (fun _ => n) (fun _ => bvs ys) (nwS q) 0 0 (fun _ => .slice a n c) (.slice a n c) (.slice none 0 0) WS) :=
        ⟨hyl, hK, GB.start (fun _ _ => ho) fun i j hi hj hne => by omega⟩
      clear hyl ho hK hj hlt
      go_wp2
      go_loopw [0, 5] (fun v i wr => ∃ k : Nat, k ≤ M ∧ i = .int .i64 k ∧ GB WS 5 3 1 1 M (fun _ => .slice a n c) (fun _ => n) (fun _ => bvs ys) (nwS q) 0 k (fun _ => .slice a n c) v (.slice none 0 0) wr ∧ Keeps (fun k => k ∈ bk a) w wr) (fun _ i _ => M - (intOf i).toNat)
      case atStart => exact ⟨0, by omega, rfl, HS.out.2.2, HS.out.2.1⟩
      case round =>
        obtain ⟨k, hk, rfl, hG, hK⟩ := hrel
        by_cases hltk : k < M
        · have hltk' : (k : Int) < 72 := by have := HM.out; omega
          have hkw : IntKind.u8.wrap (k : Int) = (k : Int) := by rw [IntKind.wrap_u8]; omega
          obtain ⟨v', W', happ, hG', hKv, hv1⟩ := hG.step (by omega) (by decide) 28 (.int .u8 0) 1 Tryz.underlying28 Tryz.inf5 rfl (by omega) (by omega) #[.int .u8 (IntKind.u8.wrap (q + (k : Int)))] rfl rfl
            (by unfold nwS; exact fun u hu => by simp only [List.mem_cons, List.not_mem_nil, or_false] at hu; rcases hu with rfl; rfl) (by have := HO.out; omega)
          have hK' : Keeps (fun k => k ∈ bk a) w W' := hK.trans hKv fun b hb e => by
            rcases hG.curB (by omega) e.symm with h | h
            · exact bk_mem.2 h
            · have := HS.out.2.1.size; omega
          obtain ⟨Z, hZ⟩ : ∃ Z, Z = IntKind.u8.wrap (q + (k : Int)) := ⟨_, rfl⟩
          rw [← hZ] at happ
          have hZ2 : IntKind.u8.wrap (bits .xor .u8 x 90 + (k : Int)) = Z := by rw [← hq]; exact hZ.symm
          have HAP : Hid (∀ ty, (Builtin.append_ #[28, 28] ty #[u0, .slice (some ⟨wr.heap.size, 0, none⟩) 1 1]).run Tryz.prog (wr.alloc (.cells #[.int .u8 Z] 5)) = .ok v' W') := happ
          have HNX := Hid.mkm (And.intro hG' hK')
          clear happ hG' hKv hK' hG hK hZ
          go_wp2_with (at_builtin; go_must (refine wpList_append_run rfl (.tmp 24) (.tmp 30) 28 28 rfl u0 (.slice (some ⟨wr.heap.size, 0, none⟩) 1 1) v' W' rfl rfl HAP.out ?_; refine Hid.out ?_))
          unfold Hid
          clear HAP
          go_wp2
          go_roundw
          case rel => exact ⟨k + 1, by omega, by go_num, HNX.out⟩
          case measure => simp [intOf]; omega
        · obtain rfl : M = k := by omega
          have hM1 : ¬ (M : Int) < 72 := by have := HM.out; omega
          have HE : Hid (wr.ownsRow 0 5 1 (.slice a n c) n (bvs ys) ∧ Keeps (fun k => k ∈ bk a) w wr) := ⟨hG.old 0 (by omega), hK⟩
          clear hG hK hk hltk
          go_wp2
          go_end0
          exact ⟨rfl, ⟨ys, HS.out.1, HE.out.1⟩, HE.out.2⟩

/-- bulkheadkeep.SameBytes of alike bytes. -/
theorem sameB_any (a b : Option Addr) (c d : Nat) (xs : List UInt8) (w : World) (ha : Seg w a xs) (hb : Seg w b xs) :
    Calls Tryz.prog 11 #[.slice a xs.length c, .slice b xs.length d] w fun e w' => e = .returned (.bool true) ∧ Keeps (fun _ => False) w w' := by
  have h1 := run_text_seg (w := w) a c xs ha
  have h2 := run_text_seg (w := w) b d xs hb
  obtain ⟨n, hn⟩ : ∃ n, xs.length = n := ⟨_, rfl⟩
  rw [hn] at h1 h2 ⊢
  obtain ⟨S, hS⟩ : ∃ S : ByteArray, S = ⟨xs.toArray⟩ := ⟨_, rfl⟩
  rw [← hS] at h1 h2
  clear ha hb hn hS
  go_enter Tryz.func11, Tryz.ntmps11
  go_wp2
  go_ret
  exact ⟨rfl, Keeps.refl _ _⟩
end Go.Proofs.YtjadpbkhfclldaaGreat
