import Derived.Test.YtajhkilclmicjaaSa
namespace Go.Proofs.Ytajhkilclmicjaa
open Go.RowKit Go.Shelf
set_option linter.unusedVariables false

/-- The cells of N numbers. -/
def fl (N : Nat) (f : Nat → Int) : List Value := (List.range N).map fun i => .int .i64 (f i)
theorem fl_get {N : Nat} (f : Nat → Int) {i : Nat} (h : i < N) : (fl N f)[i]? = some (.int .i64 (f i)) := by
  unfold fl
  rw [List.getElem?_map, List.getElem?_range h]
  rfl
theorem fl_length (N : Nat) (f : Nat → Int) : (fl N f).length = N := by simp [fl]
theorem fl_set {N : Nat} (f : Nat → Int) (m : Nat) (x : Int) : (fl N f).set m (.int .i64 x) = fl N (fun i => if i = m then x else f i) := by
  apply List.ext_getElem?
  intro i
  rw [List.getElem?_set]
  by_cases hi : i < N
  · rw [fl_get _ hi, fl_get _ hi]
    by_cases e : m = i
    · subst e
      simp [fl_length, hi]
    · have e2 : ¬ i = m := fun h => e h.symm
      simp [e, e2]
  · have h1 : (fl N f)[i]? = none := by rw [List.getElem?_eq_none_iff, fl_length]; omega
    have h2 : (fl N (fun i => if i = m then x else f i))[i]? = none := by rw [List.getElem?_eq_none_iff, fl_length]; omega
    rw [h1, h2]
    by_cases e : m = i
    · subst e; simp [fl_length, hi]
    · simp [e]
theorem fl_congr {N : Nat} {f g : Nat → Int} (h : ∀ i, i < N → f i = g i) : fl N f = fl N g := by
  unfold fl
  refine List.map_congr_left fun i hi => ?_
  rw [h i (by simpa using hi)]

/-- What a handed list has in its places and behind them. -/
def spareF (ks : List Int) (i : Nat) : Int := (ks[i]?).getD (-5000 - (i : Int))

theorem make_ints (w : World) (N : Nat) (hN : N ≤ 1000) : (Instr.makeSlice 59 (.int .i64 N) (.int .i64 N)).run Try.prog w = .ok (.slice (some ⟨w.heap.size, 0, none⟩) N N) (w.alloc (.cells (fl N (fun _ => 0)).toArray 3)) := by
  obtain ⟨i0, hi, hz0, hz1, hz2⟩ := info_parts Try.info3
  have h := run_make (P := Try.prog) w 59 3 i0 _ Try.underlying59 hi hz0 .i64 .i64 N N (by omega) (by omega) (by rw [hz2]; omega) (by omega)
  rw [hz1, Nat.mul_one, Int.toNat_natCast] at h
  have e : madeCells (Value.int .i64 0).cells N = (fl N (fun _ => 0)).toArray := by
    apply Array.ext'
    apply List.ext_getElem?
    intro i
    have hm : i % 1 = 0 := by omega
    by_cases hi : i < N
    · simp [madeCells, fl, hi, Value.cells, hm]
    · simp [madeCells, fl, hi]
  rw [e] at h
  exact h

set_option maxHeartbeats 2000000 in
theorem ints_any (a : Option Addr) (n c : Nat) (ks : List Int) (w : World) (hs : SegI w a ks) (hn : n = ks.length) (hl : n ≤ 2) :
    Calls Try.prog 39 #[.slice a n c] w fun e w' => e = .returned (.slice (some ⟨w.heap.size, 0, none⟩) n (n + 70)) ∧ Blk w' w.heap.size (fl (n + 70) (spareF ks)) 3 ∧ Keeps (fun _ => False) w w' := by
  obtain ⟨N, hN⟩ : ∃ N, N = n + 70 := ⟨_, rfl⟩
  obtain ⟨W1, hW1⟩ : ∃ W1, W1 = w.alloc (.cells (fl N (fun _ => 0)).toArray 3) := ⟨_, rfl⟩
  have HM : Hid ((Instr.makeSlice 59 (.int .i64 N) (.int .i64 N)).run Try.prog w = .ok (.slice (some ⟨w.heap.size, 0, none⟩) N N) W1) := by
    have := make_ints w N (by omega)
    rw [hW1]; exact this
  have hB : Blk W1 w.heap.size (fl N (fun _ => 0)) 3 := by rw [hW1]; exact Blk.new w _ 3
  have hK : Keeps (fun _ => False) w W1 := by rw [hW1]; exact (Keeps.refl _ w).alloc _
  have hnN : (n : Int) + 70 = (N : Int) := by omega
  have hwN : wrap64 ((n : Int) + 70) = (N : Int) := by unfold wrap64; omega
  obtain ⟨B, hBB⟩ : ∃ B, B = w.heap.size := ⟨_, rfl⟩
  rw [← hN, ← hBB]
  rw [← hBB] at hB HM
  have HB : Hid (Blk W1 B (fl N (fun _ => 0)) 3 ∧ Keeps (fun _ => False) w W1 ∧ SegI w a ks ∧ n = ks.length ∧ N = n + 70 ∧ B = w.heap.size) := ⟨hB, hK, hs, hn, hN, hBB⟩
  have hN2 : (N : Int) ≤ 72 := by omega
  have hnle : (n : Int) ≤ N := by omega
  clear hB hK hs hn hN hBB hW1 hl
  go_enter Try.func39, Try.ntmps39
  go_wp2_with (at_make; refine wpList_make_run rfl _ _ 59 rfl (.int .i64 N) (.int .i64 N) (.slice (some ⟨B, 0, none⟩) N N) W1 rfl rfl HM.out ?_; refine Hid.out ?_)
  unfold Hid
  clear HM hwN
  go_wp2
  go_loopw [4] (fun i wr => ∃ m : Nat, m ≤ N ∧ i = .int .i64 m ∧ Keeps (fun _ => False) w wr ∧ Blk wr B (fl N (fun i => if i < m then -5000 - (i : Int) else 0)) 3) (fun i _ => N - (intOf i).toNat)
  case atStart => exact ⟨0, by omega, rfl, HB.out.2.1, by simpa using HB.out.1⟩
  case round =>
    obtain ⟨m, hm, rfl, hK, hB⟩ := hrel
    by_cases hlt : m < N
    · have hmz : (m : Int) < N := by omega
      have cu := hB.cell (fl_get _ hlt)
      have fu := hB.frozen m
      have hw : wrap64 (-5000 - (m : Int)) = -5000 - (m : Int) := by unfold wrap64; omega
      have HR : Hid (Keeps (fun _ => False) w (wr.setCell ⟨B, m, none⟩ (.int .i64 (-5000 - (m : Int)))) ∧ Blk (wr.setCell ⟨B, m, none⟩ (.int .i64 (-5000 - (m : Int)))) B (fl N (fun i => if i < m + 1 then -5000 - (i : Int) else 0)) 3 ∧ m < N) := by
        refine ⟨hK.setCell _ _ fun h => by have := HB.out.2.2.2.2.2; simp at h; omega, ?_, hlt⟩
        have h1 := hB.setCell m (.int .i64 (-5000 - (m : Int)))
        rw [fl_set] at h1
        rw [fl_congr (f := fun i => if i < m + 1 then -5000 - (i : Int) else 0) fun i hi => ?_]
        · exact h1
        · by_cases e : i = m
          · subst e; simp
          · by_cases e2 : i < m
            · have : i < m + 1 := by omega
              simp [e, e2, this]
            · have : ¬ i < m + 1 := by omega
              simp [e, e2, this]
      clear hB hK hm hlt
      go_wp2
      go_roundw
      case rel => exact ⟨m + 1, by have := HR.out.2.2; omega, by go_num, HR.out.1, HR.out.2.1⟩
      case measure => have := HR.out.2.2; simp [intOf]; omega
    · obtain rfl : m = N := by omega
      have HR : Hid (Keeps (fun _ => False) w wr ∧ Blk wr B (fl m (fun i => -5000 - (i : Int))) 3) := by
        refine ⟨hK, ?_⟩
        rw [fl_congr (g := fun i => if i < m then -5000 - (i : Int) else 0) fun i hi => by simp [hi]]
        exact hB
      clear hB hK hm hlt
      go_wp2
      go_loopw [5] (fun i wr => ∃ j : Nat, j ≤ n ∧ i = .int .i64 j ∧ Keeps (fun _ => False) w wr ∧ Blk wr B (fl m (fun i => if i < j then spareF ks i else -5000 - (i : Int))) 3) (fun i _ => n - (intOf i).toNat)
      case atStart => exact ⟨0, by omega, rfl, HR.out.1, by simpa using HR.out.2⟩
      case round =>
        obtain ⟨j, hj, rfl, hK, hB⟩ := hrel
        by_cases hlt : j < n
        · obtain ⟨g1, g2, g3, g4, g5, g6⟩ := HB.out
          have hju : j < ks.length := by omega
          rcases g3 with h0 | ⟨b, o, rfl, hcell⟩
          · exact absurd hju (by rw [h0]; simp)
          · have hjz : (j : Int) < n := by omega
            have hjm : (j : Int) < m := by omega
            have cx := cell_kept (hcell j hju) hK fun h => h
            have cu := hB.cell (fl_get _ (show j < m by omega))
            have fu := hB.frozen j
            obtain ⟨x, hxx⟩ : ∃ x, x = ks[j]'hju := ⟨_, rfl⟩
            rw [← hxx] at cx
            have HR2 : Hid (Keeps (fun _ => False) w (wr.setCell ⟨B, j, none⟩ (.int .i64 x)) ∧ Blk (wr.setCell ⟨B, j, none⟩ (.int .i64 x)) B (fl m (fun i => if i < j + 1 then spareF ks i else -5000 - (i : Int))) 3 ∧ j < n) := by
              refine ⟨hK.setCell _ _ fun h => by simp at h; omega, ?_, hlt⟩
              have h1 := hB.setCell j (.int .i64 x)
              rw [fl_set] at h1
              rw [fl_congr (f := fun i => if i < j + 1 then spareF ks i else -5000 - (i : Int)) fun i hi => ?_]
              · exact h1
              · by_cases e : i = j
                · subst e; simp [spareF, hju, hxx]
                · by_cases e2 : i < j
                  · have : i < j + 1 := by omega
                    simp [e, e2, this]
                  · have : ¬ i < j + 1 := by omega
                    simp [e, e2, this]
            clear hB hK hj hlt hcell hju hxx g1 g2 g4 g5 g6 HR
            go_wp2
            go_roundw
            case rel => exact ⟨j + 1, by have := HR2.out.2.2; omega, by go_num, HR2.out.1, HR2.out.2.1⟩
            case measure => have := HR2.out.2.2; simp [intOf]; omega
        · obtain rfl : j = n := by omega
          have HR2 : Hid (Blk wr B (fl m (spareF ks)) 3 ∧ Keeps (fun _ => False) w wr) := by
            refine ⟨?_, hK⟩
            rw [fl_congr (g := fun i => if i < j then spareF ks i else -5000 - (i : Int)) fun i hi => ?_]
            · exact hB
            · by_cases e : i < j
              · simp [e]
              · have h1 : ks[i]? = none := by rw [List.getElem?_eq_none_iff]; have := HB.out.2.2.2.1; omega
                simp [e, spareF, h1]
          clear hB hK hj hlt HR
          go_wp2
          go_ret
          exact ⟨rfl, HR2.out⟩

set_option maxHeartbeats 2000000 in
theorem kept_any (B : Nat) (a : Option Addr) (n c : Nat) (ks : List Int) (w : World) (hB : Blk w B (fl (n + 70) (spareF ks)) 3) (hs : SegI w a ks) (hn : n = ks.length) (hl : n ≤ 2) :
    Calls Try.prog 40 #[.slice (some ⟨B, 0, none⟩) n (n + 70), .slice a n c] w fun e w' => e = .returned (.bool true) ∧ w' = w := by
  obtain ⟨N, hN⟩ : ∃ N, N = n + 70 := ⟨_, rfl⟩
  have hwN : wrap64 ((n : Int) + 70) = (N : Int) := by unfold wrap64; omega
  have hN2 : (N : Int) ≤ 72 := by omega
  have hnN : (n : Int) ≤ N := by omega
  have hnz : (n : Int) + 70 = N := by omega
  rw [← hN] at hB ⊢
  have HB : Hid (Blk w B (fl N (spareF ks)) 3 ∧ SegI w a ks ∧ n = ks.length) := ⟨hB, hs, hn⟩
  clear hB hs hn hN hl
  go_enter Try.func40, Try.ntmps40
  go_wp2
  go_loopw [6] (fun i wr => ∃ m : Nat, m ≤ N ∧ i = .int .i64 m ∧ wr = w) (fun i _ => N - (intOf i).toNat)
  case atStart => exact ⟨0, by omega, rfl, rfl⟩
  case round =>
    obtain ⟨m, hm, rfl, rfl⟩ := hrel
    by_cases hlt : m < N
    · obtain ⟨g1, g2, g3⟩ := HB.out
      have hmz : (m : Int) < N := by omega
      have cu := g1.cell (fl_get _ hlt)
      have hw : wrap64 (-5000 - (m : Int)) = -5000 - (m : Int) := by unfold wrap64; omega
      have HM : Hid (m < N) := hlt
      by_cases hmn : m < n
      · have hmu : m < ks.length := by omega
        rcases g2 with h0 | ⟨b, o, rfl, hcell⟩
        · exact absurd hmu (by rw [h0]; simp)
        · have cx := hcell m hmu
          have e1 : spareF ks m = ks[m]'hmu := by simp [spareF, hmu]
          rw [e1] at cu
          obtain ⟨x, hxx⟩ : ∃ x, x = ks[m]'hmu := ⟨_, rfl⟩
          rw [← hxx] at cu cx
          have hmz2 : (m : Int) < n := by omega
          clear g1 g3 hcell hxx e1 hmu hmn hlt hm
          go_wp2
          go_roundw
          case rel => exact ⟨m + 1, by have := HM.out; omega, by go_num, trivial⟩
          case measure => have := HM.out; simp [intOf]; omega
      · have e1 : spareF ks m = -5000 - (m : Int) := by
          have h1 : ks[m]? = none := by rw [List.getElem?_eq_none_iff]; omega
          simp [spareF, h1]
        rw [e1] at cu
        have hmz2 : ¬ ((m : Int) < n) := by omega
        clear g1 g2 g3 e1 hmn hlt hm
        go_wp2
        go_roundw
        case rel => exact ⟨m + 1, by have := HM.out; omega, by go_num, trivial⟩
        case measure => have := HM.out; simp [intOf]; omega
    · obtain rfl : m = N := by omega
      go_wp2
      go_ret
      exact ⟨rfl, rfl⟩

theorem fl_owns {w : World} {B n N : Nat} {f : Nat → Int} (hB : Blk w B (fl N f) 3) (hn : n ≤ N) (hN : N ≤ 1000) : w.ownsRow 0 3 1 (.slice (some ⟨B, 0, none⟩) n N) n ((fl N f).take n) := by
  refine ⟨by rw [List.length_take, fl_length]; omega, .inr ⟨B, N, _, rfl, Nat.zero_le _, hB, hn, by unfold maxLen; omega, ?_, ?_⟩⟩
  · simp [fl_length]
  · simp

def slN : Value → Nat | .slice _ n _ => n | _ => 0
theorem owns_form {w : World} {e : TypeId} {size n : Nat} {v : Value} {vs : List Value} (h : w.ownsRow 0 e size v n vs) : ∃ a c, v = .slice a n c := by
  rcases h.2 with ⟨rfl, rfl⟩ | ⟨g, cap, cur, rfl, _⟩
  · exact ⟨none, 0, rfl⟩
  · exact ⟨_, cap, rfl⟩

set_option maxHeartbeats 2000000 in
theorem spoilInts_any (B n : Nat) (f : Nat → Int) (mark : Int) (w : World) (hB : Blk w B (fl (n + 70) f) 3) (hl : n ≤ 2) :
    Calls Try.prog 41 #[.slice (some ⟨B, 0, none⟩) n (n + 70), .int .i64 mark] w fun e w' => e = .returned (.tuple #[]) ∧ Keeps (· = B) w w' := by
  obtain ⟨N, hN⟩ : ∃ N, N = n + 70 := ⟨_, rfl⟩
  rw [← hN] at hB ⊢
  have hN2 : (N : Int) ≤ 72 := by omega
  have hnN : (n : Int) ≤ N := by omega
  have HB : Hid (Blk w B (fl N f) 3 ∧ N = n + 70 ∧ n ≤ 2) := ⟨hB, hN, hl⟩
  clear hB hN hl
  go_enter Try.func41, Try.ntmps41
  go_wp2
  go_loopw [4] (fun i wr => ∃ (m : Nat) (g : Nat → Int), m ≤ n ∧ i = .int .i64 m ∧ Keeps (· = B) w wr ∧ Blk wr B (fl N g) 3) (fun i _ => n - (intOf i).toNat)
  case atStart => exact ⟨0, f, by omega, rfl, Keeps.refl _ _, HB.out.1⟩
  case round =>
    obtain ⟨m, g, hm, rfl, hK, hb⟩ := hrel
    by_cases hlt : m < n
    · have hmz : (m : Int) < n := by omega
      have cu := hb.cell (fl_get g (show m < N by have := HB.out.2; omega))
      have fu := hb.frozen m
      have HR : Hid (∀ x : Int, Keeps (· = B) w (wr.setCell ⟨B, m, none⟩ (.int .i64 x)) ∧ ∃ g, Blk (wr.setCell ⟨B, m, none⟩ (.int .i64 x)) B (fl N g) 3) := fun x => by
        have h1 := hb.setCell m (.int .i64 x)
        rw [fl_set] at h1
        exact ⟨hK.setCell _ _ fun _ => rfl, _, h1⟩
      have HM : Hid (m < n) := hlt
      clear hb hK hm hlt
      go_wp2
      go_roundw
      case rel =>
        obtain ⟨h1, g, h2⟩ := HR.out _
        exact ⟨m + 1, g, by have := HM.out; omega, by go_num, h1, h2⟩
      case measure => have := HM.out; simp [intOf]; omega
    · obtain rfl : m = n := by omega
      have HR : Hid (wr.ownsRow 0 3 1 (.slice (some ⟨B, 0, none⟩) m N) m ((fl N g).take m) ∧ Keeps (· = B) w wr) := ⟨fl_owns hb (by omega) (by omega), hK⟩
      clear hb hK hm hlt
      obtain ⟨wo, hwo⟩ : ∃ wo, wo = wr := ⟨_, rfl⟩
      subst hwo
      go_wp2
      go_loopw [0, 5] (fun v i wr => ∃ (j : Nat) (vs : List Value), j ≤ 72 ∧ i = .int .i64 j ∧ wr.ownsRow 0 3 1 v (m + j) vs ∧ Grew wo (.slice (some ⟨B, 0, none⟩) m N) wr v) (fun _ i _ => 72 - (intOf i).toNat)
      case atStart => exact ⟨0, _, by omega, rfl, HR.out.1, Grew.refl _ _⟩
      case round =>
        obtain ⟨j, vs, hj, rfl, hO, hG⟩ := hrel
        by_cases hlt : j < 72
        · obtain ⟨a, c, rfl⟩ := owns_form hO
          have hjz : (j : Int) < 72 := by omega
          have hm2 := HB.out.2.2
          obtain ⟨x, hx⟩ : ∃ x : Int, x = wrap64 (wrap64 (-mark) - (j : Int)) := ⟨_, rfl⟩
          obtain ⟨v', W', happ, hown', hgr⟩ := append_int x (.slice a (m + j) c) _ _ hO (by omega)
          have HAP : Hid (∀ ty, (Builtin.append_ #[59, 59] ty #[.slice a (m + j) c, .slice (some ⟨wr.heap.size, 0, none⟩) 1 1]).run Try.prog (wr.alloc (.cells #[.int .i64 x] 3)) = .ok v' W') := happ
          have HR2 : Hid ((∃ vs', W'.ownsRow 0 3 1 v' (m + (j + 1)) vs') ∧ Grew wo (.slice (some ⟨B, 0, none⟩) m N) W' v' ∧ j < 72 ∧ x = wrap64 (wrap64 (-mark) - (j : Int))) := ⟨⟨_, by rw [← Nat.add_assoc]; exact hown'⟩, hG.trans hgr, hlt, hx⟩
          clear happ hown' hgr hO hG hj hlt hx hm2
          go_wp2_with (at_builtin; go_must (rw [← HR2.out.2.2.2]; refine wpList_append_run rfl (.tmp 23) (.tmp 28) 59 59 rfl (.slice a (m + j) c) (.slice (some ⟨wr.heap.size, 0, none⟩) 1 1) v' W' rfl rfl HAP.out ?_; refine Hid.out ?_))
          unfold Hid
          go_wp2
          go_roundw
          case rel =>
            obtain ⟨⟨vs', h1⟩, h2, h3, -⟩ := HR2.out
            exact ⟨j + 1, vs', by omega, by go_num, h1, h2⟩
          case measure => have := HR2.out.2.2.1; simp [intOf]; omega
        · obtain rfl : j = 72 := by omega
          have HR2 : Hid (Keeps (· = B) w wr) := by
            refine HR.out.2.trans (hG.keeps.mono (T := (· = B)) fun b hb he => ?_) fun _ _ h => h
            simpa [Value.ownBlock] using he
          clear hO hG hj hlt
          go_wp2
          go_end0
          exact ⟨rfl, HR2.out⟩

end Go.Proofs.Ytajhkilclmicjaa
