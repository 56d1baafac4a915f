import Derived.Test.YtekijhhpldnmnaaAa
namespace Go.Proofs.Ytekijhhpldnmnaa
open Go.RowKit
set_option linter.unusedVariables false

def fU (N : Nat) (f : Nat → Int) : List Value := (List.range N).map fun i => .int .u32 (f i)
theorem fU_get {N : Nat} (f : Nat → Int) {i : Nat} (h : i < N) : (fU N f)[i]? = some (.int .u32 (f i)) := by
  unfold fU
  rw [List.getElem?_map, List.getElem?_range h]
  rfl
theorem fU_length (N : Nat) (f : Nat → Int) : (fU N f).length = N := by simp [fU]
theorem fU_set {N : Nat} (f : Nat → Int) (m : Nat) (x : Int) : (fU N f).set m (.int .u32 x) = fU N (fun i => if i = m then x else f i) := by
  apply List.ext_getElem?
  intro i
  rw [List.getElem?_set]
  by_cases hi : i < N
  · rw [fU_get _ hi, fU_get _ hi]
    by_cases e : m = i
    · subst e
      simp [fU_length, hi]
    · have e2 : ¬ i = m := fun h => e h.symm
      simp [e, e2]
  · have h1 : (fU N f)[i]? = none := by rw [List.getElem?_eq_none_iff, fU_length]; omega
    have h2 : (fU N (fun i => if i = m then x else f i))[i]? = none := by rw [List.getElem?_eq_none_iff, fU_length]; omega
    rw [h1, h2]
    by_cases e : m = i
    · subst e; simp [fU_length, hi]
    · simp [e]
theorem fW_fU (N : Nat) (f : Nat → UInt32) : fW N f = fU N (fun i => ((f i).toNat : Int)) := rfl
theorem wvs_fU (xs : List UInt32) : wvs xs = fU xs.length (fun i => ((wd xs i).toNat : Int)) := by
  apply List.ext_getElem?
  intro i
  by_cases h : i < xs.length
  · rw [fU_get _ h, wvs_wd h]
  · rw [List.getElem?_eq_none (by rw [wvs_length]; omega), List.getElem?_eq_none (by rw [fU_length]; omega)]

theorem append_word {w : World} (x : Int) (v : Value) (n : Nat) (vs : List Value) (hown : w.ownsRow 0 52 1 v n vs) (hn : n ≤ 1000) :
    ∃ v' W', (∀ ty, (Builtin.append_ #[22, 22] ty #[v, .slice (some ⟨w.heap.size, 0, none⟩) 1 1]).run Try.prog (w.alloc (.cells #[.int .u32 x] 52)) = .ok v' W') ∧ W'.ownsRow 0 52 1 v' (n + 1) (vs ++ [.int .u32 x]) ∧
      (v'.ownBlock = v.ownBlock ∨ ∃ k, v'.ownBlock = some k ∧ w.heap.size ≤ k) ∧ Keeps (fun k => some k = v.ownBlock) w W' := by
  obtain ⟨i0, hi, hz0, hz1, hz2⟩ := info_parts Try.info52
  exact append_new 22 52 i0 _ 1 4 Try.underlying22 hi hz0 hz1 hz2 rfl (by omega) v n vs hown #[.int .u32 x] rfl (by intro u hu; simp at hu; rw [hu]; rfl) (by unfold maxLen; omega) (by omega)

theorem wpList_append_ex {ops : Array Oper} {rest : List Oper} {o : Oper} {a : Act} {Q : Exit → Act → World → Prop} {P : Program} (hgd : o.guard = none) (s x : Operand) (t k : TypeId)
    (ho : o.op = .call { callee := .builtin .append, args := #[s, x], argTypes := #[t, k] }) (vs : Value) (w0 : World) (hs : a.eval s = vs) (hx : a.eval x = .slice (some ⟨w0.heap.size, 0, none⟩) 1 1) (R : Value → World → Prop)
    (hr : ∀ z : Int, ∃ v' W', (∀ ty, (Builtin.append_ #[t, k] ty #[vs, .slice (some ⟨w0.heap.size, 0, none⟩) 1 1]).run P (w0.alloc (.cells #[.int .u32 z] 52)) = .ok v' W') ∧ R v' W') (z : Int)
    (h : ∀ v' W', R v' W' → wpList P ops Q rest (a.put o.dst v') W') : wpList P ops Q (o :: rest) a (w0.alloc (.cells #[.int .u32 z] 52)) := by
  obtain ⟨v', W', h1, h2⟩ := hr z
  exact wpList_append_run hgd s x t k ho vs _ v' W' hs hx h1 (h v' W' h2)

theorem owns_form {w : World} {e : TypeId} {size n : Nat} {v : Value} {vs : List Value} (h : w.ownsRow 0 e size v n vs) : ∃ a c, v = .slice a n c := by
  rcases h.2 with ⟨rfl, rfl⟩ | ⟨g, cap, cur, rfl, _⟩
  · exact ⟨none, 0, rfl⟩
  · exact ⟨_, cap, rfl⟩

set_option maxHeartbeats 2000000 in
theorem spoilWords_any (B n cap : Nat) (f : Nat → Int) (mark : Int) (w : World) (hB : Blk w B (fU cap f) 52) (hl : n ≤ 16) (hc : n ≤ cap) (hc2 : cap ≤ 1000) :
    Calls Try.prog 29 #[.slice (some ⟨B, 0, none⟩) n cap, .int .u32 mark] w fun e w' => e = .returned (.tuple #[]) ∧ Keeps (· = B) w w' := by
  have hN2 : (n : Int) ≤ 16 := by omega
  have hnN : (n : Int) ≤ cap := by omega
  have hcc : (cap : Int) ≤ 1000 := by omega
  have HB : Hid (Blk w B (fU cap f) 52 ∧ n ≤ cap ∧ n ≤ 16 ∧ cap ≤ 1000) := ⟨hB, hc, hl, hc2⟩
  clear hB hl hc hc2
  go_enter Try.func29, Try.ntmps29
  go_wp2
  go_loopw [4] (fun i wr => ∃ (m : Nat) (g : Nat → Int), m ≤ n ∧ i = .int .i64 m ∧ Keeps (· = B) w wr ∧ Blk wr B (fU cap g) 52) (fun i _ => n - (intOf i).toNat)
  case atStart => exact ⟨0, f, by omega, rfl, Keeps.refl _ _, HB.out.1⟩
  case round =>
    obtain ⟨m, g, hm, rfl, hK, hb⟩ := hrel
    by_cases hlt : m < n
    · have hmz : (m : Int) < n := by omega
      have cu := hb.cell (fU_get g (show m < cap by have := HB.out.2; omega))
      have fu := hb.frozen m
      have HR : Hid (∀ x : Int, Keeps (· = B) w (wr.setCell ⟨B, m, none⟩ (.int .u32 x)) ∧ ∃ g, Blk (wr.setCell ⟨B, m, none⟩ (.int .u32 x)) B (fU cap g) 52) := fun x => by
        have h1 := hb.setCell m (.int .u32 x)
        rw [fU_set] at h1
        exact ⟨hK.setCell _ _ fun _ => rfl, _, h1⟩
      have HM : Hid (m < n) := hlt
      clear hb hK hm hlt
      go_wp2
      go_roundw
      case rel =>
        obtain ⟨h1, g, h2⟩ := HR.out _
        exact ⟨m + 1, g, by have := HM.out; omega, by go_num, h1, h2⟩
      case measure => have := HM.out; simp [intOf]; omega
    · obtain rfl : m = n := by omega
      have HR : Hid (wr.ownsRow 0 52 1 (.slice (some ⟨B, 0, none⟩) m cap) m ((fU cap g).take m) ∧ Keeps (· = B) w wr) := by
        refine ⟨⟨by rw [List.length_take, fU_length]; have := HB.out; omega, .inr ⟨B, cap, _, rfl, Nat.zero_le _, hb, by have := HB.out; omega, by unfold maxLen; have := HB.out; omega, ?_, ?_⟩⟩, hK⟩
        · simp [fU_length]
        · simp
      clear hb hK hm hlt
      obtain ⟨wo, hwo⟩ : ∃ wo, wo = wr := ⟨_, rfl⟩
      subst hwo
      go_wp2
      go_loopw [0, 5] (fun v i wr => ∃ (j : Nat) (vs : List Value), j ≤ 72 ∧ i = .int .i64 j ∧ wr.ownsRow 0 52 1 v (m + j) vs ∧ Grew wo (.slice (some ⟨B, 0, none⟩) m cap) wr v) (fun _ i _ => 72 - (intOf i).toNat)
      case atStart => exact ⟨0, _, by omega, rfl, HR.out.1, Grew.refl _ _⟩
      case round =>
        obtain ⟨j, vs, hj, rfl, hO, hG⟩ := hrel
        by_cases hlt : j < 72
        · obtain ⟨a, c, rfl⟩ := owns_form hO
          have hjz : (j : Int) < 72 := by omega
          have HAP : Hid (∀ z : Int, ∃ v' W', (∀ ty, (Builtin.append_ #[22, 22] ty #[.slice a (m + j) c, .slice (some ⟨wr.heap.size, 0, none⟩) 1 1]).run Try.prog (wr.alloc (.cells #[.int .u32 z] 52)) = .ok v' W') ∧ ((∃ vs', W'.ownsRow 0 52 1 v' (m + (j + 1)) vs') ∧ Grew wo (.slice (some ⟨B, 0, none⟩) m cap) W' v')) := fun z => by
            obtain ⟨v', W', h1, h2, h3, h4⟩ := append_word z (.slice a (m + j) c) _ _ hO (by have := HB.out; omega)
            exact ⟨v', W', h1, ⟨_, by rw [← Nat.add_assoc]; exact h2⟩, hG.trans ⟨h3, h4⟩⟩
          have HJ : Hid (j < 72) := hlt
          clear hO hG hj hlt
          go_wp2_with (at_builtin; go_must (refine wpList_append_ex rfl _ _ 22 22 rfl (.slice a (m + j) c) wr rfl rfl (fun v' W' => (∃ vs', W'.ownsRow 0 52 1 v' (m + (j + 1)) vs') ∧ Grew wo (.slice (some ⟨B, 0, none⟩) m cap) W' v') HAP.out _ ?_; intro v' W' hR2; refine Hid.out ?_))
          unfold Hid
          have HR2 : Hid ((∃ vs', W'.ownsRow 0 52 1 v' (m + (j + 1)) vs') ∧ Grew wo (.slice (some ⟨B, 0, none⟩) m cap) W' v') := hR2
          clear hR2
          go_wp2
          go_roundw
          case rel =>
            obtain ⟨⟨vs', h1⟩, h2⟩ := HR2.out
            exact ⟨j + 1, vs', by have := HJ.out; omega, by go_num, h1, h2⟩
          case measure => have := HJ.out; simp [intOf]; omega
        · obtain rfl : j = 72 := by omega
          have HR2 : Hid (Keeps (· = B) w wr) := by
            refine HR.out.2.trans (hG.keeps.mono (T := (· = B)) fun b hb he => ?_) fun _ _ h => h
            simpa [Value.ownBlock] using he
          clear hO hG hj hlt
          go_wp2
          go_end0
          exact ⟨rfl, HR2.out⟩

end Go.Proofs.Ytekijhhpldnmnaa
namespace Go.Proofs.Ytekijhhpldnmnaa
open Go.RowKit
set_option linter.unusedVariables false

theorem makeIBig (w : World) (N : Nat) (hN : N ≤ 35184372088000) : (Instr.makeSlice 33 (.int .i64 N) (.int .i64 N)).run Try.prog w = .ok (.slice (some ⟨w.heap.size, 0, none⟩) N N) (w.alloc (.cells (fI N (fun _ => 0)).toArray 3)) := by
  obtain ⟨i0, hi, hz0, hz1, hz2⟩ := info_parts Try.info3
  have h := run_make (P := Try.prog) w 33 3 i0 _ Try.underlying33 hi hz0 .i64 .i64 N N (by omega) (by omega) (by rw [hz2]; omega) (by omega)
  rw [hz1, Nat.mul_one, Int.toNat_natCast] at h
  have e : madeCells (Value.int .i64 0).cells N = (fI N (fun _ => 0)).toArray := by
    apply Array.ext'
    apply List.ext_getElem?
    intro i
    have hm : i % 1 = 0 := by omega
    by_cases hi : i < N
    · simp [madeCells, fI, hi, Value.cells, hm]
    · simp [madeCells, fI, hi]
  rw [e] at h
  exact h


set_option maxHeartbeats 2000000 in
theorem handIBig (a : Option Addr) (n c : Nat) (ks : List Int) (w : World) (hs : SegI w a ks) (hn : n = ks.length) (hl : n ≤ 35184372087808) :
    Calls Try.prog 31 #[.slice a n c] w fun e w' => e = .returned (.slice (some ⟨w.heap.size, 0, none⟩) n (n + 70)) ∧ Blk w' w.heap.size (fI (n + 70) (spareI ks)) 3 ∧ Keeps (fun _ => False) w w' := by
  obtain ⟨N, hN⟩ : ∃ N, N = n + 70 := ⟨_, rfl⟩
  obtain ⟨W1, hW1⟩ : ∃ W1, W1 = w.alloc (.cells (fI N (fun _ => 0)).toArray 3) := ⟨_, rfl⟩
  have HM : Hid ((Instr.makeSlice 33 (.int .i64 N) (.int .i64 N)).run Try.prog w = .ok (.slice (some ⟨w.heap.size, 0, none⟩) N N) W1) := by
    have := makeIBig w N (by omega)
    rw [hW1]; exact this
  have hB : Blk W1 w.heap.size (fI N (fun _ => 0)) 3 := by rw [hW1]; exact Blk.new w _ 3
  have hK : Keeps (fun _ => False) w W1 := by rw [hW1]; exact (Keeps.refl _ w).alloc _
  have hnN : (n : Int) + 70 = (N : Int) := by omega
  have hwN : IntKind.i64.wrap ((n : Int) + 70) = (N : Int) := by rw [IntKind.wrap_i64]; omega
  obtain ⟨B, hBB⟩ : ∃ B, B = w.heap.size := ⟨_, rfl⟩
  rw [← hN, ← hBB]
  rw [← hBB] at hB HM
  have HB : Hid (Blk W1 B (fI N (fun _ => 0)) 3 ∧ Keeps (fun _ => False) w W1 ∧ SegI w a ks ∧ n = ks.length ∧ N = n + 70 ∧ B = w.heap.size ∧ N ≤ 35184372087878) := ⟨hB, hK, hs, hn, hN, hBB, by omega⟩
  have hN2 : (N : Int) ≤ 9000000000000000000 := by omega
  have hnle : (n : Int) ≤ N := by omega
  clear hB hK hs hn hN hBB hW1 hl
  go_enter Try.func31, Try.ntmps31
  go_wp2_with (at_make; refine wpList_make_run rfl _ _ 33 rfl (.int .i64 N) (.int .i64 N) (.slice (some ⟨B, 0, none⟩) N N) W1 rfl rfl HM.out ?_; refine Hid.out ?_)
  unfold Hid
  clear HM hwN
  go_wp2
  go_loopw [4] (fun i wr => ∃ m : Nat, m ≤ N ∧ i = .int .i64 m ∧ Keeps (fun _ => False) w wr ∧ Blk wr B (fI N (fun i => if i < m then markI i else 0)) 3) (fun i _ => N - (intOf i).toNat)
  case atStart => exact ⟨0, by omega, rfl, HB.out.2.1, by simpa using HB.out.1⟩
  case round =>
    obtain ⟨m, hm, rfl, hK, hB⟩ := hrel
    by_cases hlt : m < N
    · have hmz : (m : Int) < N := by omega
      have cu := hB.cell (fI_get _ hlt)
      have fu := hB.frozen m
      have HR : Hid (Keeps (fun _ => False) w (wr.setCell ⟨B, m, none⟩ (.int .i64 (markI m))) ∧ Blk (wr.setCell ⟨B, m, none⟩ (.int .i64 (markI m))) B (fI N (fun i => if i < m + 1 then markI i else 0)) 3 ∧ m < N) := by
        refine ⟨hK.setCell _ _ fun h => by have := HB.out.2.2.2.2.2.1; simp at h; omega, ?_, hlt⟩
        have h1 := hB.setCell m (.int .i64 (markI m))
        rw [fI_set] at h1
        rw [fI_congr (f := fun i => if i < m + 1 then markI i else 0) fun i hi => ?_]
        · exact h1
        · by_cases e : i = m
          · subst e; simp
          · by_cases e2 : i < m
            · have : i < m + 1 := by omega
              simp [e, e2, this]
            · have : ¬ i < m + 1 := by omega
              simp [e, e2, this]
      have hw : IntKind.i64.wrap (-5000 - (m : Int)) = -5000 - (m : Int) := by rw [IntKind.wrap_i64]; have := HB.out.2.2.2.2.2.2; omega
      have em : markI m = -5000 - (m : Int) := rfl
      rw [em] at HR
      clear hB hK hm hlt
      go_wp2
      go_roundw
      case rel => exact ⟨m + 1, by have := HR.out.2.2; omega, by go_num, HR.out.1, HR.out.2.1⟩
      case measure => have := HR.out.2.2; simp [intOf]; omega
    · obtain rfl : m = N := by omega
      have HR : Hid (Keeps (fun _ => False) w wr ∧ Blk wr B (fI m (fun i => markI i)) 3) := by
        refine ⟨hK, ?_⟩
        rw [fI_congr (g := fun i => if i < m then markI i else 0) fun i hi => by simp [hi]]
        exact hB
      clear hB hK hm hlt
      go_wp2
      go_loopw [5] (fun i wr => ∃ j : Nat, j ≤ n ∧ i = .int .i64 j ∧ Keeps (fun _ => False) w wr ∧ Blk wr B (fI m (fun i => if i < j then spareI ks i else markI i)) 3) (fun i _ => n - (intOf i).toNat)
      case atStart => exact ⟨0, by omega, rfl, HR.out.1, by simpa using HR.out.2⟩
      case round =>
        obtain ⟨j, hj, rfl, hK, hB⟩ := hrel
        by_cases hlt : j < n
        · obtain ⟨g1, g2, g3, g4, g5, g6, g7⟩ := HB.out
          have hju : j < ks.length := by omega
          rcases g3 with h0 | ⟨b, o, rfl, hcell⟩
          · exact absurd hju (by rw [h0]; simp)
          · have hjz : (j : Int) < n := by omega
            have hjm : (j : Int) < m := by omega
            have cx := cell_kept (hcell j hju) hK fun h => h
            have cu := hB.cell (fI_get _ (show j < m by omega))
            have fu := hB.frozen j
            obtain ⟨x, hxx⟩ : ∃ x, x = ks[j]'hju := ⟨_, rfl⟩
            rw [← hxx] at cx
            have HR2 : Hid (Keeps (fun _ => False) w (wr.setCell ⟨B, j, none⟩ (.int .i64 (x))) ∧ Blk (wr.setCell ⟨B, j, none⟩ (.int .i64 (x))) B (fI m (fun i => if i < j + 1 then spareI ks i else markI i)) 3 ∧ j < n) := by
              refine ⟨hK.setCell _ _ fun h => by simp at h; omega, ?_, hlt⟩
              have h1 := hB.setCell j (.int .i64 (x))
              rw [fI_set] at h1
              rw [fI_congr (f := fun i => if i < j + 1 then spareI ks i else markI i) fun i hi => ?_]
              · exact h1
              · by_cases e : i = j
                · subst e; simp [spareI, hju, hxx]
                · by_cases e2 : i < j
                  · have : i < j + 1 := by omega
                    simp [e, e2, this]
                  · have : ¬ i < j + 1 := by omega
                    simp [e, e2, this]
            clear hB hK hj hlt hcell hju hxx g1 g2 g4 g5 g6 g7 HR
            go_wp2
            go_roundw
            case rel => exact ⟨j + 1, by have := HR2.out.2.2; omega, by go_num, HR2.out.1, HR2.out.2.1⟩
            case measure => have := HR2.out.2.2; simp [intOf]; omega
        · obtain rfl : j = n := by omega
          have HR2 : Hid (Blk wr B (fI m (spareI ks)) 3 ∧ Keeps (fun _ => False) w wr) := by
            refine ⟨?_, hK⟩
            rw [fI_congr (g := fun i => if i < j then spareI ks i else markI i) fun i hi => ?_]
            · exact hB
            · by_cases e : i < j
              · simp [e]
              · have h1 : ks[i]? = none := by rw [List.getElem?_eq_none_iff]; have := HB.out.2.2.2.1; omega
                simp [e, spareI, h1]
          clear hB hK hj hlt HR
          go_wp2
          go_ret
          exact ⟨rfl, HR2.out⟩

set_option maxHeartbeats 2000000 in
theorem keptIBig (B : Nat) (a : Option Addr) (n c : Nat) (ks : List Int) (w : World) (hB : Blk w B (fI (n + 70) (spareI ks)) 3) (hs : SegI w a ks) (hn : n = ks.length) (hl : n ≤ 35184372087808) :
    Calls Try.prog 33 #[.slice (some ⟨B, 0, none⟩) n (n + 70), .slice a n c] w fun e w' => e = .returned (.bool true) ∧ w' = w := by
  obtain ⟨N, hN⟩ : ∃ N, N = n + 70 := ⟨_, rfl⟩
  have hwN : IntKind.i64.wrap ((n : Int) + 70) = (N : Int) := by rw [IntKind.wrap_i64]; omega
  have hN2 : (N : Int) ≤ 9000000000000000000 := by omega
  have hnN : (n : Int) ≤ N := by omega
  have hnz : (n : Int) + 70 = N := by omega
  rw [← hN] at hB ⊢
  have HB : Hid (Blk w B (fI N (spareI ks)) 3 ∧ SegI w a ks ∧ n = ks.length ∧ N ≤ 35184372087878) := ⟨hB, hs, hn, by omega⟩
  clear hB hs hn hN hl
  go_enter Try.func33, Try.ntmps33
  go_wp2
  go_loopw [6] (fun i wr => ∃ m : Nat, m ≤ N ∧ i = .int .i64 m ∧ wr = w) (fun i _ => N - (intOf i).toNat)
  case atStart => exact ⟨0, by omega, rfl, rfl⟩
  case round =>
    obtain ⟨m, hm, rfl, rfl⟩ := hrel
    by_cases hlt : m < N
    · obtain ⟨g1, g2, g3, g4⟩ := HB.out
      have hmz : (m : Int) < N := by omega
      have cu := g1.cell (fI_get _ hlt)
      have hw : IntKind.i64.wrap (-5000 - (m : Int)) = -5000 - (m : Int) := by rw [IntKind.wrap_i64]; omega
      have em : markI m = -5000 - (m : Int) := rfl
      have HM : Hid (m < N) := hlt
      by_cases hmn : m < n
      · have hmu : m < ks.length := by omega
        rcases g2 with h0 | ⟨b, o, rfl, hcell⟩
        · exact absurd hmu (by rw [h0]; simp)
        · have cx := hcell m hmu
          have e1 : spareI ks m = ks[m]'hmu := by simp [spareI, hmu]
          rw [e1] at cu
          obtain ⟨x, hxx⟩ : ∃ x, x = ks[m]'hmu := ⟨_, rfl⟩
          rw [← hxx] at cu cx
          have hmz2 : (m : Int) < n := by omega
          clear g1 g3 g4 hcell hxx e1 hmu hmn hlt hm
          go_wp2
          go_roundw
          case rel => exact ⟨m + 1, by have := HM.out; omega, by go_num, trivial⟩
          case measure => have := HM.out; simp [intOf]; omega
      · have e1 : spareI ks m = markI m := by
          have h1 : ks[m]? = none := by rw [List.getElem?_eq_none_iff]; omega
          simp [spareI, h1]
        rw [e1] at cu
        have hmz2 : ¬ ((m : Int) < n) := by omega
        clear g1 g2 g3 g4 e1 hmn hlt hm
        rw [em] at cu
        go_wp2
        go_roundw
        case rel => exact ⟨m + 1, by have := HM.out; omega, by go_num, trivial⟩
        case measure => have := HM.out; simp [intOf]; omega
    · obtain rfl : m = N := by omega
      go_wp2
      go_ret
      exact ⟨rfl, rfl⟩

theorem markWBig (i : Nat) (w : World) (hi : i ≤ 35184372088000) : Calls Try.prog 52 #[.int .i64 i] w fun e w' => e = .returned (.int .u32 ((markW i).toNat : Int)) ∧ w' = w := by
  have e : ((markW i).toNat : Int) = (2768240640 + ((i : Int) % 4294967296 * 7) % 4294967296) % 4294967296 := by
    unfold markW
    rw [UInt32.toNat_add, UInt32.toNat_mul, UInt32.toNat_ofNat']
    have h1 : (2768240640 : UInt32).toNat = 2768240640 := rfl
    have h2 : (7 : UInt32).toNat = 7 := rfl
    rw [h1, h2]
    omega
  rw [e]
  have HI : Hid (i ≤ 35184372088000) := hi
  clear hi e
  go_enter Try.func52, Try.ntmps52
  go_wp2
  go_ret
  refine ⟨ret_int ?_, rfl⟩
  first | rfl | (simp only [IntKind.wrap_u32]; omega) | (have := HI.out; omega)

theorem makeWBig (w : World) (N : Nat) (hN : N ≤ 35184372088000) : (Instr.makeSlice 22 (.int .i64 N) (.int .i64 N)).run Try.prog w = .ok (.slice (some ⟨w.heap.size, 0, none⟩) N N) (w.alloc (.cells (fW N (fun _ => 0)).toArray 52)) := by
  obtain ⟨i0, hi, hz0, hz1, hz2⟩ := info_parts Try.info52
  have h := run_make (P := Try.prog) w 22 52 i0 _ Try.underlying22 hi hz0 .i64 .i64 N N (by omega) (by omega) (by rw [hz2]; omega) (by omega)
  rw [hz1, Nat.mul_one, Int.toNat_natCast] at h
  have e : madeCells (Value.int .u32 0).cells N = (fW N (fun _ => 0)).toArray := by
    apply Array.ext'
    apply List.ext_getElem?
    intro i
    have hm : i % 1 = 0 := by omega
    by_cases hi : i < N
    · simp [madeCells, fW, hi, Value.cells, hm]
    · simp [madeCells, fW, hi]
  rw [e] at h
  exact h


set_option maxHeartbeats 2000000 in
theorem handWBig (a : Option Addr) (n c : Nat) (ks : List UInt32) (w : World) (hs : SegW w a ks) (hn : n = ks.length) (hl : n ≤ 35184372087808) :
    Calls Try.prog 26 #[.slice a n c] w fun e w' => e = .returned (.slice (some ⟨w.heap.size, 0, none⟩) n (n + 70)) ∧ Blk w' w.heap.size (fW (n + 70) (spareW ks)) 52 ∧ Keeps (fun _ => False) w w' := by
  obtain ⟨N, hN⟩ : ∃ N, N = n + 70 := ⟨_, rfl⟩
  obtain ⟨W1, hW1⟩ : ∃ W1, W1 = w.alloc (.cells (fW N (fun _ => 0)).toArray 52) := ⟨_, rfl⟩
  have HM : Hid ((Instr.makeSlice 22 (.int .i64 N) (.int .i64 N)).run Try.prog w = .ok (.slice (some ⟨w.heap.size, 0, none⟩) N N) W1) := by
    have := makeWBig w N (by omega)
    rw [hW1]; exact this
  have hB : Blk W1 w.heap.size (fW N (fun _ => 0)) 52 := by rw [hW1]; exact Blk.new w _ 52
  have hK : Keeps (fun _ => False) w W1 := by rw [hW1]; exact (Keeps.refl _ w).alloc _
  have hnN : (n : Int) + 70 = (N : Int) := by omega
  have hwN : IntKind.i64.wrap ((n : Int) + 70) = (N : Int) := by rw [IntKind.wrap_i64]; omega
  obtain ⟨B, hBB⟩ : ∃ B, B = w.heap.size := ⟨_, rfl⟩
  rw [← hN, ← hBB]
  rw [← hBB] at hB HM
  have HB : Hid (Blk W1 B (fW N (fun _ => 0)) 52 ∧ Keeps (fun _ => False) w W1 ∧ SegW w a ks ∧ n = ks.length ∧ N = n + 70 ∧ B = w.heap.size ∧ N ≤ 35184372087878) := ⟨hB, hK, hs, hn, hN, hBB, by omega⟩
  have hN2 : (N : Int) ≤ 9000000000000000000 := by omega
  have hnle : (n : Int) ≤ N := by omega
  clear hB hK hs hn hN hBB hW1 hl
  go_enter Try.func26, Try.ntmps26
  go_wp2_with (at_make; refine wpList_make_run rfl _ _ 22 rfl (.int .i64 N) (.int .i64 N) (.slice (some ⟨B, 0, none⟩) N N) W1 rfl rfl HM.out ?_; refine Hid.out ?_)
  unfold Hid
  clear HM hwN
  go_wp2
  go_loopw [4] (fun i wr => ∃ m : Nat, m ≤ N ∧ i = .int .i64 m ∧ Keeps (fun _ => False) w wr ∧ Blk wr B (fW N (fun i => if i < m then markW i else 0)) 52) (fun i _ => N - (intOf i).toNat)
  case atStart => exact ⟨0, by omega, rfl, HB.out.2.1, by simpa using HB.out.1⟩
  case round =>
    obtain ⟨m, hm, rfl, hK, hB⟩ := hrel
    by_cases hlt : m < N
    · have hmz : (m : Int) < N := by omega
      have cu := hB.cell (fW_get _ hlt)
      have fu := hB.frozen m
      have HR : Hid (Keeps (fun _ => False) w (wr.setCell ⟨B, m, none⟩ (.int .u32 ((markW m).toNat : Int))) ∧ Blk (wr.setCell ⟨B, m, none⟩ (.int .u32 ((markW m).toNat : Int))) B (fW N (fun i => if i < m + 1 then markW i else 0)) 52 ∧ m < N) := by
        refine ⟨hK.setCell _ _ fun h => by have := HB.out.2.2.2.2.2.1; simp at h; omega, ?_, hlt⟩
        have h1 := hB.setCell m (.int .u32 ((markW m).toNat : Int))
        rw [fW_set] at h1
        rw [fW_congr (f := fun i => if i < m + 1 then markW i else 0) fun i hi => ?_]
        · exact h1
        · by_cases e : i = m
          · subst e; simp
          · by_cases e2 : i < m
            · have : i < m + 1 := by omega
              simp [e, e2, this]
            · have : ¬ i < m + 1 := by omega
              simp [e, e2, this]
      have HMk : Hid (Calls _ _ _ _ _) := markWBig m wr (by have := HB.out.2.2.2.2.2.2; omega)
      obtain ⟨mk, hmk⟩ : ∃ mk : Nat, mk = (markW m).toNat := ⟨_, rfl⟩
      rw [← hmk] at HR HMk
      clear hmk
      clear hB hK hm hlt
      go_wp2_with fail
      refine HMk.out.mono ?_
      rintro e w1 ⟨rfl, hw⟩
      obtain rfl := hw.symm
      clear hw HMk
      go_wp2
      go_roundw
      case rel => exact ⟨m + 1, by have := HR.out.2.2; omega, by go_num, HR.out.1, HR.out.2.1⟩
      case measure => have := HR.out.2.2; simp [intOf]; omega
    · obtain rfl : m = N := by omega
      have HR : Hid (Keeps (fun _ => False) w wr ∧ Blk wr B (fW m (fun i => markW i)) 52) := by
        refine ⟨hK, ?_⟩
        rw [fW_congr (g := fun i => if i < m then markW i else 0) fun i hi => by simp [hi]]
        exact hB
      clear hB hK hm hlt
      go_wp2
      go_loopw [5] (fun i wr => ∃ j : Nat, j ≤ n ∧ i = .int .i64 j ∧ Keeps (fun _ => False) w wr ∧ Blk wr B (fW m (fun i => if i < j then spareW ks i else markW i)) 52) (fun i _ => n - (intOf i).toNat)
      case atStart => exact ⟨0, by omega, rfl, HR.out.1, by simpa using HR.out.2⟩
      case round =>
        obtain ⟨j, hj, rfl, hK, hB⟩ := hrel
        by_cases hlt : j < n
        · obtain ⟨g1, g2, g3, g4, g5, g6, g7⟩ := HB.out
          have hju : j < ks.length := by omega
          rcases g3 with h0 | ⟨b, o, rfl, hcell⟩
          · exact absurd hju (by rw [h0]; simp)
          · have hjz : (j : Int) < n := by omega
            have hjm : (j : Int) < m := by omega
            have cx := cell_kept (hcell j hju) hK fun h => h
            have cu := hB.cell (fW_get _ (show j < m by omega))
            have fu := hB.frozen j
            obtain ⟨x, hxx⟩ : ∃ x, x = ks[j]'hju := ⟨_, rfl⟩
            rw [← hxx] at cx
            have HR2 : Hid (Keeps (fun _ => False) w (wr.setCell ⟨B, j, none⟩ (.int .u32 ((x).toNat : Int))) ∧ Blk (wr.setCell ⟨B, j, none⟩ (.int .u32 ((x).toNat : Int))) B (fW m (fun i => if i < j + 1 then spareW ks i else markW i)) 52 ∧ j < n) := by
              refine ⟨hK.setCell _ _ fun h => by simp at h; omega, ?_, hlt⟩
              have h1 := hB.setCell j (.int .u32 ((x).toNat : Int))
              rw [fW_set] at h1
              rw [fW_congr (f := fun i => if i < j + 1 then spareW ks i else markW i) fun i hi => ?_]
              · exact h1
              · by_cases e : i = j
                · subst e; simp [spareW, hju, hxx]
                · by_cases e2 : i < j
                  · have : i < j + 1 := by omega
                    simp [e, e2, this]
                  · have : ¬ i < j + 1 := by omega
                    simp [e, e2, this]
            clear hB hK hj hlt hcell hju hxx g1 g2 g4 g5 g6 g7 HR
            go_wp2
            go_roundw
            case rel => exact ⟨j + 1, by have := HR2.out.2.2; omega, by go_num, HR2.out.1, HR2.out.2.1⟩
            case measure => have := HR2.out.2.2; simp [intOf]; omega
        · obtain rfl : j = n := by omega
          have HR2 : Hid (Blk wr B (fW m (spareW ks)) 52 ∧ Keeps (fun _ => False) w wr) := by
            refine ⟨?_, hK⟩
            rw [fW_congr (g := fun i => if i < j then spareW ks i else markW i) fun i hi => ?_]
            · exact hB
            · by_cases e : i < j
              · simp [e]
              · have h1 : ks[i]? = none := by rw [List.getElem?_eq_none_iff]; have := HB.out.2.2.2.1; omega
                simp [e, spareW, h1]
          clear hB hK hj hlt HR
          go_wp2
          go_ret
          exact ⟨rfl, HR2.out⟩

set_option maxHeartbeats 2000000 in
theorem keptWBig (B : Nat) (a : Option Addr) (n c : Nat) (ks : List UInt32) (w : World) (hB : Blk w B (fW (n + 70) (spareW ks)) 52) (hs : SegW w a ks) (hn : n = ks.length) (hl : n ≤ 35184372087808) :
    Calls Try.prog 28 #[.slice (some ⟨B, 0, none⟩) n (n + 70), .slice a n c] w fun e w' => e = .returned (.bool true) ∧ w' = w := by
  obtain ⟨N, hN⟩ : ∃ N, N = n + 70 := ⟨_, rfl⟩
  have hwN : IntKind.i64.wrap ((n : Int) + 70) = (N : Int) := by rw [IntKind.wrap_i64]; omega
  have hN2 : (N : Int) ≤ 9000000000000000000 := by omega
  have hnN : (n : Int) ≤ N := by omega
  have hnz : (n : Int) + 70 = N := by omega
  rw [← hN] at hB ⊢
  have HB : Hid (Blk w B (fW N (spareW ks)) 52 ∧ SegW w a ks ∧ n = ks.length ∧ N ≤ 35184372087878) := ⟨hB, hs, hn, by omega⟩
  clear hB hs hn hN hl
  go_enter Try.func28, Try.ntmps28
  go_wp2
  go_loopw [6] (fun i wr => ∃ m : Nat, m ≤ N ∧ i = .int .i64 m ∧ wr = w) (fun i _ => N - (intOf i).toNat)
  case atStart => exact ⟨0, by omega, rfl, rfl⟩
  case round =>
    obtain ⟨m, hm, rfl, rfl⟩ := hrel
    by_cases hlt : m < N
    · obtain ⟨g1, g2, g3, g4⟩ := HB.out
      have hmz : (m : Int) < N := by omega
      have cu := g1.cell (fW_get _ hlt)
      have HMk : Hid (Calls _ _ _ _ _) := markWBig m wr (by omega)
      have HM : Hid (m < N) := hlt
      by_cases hmn : m < n
      · have hmu : m < ks.length := by omega
        rcases g2 with h0 | ⟨b, o, rfl, hcell⟩
        · exact absurd hmu (by rw [h0]; simp)
        · have cx := hcell m hmu
          have e1 : spareW ks m = ks[m]'hmu := by simp [spareW, hmu]
          rw [e1] at cu
          obtain ⟨x, hxx⟩ : ∃ x, x = ks[m]'hmu := ⟨_, rfl⟩
          rw [← hxx] at cu cx
          have hmz2 : (m : Int) < n := by omega
          clear g1 g3 g4 hcell hxx e1 hmu hmn hlt hm
          go_wp2_with fail
          refine HMk.out.mono ?_
          rintro e w1 ⟨rfl, hw⟩
          obtain rfl := hw.symm
          clear hw HMk
          go_wp2
          go_roundw
          case rel => exact ⟨m + 1, by have := HM.out; omega, by go_num, trivial⟩
          case measure => have := HM.out; simp [intOf]; omega
      · have e1 : spareW ks m = markW m := by
          have h1 : ks[m]? = none := by rw [List.getElem?_eq_none_iff]; omega
          simp [spareW, h1]
        rw [e1] at cu
        have hmz2 : ¬ ((m : Int) < n) := by omega
        clear g1 g2 g3 g4 e1 hmn hlt hm
        obtain ⟨mk, hmk⟩ : ∃ mk : Nat, mk = (markW m).toNat := ⟨_, rfl⟩
        rw [← hmk] at cu HMk
        clear hmk
        go_wp2_with fail
        refine HMk.out.mono ?_
        rintro e w1 ⟨rfl, hw⟩
        obtain rfl := hw.symm
        clear hw HMk
        go_wp2
        go_roundw
        case rel => exact ⟨m + 1, by have := HM.out; omega, by go_num, trivial⟩
        case measure => have := HM.out; simp [intOf]; omega
    · obtain rfl : m = N := by omega
      go_wp2
      go_ret
      exact ⟨rfl, rfl⟩

theorem append_wordBig {w : World} (x : Int) (v : Value) (n : Nat) (vs : List Value) (hown : w.ownsRow 0 52 1 v n vs) (hn : n ≤ 35184372088000) :
    ∃ v' W', (∀ ty, (Builtin.append_ #[22, 22] ty #[v, .slice (some ⟨w.heap.size, 0, none⟩) 1 1]).run Try.prog (w.alloc (.cells #[.int .u32 x] 52)) = .ok v' W') ∧ W'.ownsRow 0 52 1 v' (n + 1) (vs ++ [.int .u32 x]) ∧
      (v'.ownBlock = v.ownBlock ∨ ∃ k, v'.ownBlock = some k ∧ w.heap.size ≤ k) ∧ Keeps (fun k => some k = v.ownBlock) w W' := by
  obtain ⟨i0, hi, hz0, hz1, hz2⟩ := info_parts Try.info52
  exact append_new 22 52 i0 _ 1 4 Try.underlying22 hi hz0 hz1 hz2 rfl (by omega) v n vs hown #[.int .u32 x] rfl (by intro u hu; simp at hu; rw [hu]; rfl) (by unfold maxLen; omega) (by omega)

set_option maxHeartbeats 2000000 in
theorem spoilWordsBig (B n cap : Nat) (f : Nat → Int) (mark : Int) (w : World) (hB : Blk w B (fU cap f) 52) (hl : n ≤ 35184372087808) (hc : n ≤ cap) (hc2 : cap ≤ 35184372087900) :
    Calls Try.prog 29 #[.slice (some ⟨B, 0, none⟩) n cap, .int .u32 mark] w fun e w' => e = .returned (.tuple #[]) ∧ Keeps (· = B) w w' := by
  have hN2 : (n : Int) ≤ 35184372087808 := by omega
  have hnN : (n : Int) ≤ cap := by omega
  have hcc : (cap : Int) ≤ 35184372087900 := by omega
  have HB : Hid (Blk w B (fU cap f) 52 ∧ n ≤ cap ∧ n ≤ 35184372087808 ∧ cap ≤ 35184372087900) := ⟨hB, hc, hl, hc2⟩
  clear hB hl hc hc2
  go_enter Try.func29, Try.ntmps29
  go_wp2
  go_loopw [4] (fun i wr => ∃ (m : Nat) (g : Nat → Int), m ≤ n ∧ i = .int .i64 m ∧ Keeps (· = B) w wr ∧ Blk wr B (fU cap g) 52) (fun i _ => n - (intOf i).toNat)
  case atStart => exact ⟨0, f, by omega, rfl, Keeps.refl _ _, HB.out.1⟩
  case round =>
    obtain ⟨m, g, hm, rfl, hK, hb⟩ := hrel
    by_cases hlt : m < n
    · have hmz : (m : Int) < n := by omega
      have cu := hb.cell (fU_get g (show m < cap by have := HB.out.2; omega))
      have fu := hb.frozen m
      have HR : Hid (∀ x : Int, Keeps (· = B) w (wr.setCell ⟨B, m, none⟩ (.int .u32 x)) ∧ ∃ g, Blk (wr.setCell ⟨B, m, none⟩ (.int .u32 x)) B (fU cap g) 52) := fun x => by
        have h1 := hb.setCell m (.int .u32 x)
        rw [fU_set] at h1
        exact ⟨hK.setCell _ _ fun _ => rfl, _, h1⟩
      have HM : Hid (m < n) := hlt
      clear hb hK hm hlt
      go_wp2
      go_roundw
      case rel =>
        obtain ⟨h1, g, h2⟩ := HR.out _
        exact ⟨m + 1, g, by have := HM.out; omega, by go_num, h1, h2⟩
      case measure => have := HM.out; simp [intOf]; omega
    · obtain rfl : m = n := by omega
      have HR : Hid (wr.ownsRow 0 52 1 (.slice (some ⟨B, 0, none⟩) m cap) m ((fU cap g).take m) ∧ Keeps (· = B) w wr) := by
        refine ⟨⟨by rw [List.length_take, fU_length]; have := HB.out; omega, .inr ⟨B, cap, _, rfl, Nat.zero_le _, hb, by have := HB.out; omega, by unfold maxLen; have := HB.out; omega, ?_, ?_⟩⟩, hK⟩
        · simp [fU_length]
        · simp
      clear hb hK hm hlt
      obtain ⟨wo, hwo⟩ : ∃ wo, wo = wr := ⟨_, rfl⟩
      subst hwo
      go_wp2
      go_loopw [0, 5] (fun v i wr => ∃ (j : Nat) (vs : List Value), j ≤ 72 ∧ i = .int .i64 j ∧ wr.ownsRow 0 52 1 v (m + j) vs ∧ Grew wo (.slice (some ⟨B, 0, none⟩) m cap) wr v) (fun _ i _ => 72 - (intOf i).toNat)
      case atStart => exact ⟨0, _, by omega, rfl, HR.out.1, Grew.refl _ _⟩
      case round =>
        obtain ⟨j, vs, hj, rfl, hO, hG⟩ := hrel
        by_cases hlt : j < 72
        · obtain ⟨a, c, rfl⟩ := owns_form hO
          have hjz : (j : Int) < 72 := by omega
          have HAP : Hid (∀ z : Int, ∃ v' W', (∀ ty, (Builtin.append_ #[22, 22] ty #[.slice a (m + j) c, .slice (some ⟨wr.heap.size, 0, none⟩) 1 1]).run Try.prog (wr.alloc (.cells #[.int .u32 z] 52)) = .ok v' W') ∧ ((∃ vs', W'.ownsRow 0 52 1 v' (m + (j + 1)) vs') ∧ Grew wo (.slice (some ⟨B, 0, none⟩) m cap) W' v')) := fun z => by
            obtain ⟨v', W', h1, h2, h3, h4⟩ := append_wordBig z (.slice a (m + j) c) _ _ hO (by have := HB.out; omega)
            exact ⟨v', W', h1, ⟨_, by rw [← Nat.add_assoc]; exact h2⟩, hG.trans ⟨h3, h4⟩⟩
          have HJ : Hid (j < 72) := hlt
          clear hO hG hj hlt
          go_wp2_with (at_builtin; go_must (refine wpList_append_ex rfl _ _ 22 22 rfl (.slice a (m + j) c) wr rfl rfl (fun v' W' => (∃ vs', W'.ownsRow 0 52 1 v' (m + (j + 1)) vs') ∧ Grew wo (.slice (some ⟨B, 0, none⟩) m cap) W' v') HAP.out _ ?_; intro v' W' hR2; refine Hid.out ?_))
          unfold Hid
          have HR2 : Hid ((∃ vs', W'.ownsRow 0 52 1 v' (m + (j + 1)) vs') ∧ Grew wo (.slice (some ⟨B, 0, none⟩) m cap) W' v') := hR2
          clear hR2
          go_wp2
          go_roundw
          case rel =>
            obtain ⟨⟨vs', h1⟩, h2⟩ := HR2.out
            exact ⟨j + 1, vs', by have := HJ.out; omega, by go_num, h1, h2⟩
          case measure => have := HJ.out; simp [intOf]; omega
        · obtain rfl : j = 72 := by omega
          have HR2 : Hid (Keeps (· = B) w wr) := by
            refine HR.out.2.trans (hG.keeps.mono (T := (· = B)) fun b hb he => ?_) fun _ _ h => h
            simpa [Value.ownBlock] using he
          clear hO hG hj hlt
          go_wp2
          go_end0
          exact ⟨rfl, HR2.out⟩

end Go.Proofs.Ytekijhhpldnmnaa
