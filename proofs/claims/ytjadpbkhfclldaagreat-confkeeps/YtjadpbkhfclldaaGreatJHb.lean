import Derived.Test.YtjadpbkhfclldaaGreatJFb
import Derived.Test.YtjadpbkhfclldaaGreatJOa
namespace Go.Proofs.YtjadpbkhfclldaaGreat
open Go.RowKit
set_option linter.unusedVariables false
set_option maxRecDepth 6000

/-- A row that has no room. -/
structure Full (w : World) (g : Nat) (xs : List UInt8) : Prop where
  seg : ∀ j, (h : j < xs.length) → w.cell? ⟨g, j, none⟩ = some (.int .u8 (xs[j].toNat : Int))
  lt : g < w.heap.size
theorem append_full {w : World} (g : Nat) (xs : List UInt8) (x : Nat) (hx : x < 256) (h : Full w g xs) (hn : xs.length + 1 ≤ 140737488355328) :
    ∃ v' W', (∀ ty, (Builtin.append_ #[28, 28] ty #[.slice (some ⟨g, 0, none⟩) xs.length xs.length, .slice (some ⟨w.heap.size, 0, none⟩) 1 1]).run Tryz.prog (w.alloc (.cells #[.int .u8 x] 5)) = .ok v' W') ∧ BR W' v' (xs ++ lowB 1 x) ∧ (∀ k, v'.ownBlock = some k → w.heap.size ≤ k) ∧ Keeps (fun _ => False) w W' := by
  obtain ⟨i, hi, hz, hs, hb⟩ := info_parts Tryz.info5
  obtain ⟨W1, hW1⟩ : ∃ W1, W1 = w.alloc (.cells #[.int .u8 x] 5) := ⟨_, rfl⟩
  have hK1 : Keeps (fun _ => False) w W1 := by rw [hW1]; exact (Keeps.refl _ w).alloc _
  have hBn : Blk W1 w.heap.size [.int .u8 x] 5 := by rw [hW1]; exact Blk.new w _ _
  have hrun := fun ty => run_append_grow (P := Tryz.prog) W1 28 ty 5 i (.int .u8 0) Tryz.underlying28 hi hz ⟨g, 0, none⟩ xs.length xs.length (bvs xs) (by rw [hs, bvs_length, Nat.mul_one]) (by
      intro j v hj
      have hjl : j < xs.length := by rw [← bvs_length]; exact (List.getElem?_eq_some_iff.1 hj).1
      rw [bvs_get xs j hjl] at hj
      cases hj
      rw [addr_add, Nat.zero_add, World.cell?_of_block (w := w) (hK1.block g h.lt fun e => e)]
      exact h.seg j hjl) ⟨w.heap.size, 0, none⟩ 1 1 [.int .u8 x] (by rw [hs]; rfl) (by
      intro j v hj
      rw [addr_add, Nat.zero_add]
      exact hBn.cell hj) (by omega) (by omega) (by rw [hb]; exact growslice_fits (by omega) (by omega))
  have he : bvs (xs ++ lowB 1 x) = bvs xs ++ [Value.int .u8 x] := by
    rw [bvs_append]
    congr 1
    have : (UInt8.ofNat x).toNat = x := by rw [UInt8.toNat_ofNat']; omega
    simp [bvs, lowB, this]
  have hlen : (xs ++ lowB 1 x).length = xs.length + 1 := by rw [List.length_append, lowB_len]
  have hge := grownCap_ge W1 (xs.length + 1) xs.length 5
  refine ⟨_, _, fun ty => by rw [← hW1]; exact hrun ty, ⟨by rw [bvs_length, Nat.mul_one], .inr ⟨W1.heap.size, _, _, by rw [hlen], Nat.zero_le _, heap_alloc_new W1.drew _, by rw [hlen]; exact hge, grownCap_le_maxLen W1 _ _ 5 (by unfold maxLen; omega), ?_, ?_⟩⟩, fun k hk => ?_, (hK1.drew).alloc _⟩
  · rw [zeroCells_bytes]; simp [bvs_length]; omega
  · rw [hlen, he, zeroCells_bytes, Nat.mul_one]
    simp only [Array.toList_append]
    rw [List.take_append_of_le_length (by simp [bvs_length])]
    exact List.take_of_length_le (by simp [bvs_length])
  · have e2 : W1.heap.size = k := Option.some.inj hk
    have := hK1.size
    omega

def FullRel (g L : Nat) (w : World) (xs : List UInt8) (N j : Nat) (b : Value) (wr : World) : Prop := ((j = 0 ∧ b = .slice (some ⟨g, 0, none⟩) L L ∧ wr = w) ∨ (1 ≤ j ∧ BR wr b (xs ++ lowB j N) ∧ (∀ k, Value.ownBlock b = some k → w.heap.size ≤ k) ∧ Keeps (fun _ => False) w wr))

/-- A number behind a row that has no room. -/
theorem fnumber_full (g : Nat) (xs : List UInt8) (n : Int) (w : World) (h : Full w g xs) (hn : wN n = false) (hx : xs.length + 4 ≤ 140737488355328) :
    Calls Tryz.prog 34 #[.slice (some ⟨g, 0, none⟩) xs.length xs.length, .int .i64 n] w fun e w' => ∃ u', e = .returned u' ∧ BR w' u' (xs ++ nb n) ∧ (∀ k, u'.ownBlock = some k → w.heap.size ≤ k) ∧ Keeps (fun _ => False) w w' := by
  have hb := wN_bd hn
  obtain ⟨N, rfl⟩ : ∃ N : Nat, n = N := ⟨n.toNat, by omega⟩
  obtain ⟨L, hL⟩ : ∃ L, xs.length = L := ⟨_, rfl⟩
  have HB : Hid ((Full w g xs ∧ xs.length = L) ∧ (N : Int) ≤ 4294967295 ∧ nb (N : Int) = lowB 4 N) := ⟨⟨h, hL⟩, hb.2, by unfold nb; congr 1; omega⟩
  rw [hL]
  have hx' : L + 4 ≤ 140737488355328 := by omega
  clear h hn hb hL
  go_enter Tryz.func34, Tryz.ntmps34
  go_wp2
  go_loopw [0, 1, 5] (fun b m i wr => ∃ j : Nat, j ≤ 4 ∧ i = .int .i64 j ∧ m = .int .i64 ((N / 256 ^ j : Nat) : Int) ∧ FullRel g L w xs N j b wr) (fun _ _ i _ => 4 - (intOf i).toNat)
  case atStart => exact ⟨0, by omega, rfl, by simp, .inl ⟨rfl, rfl, rfl⟩⟩
  case round =>
    obtain ⟨j, hj, rfl, rfl, hR⟩ := hrel
    by_cases hlt : j < 4
    · obtain ⟨M, hM⟩ : ∃ M, N / 256 ^ j = M := ⟨_, rfl⟩
      have hMle : M ≤ N := by rw [← hM]; exact Nat.div_le_self _ _
      have hMb : (M : Int) ≤ 4294967295 := by have := HB.out.2.1; omega
      have key : ∃ v' W', (∀ ty, (Builtin.append_ #[28, 28] ty #[u0, .slice (some ⟨wr.heap.size, 0, none⟩) 1 1]).run Tryz.prog (wr.alloc (.cells #[.int .u8 ((M % 256 : Nat) : Int)] 5)) = .ok v' W') ∧ BR W' v' (xs ++ lowB j N ++ lowB 1 (M % 256)) ∧ (∀ k, Value.ownBlock v' = some k → w.heap.size ≤ k) ∧ Keeps (fun _ => False) w W' := by
        rcases hR with ⟨h0, hb, hw⟩ | ⟨h1, hbr, hfr, hKe⟩
        · subst h0 hb hw
          obtain ⟨v', W', a1, a2, a3, a4⟩ := append_full g xs (M % 256) (by omega) HB.out.1.1 (by have := HB.out.1.2; omega)
          rw [HB.out.1.2] at a1
          exact ⟨v', W', a1, by simpa [lowB] using a2, a3, a4⟩
        · obtain ⟨v', W', a1, a2, a3⟩ := append_byte u0 (xs ++ lowB j N) (M % 256) (by omega) hbr (by rw [List.length_append, lowB_len]; have := HB.out.1.2; omega)
          exact ⟨v', W', a1, a2, a3.hi hKe.size hfr, hKe.trans a3.kp fun k hk e => by have := hfr k e.symm; omega⟩
      obtain ⟨v', W', happ, hR', hfr', hKe'⟩ := key
      have HAP : Hid (∀ ty, (Builtin.append_ #[28, 28] ty #[u0, .slice (some ⟨wr.heap.size, 0, none⟩) 1 1]).run Tryz.prog (wr.alloc (.cells #[.int .u8 ((M % 256 : Nat) : Int)] 5)) = .ok v' W') := happ
      have HN : Hid (BR W' v' (xs ++ lowB (j + 1) N) ∧ ((∀ k, Value.ownBlock v' = some k → w.heap.size ≤ k) ∧ Keeps (fun _ => False) w W') ∧ N / 256 ^ (j + 1) = M / 256) := by
        refine ⟨?_, ⟨hfr', hKe'⟩, by rw [Nat.pow_succ, ← Nat.div_div_eq_div_mul, hM]⟩
        have e : xs ++ lowB (j + 1) N = xs ++ lowB j N ++ lowB 1 (M % 256) := by
          rw [lowB_succ, List.append_assoc, hM]
          congr 2
          have : UInt8.ofNat M = UInt8.ofNat (M % 256) := by
            apply UInt8.toNat_inj.1; rw [UInt8.toNat_ofNat', UInt8.toNat_ofNat']; omega
          simp [lowB, this]
        rw [e]; exact hR'
      have h1 : (M : Int).tmod 256 = ((M % 256 : Nat) : Int) := by rw [Int.tmod_eq_emod_of_nonneg (by omega)]; omega
      have h2 : (M : Int).tdiv 256 = ((M / 256 : Nat) : Int) := by rw [Int.tdiv_eq_ediv_of_nonneg (by omega)]; omega
      have h3 : IntKind.u8.wrap ((M % 256 : Nat) : Int) = ((M % 256 : Nat) : Int) := by rw [IntKind.wrap_u8']; omega
      obtain ⟨R, hR2⟩ : ∃ R, M % 256 = R := ⟨_, rfl⟩
      obtain ⟨D, hD2⟩ : ∃ D, M / 256 = D := ⟨_, rfl⟩
      rw [hM]
      rw [hR2] at h1 h3 HAP
      rw [hD2] at h2 HN
      have hRb : (R : Int) < 256 := by omega
      have hDb : (D : Int) ≤ 4294967295 := by omega
      clear happ hR' hfr' hKe' hR hMle hR2 hD2 hM
      go_wp2_with (at_builtin; go_must (refine wpList_append_run rfl (.tmp 7) (.tmp 11) 28 28 rfl u0 (.slice (some ⟨wr.heap.size, 0, none⟩) 1 1) v' W' rfl rfl HAP.out ?_; refine Hid.out ?_))
      unfold Hid
      clear HAP
      go_wp2
      go_roundw
      case rel => exact ⟨j + 1, by omega, by go_num, by rw [HN.out.2.2], .inr ⟨by omega, HN.out.1, HN.out.2.1.1, HN.out.2.1.2⟩⟩
      case measure => simp [intOf]; omega
    · obtain rfl : j = 4 := by omega
      have HN : Hid (BR wr u0 (xs ++ nb (N : Int)) ∧ (∀ k, Value.ownBlock u0 = some k → w.heap.size ≤ k) ∧ Keeps (fun _ => False) w wr) := by
        rcases hR with ⟨h0, _⟩ | ⟨_, h1, h2, h3⟩
        · omega
        · exact ⟨by rw [HB.out.2.2]; exact h1, h2, h3⟩
      clear hR
      go_wp2
      go_ret
      exact ⟨u0, rfl, HN.out⟩

/-- The bytes of a constant, as the model has them. -/
theorem conv_mark {w : World} (g : Nat) (cs : List Value) (n c : Nat) (h : Blk w g cs 5) : (convert 28 28 (.slice (some ⟨g, 0, none⟩) n c)).run Tryz.prog w = .ok (.slice (some ⟨g, 0, none⟩) n c) (w.freeze ⟨g, cs.length, none⟩ 1) := by
  have hsh : w.shape? g = some (5, cs.length) := by
    unfold Blk at h
    simp [World.shape?, h]
  unfold convert
  simp only [Sem.run_bind, run_underlying Tryz.underlying28, Result.andThen_ok]
  simp [run_underlying Tryz.underlying5, markStringish, hsh]
theorem freeze_full {w : World} (g k : Nat) (xs : List UInt8) (h : Blk w g (bvs xs) 5) : Full (w.freeze ⟨g, k, none⟩ 1) g xs ∧ Keeps (· = g) w (w.freeze ⟨g, k, none⟩ 1) := by
  have hheap : ∀ b, b ≠ g → (w.freeze ⟨g, k, none⟩ 1).heap[b]? = w.heap[b]? := by
    intro b hb
    have : g ≠ b := fun e => hb e.symm
    simp [World.freeze, Array.getElem?_modify, this]
  have hg : ∃ fz, (w.freeze ⟨g, k, none⟩ 1).heap[g]? = some (.cells (bvs xs).toArray 5 fz) := by
    unfold Blk at h
    refine ⟨(k, k + 1), ?_⟩
    simp [World.freeze, Array.getElem?_modify, h]
  have hsz : (w.freeze ⟨g, k, none⟩ 1).heap.size = w.heap.size := by simp [World.freeze]
  obtain ⟨fz, hg⟩ := hg
  refine ⟨⟨fun j hj => ?_, by rw [hsz]; exact h.lt⟩, ⟨rfl, rfl, rfl, by rw [hsz]; exact Nat.le_refl _, fun b _ hb => hheap b hb⟩⟩
  have : (bvs xs)[j]? = some (.int .u8 (xs[j].toNat : Int)) := bvs_get xs j hj
  simp [World.cell?, hg, this]
end Go.Proofs.YtjadpbkhfclldaaGreat
namespace Go.Proofs.YtjadpbkhfclldaaGreat
open Go.RowKit
set_option linter.unusedVariables false
set_option maxRecDepth 6000

theorem ret_b {a b : Bool} (h : a = b) : Ending.returned (.bool a) = .returned (.bool b) := by rw [h]

set_option maxHeartbeats 1000000 in
theorem may_any (gl : Nat) (ns : List Int) (t : TypeId) (w : World) (hB : Blk w gl (ivs ns) t) (hl : ns.length ≤ 8) :
    Calls Tryz.prog 31 #[.slice (some ⟨gl, 0, none⟩) ns.length ns.length] w fun e w' => e = .returned (.bool (!wNs ns)) ∧ w' = w := by
  obtain ⟨L, hL⟩ : ∃ L, L = ns.length := ⟨_, rfl⟩
  have HS : Hid (Blk w gl (ivs ns) t ∧ L = ns.length) := ⟨hB, hL⟩
  rw [← hL] at hl ⊢
  clear hB hL
  go_enter Tryz.func31, Tryz.ntmps31
  go_wp2
  go_loopw [6] (fun i wr => ∃ j : Nat, j ≤ L ∧ i = .int .i64 j ∧ (ns.take j).any wN = false ∧ wr = w) (fun i _ => L - (intOf i).toNat)
  case atStart => exact ⟨0, by omega, rfl, by simp, rfl⟩
  case round =>
    obtain ⟨j, hj, rfl, hn, rfl⟩ := hrel
    by_cases hlt : j < L
    · obtain ⟨n, hy⟩ : ∃ n, ns[j]? = some n := ⟨_, List.getElem?_eq_getElem (by have := HS.out.2; omega)⟩
      have y0 : wr.cell? ⟨gl, j, none⟩ = some (.int .i64 n) := HS.out.1.cell (by simp [ivs, hy])
      have HY : Hid (ns[j]? = some n ∧ (ns.take j).any wN = false) := ⟨hy, hn⟩
      clear hy hn
      by_cases h1 : n < 0
      · have HQ : Hid (wNs ns = true) := List.any_eq_true.2 ⟨n, List.mem_of_getElem? HY.out.1, by simp [wN, h1]⟩
        go_wp2
        go_ret
        exact ⟨ret_b (by rw [HQ.out]; rfl), rfl⟩
      · by_cases h2 : 4294967295 < n
        · have HQ : Hid (wNs ns = true) := List.any_eq_true.2 ⟨n, List.mem_of_getElem? HY.out.1, by simp [wN, h2]⟩
          go_wp2
          go_ret
          exact ⟨ret_b (by rw [HQ.out]; rfl), rfl⟩
        · have HF : Hid ((ns.take (j + 1)).any wN = false) := by
            show (ns.take (j + 1)).any wN = false
            rw [take_any wN ns j n HY.out.1, HY.out.2]; simp [wN, h1, h2]
          go_wp2
          go_roundw
          case rel => exact ⟨j + 1, by omega, by go_num, HF.out, by first | rfl | trivial⟩
          case measure => simp [intOf]; omega
    · obtain rfl : j = L := by omega
      have HQ : Hid (wNs ns = false) := by
        rw [List.take_of_length_le (by have := HS.out.2; omega)] at hn; exact hn
      clear hn
      go_wp2
      go_ret
      exact ⟨ret_b (by rw [HQ.out]; rfl), rfl⟩
theorem may_at {w w1 : World} (N : Nat) (ns : List Int) (hN : N = w1.heap.size) (hl : ns.length ≤ 8) :
    Calls Tryz.prog 31 #[.slice (some ⟨N, 0, none⟩) ns.length ns.length] (w1.alloc (.cells (ivs ns).toArray 3)) fun e w' => e = .returned (.bool (!wNs ns)) ∧ w' = w1.alloc (.cells (ivs ns).toArray 3) := by
  subst hN
  exact may_any w1.heap.size ns 3 _ (Blk.new w1 (ivs ns).toArray 3) hl

set_option maxHeartbeats 2000000 in
theorem holdsWindows_any (a : Option Addr) (c : Nat) (l : List Win) (w : World) (hs : SegA Win.vs 3 w a l) (hl : l.length ≤ c ∧ c ≤ maxLen) :
    Calls Tryz.prog 32 #[.slice a l.length c] w fun e w' => e = .returned (.bool (!listW Win.d2 l)) ∧ Keeps (fun _ => False) w w' := by
  obtain ⟨L, hL⟩ : ∃ L, L = l.length := ⟨_, rfl⟩
  have HS : Hid (SegA Win.vs 3 w a l ∧ L = l.length) := ⟨hs, hL⟩
  rw [← hL] at hl ⊢
  have hc2 : (L : Int) ≤ c := by omega
  have hc3 : (c : Int) ≤ 9223372036854775807 := by unfold maxLen at hl; omega
  clear hs hL hl
  go_enter Tryz.func32, Tryz.ntmps32
  go_wp2
  go_loopw [7] (fun i wr => ∃ j : Nat, j ≤ L ∧ i = .int .i64 j ∧ (l.take j).any Win.d2 = false ∧ Keeps (fun _ => False) w wr) (fun i _ => L - (intOf i).toNat)
  case atStart => exact ⟨0, by omega, rfl, by simp, Keeps.refl _ _⟩
  case round =>
    obtain ⟨j, hj, rfl, hn, hK⟩ := hrel
    by_cases hlt : j < L
    · obtain ⟨y, hy⟩ : ∃ y, l[j]? = some y := ⟨_, List.getElem?_eq_getElem (by have := HS.out.2; omega)⟩
      obtain ⟨g, o, rfl, hg⟩ := (HS.out.1.kept hK fun _ _ _ e => e).at hy
      have y0 := hg 0 _ rfl
      rw [Nat.add_zero] at y0
      have y1 := hg 1 _ rfl
      have y2 := hg 2 _ rfl
      have HY : Hid (l[j]? = some y ∧ (l.take j).any Win.d2 = false ∧ Keeps (fun _ => False) w wr) := ⟨hy, hn, hK⟩
      have HB : Hid (y.d2 = true → listW Win.d2 l = true) := fun h => by
        unfold listW; rw [List.any_eq_true.2 ⟨y, List.mem_of_getElem? hy, h⟩]; simp
      have HF : Hid (y.d2 = false → (l.take (j + 1)).any Win.d2 = false) := fun h => by rw [take_any Win.d2 l j y hy, hn, h]; rfl
      clear hy hn hg hK
      obtain ⟨p, u, s⟩ := y
      by_cases h1 : p < -1
      · have HQ : Hid (listW Win.d2 l = true) := HB.out (by simp [Win.d2, wNs, wN]; omega)
        go_wp2
        go_ret
        exact ⟨ret_b (by rw [HQ.out]; rfl), HY.out.2.2.alloc _⟩
      · by_cases h2 : 4294967295 ≤ p
        · have HQ : Hid (listW Win.d2 l = true) := HB.out (by simp [Win.d2, wNs, wN]; omega)
          go_wp2
          go_ret
          exact ⟨ret_b (by rw [HQ.out]; rfl), HY.out.2.2.alloc _⟩
        · go_wp2_with fail
          refine (may_at (w := w) (w1 := wr.alloc _) (wr.heap.size + 1) [u, s] (by simp) (by simp)).mono ?_
          rintro e w2 ⟨rfl, rfl⟩
          have HD : Hid (Win.d2 ⟨p, u, s⟩ = wNs [u, s]) := by
            show wNs [p + 1, u, s] = wNs [u, s]
            have : wN (p + 1) = false := by simp [wN]; omega
            simp [wNs, this]
          cases hm : wNs [u, s]
          · have HQ := HF.out (by rw [HD.out, hm])
            have HQ : Hid ((l.take (j + 1)).any Win.d2 = false) := HQ
            clear y0 y1 y2 hm
            go_wp2
            go_roundw
            case rel => exact ⟨j + 1, by omega, by go_num, HQ.out, (HY.out.2.2.alloc _).alloc _⟩
            case measure => simp [intOf]; omega
          · have HQ : Hid (listW Win.d2 l = true) := HB.out (by rw [HD.out, hm])
            clear y0 y1 y2 hm
            go_wp2
            go_ret
            exact ⟨ret_b (by rw [HQ.out]; rfl), (HY.out.2.2.alloc _).alloc _⟩
    · obtain rfl : j = L := by omega
      have HQ : Hid (l.any Win.d2 = false ∧ Keeps (fun _ => False) w wr) := by
        rw [List.take_of_length_le (by have := HS.out.2; omega)] at hn; exact ⟨hn, hK⟩
      clear hn hK
      go_wp2
      go_ret
      refine ⟨ret_b ?_, HQ.out.2⟩
      unfold listW
      rw [HQ.out.1, ← HS.out.2, Bool.or_false, ← decide_not]
      rw [Bool.eq_iff_iff]
      simp
      omega
end Go.Proofs.YtjadpbkhfclldaaGreat
namespace Go.Proofs.YtjadpbkhfclldaaGreat
open Go.RowKit
set_option linter.unusedVariables false
set_option maxRecDepth 6000

theorem kd_false {a b : Bool} (h : a = true) : (!(a || b)) = false := by rw [h]; rfl

set_option maxHeartbeats 4000000 in
theorem holdsPartition_any (x : Par) (w : World) (h : x.Ok w) :
    Calls Tryz.prog 33 #[x.v] w fun e w' => e = .returned (.bool (!x.pure.d)) ∧ Keeps (fun _ => False) w w' := by
  obtain ⟨s, n1, n2, n3, n4, n5, ra, rc, rs, pa, pc, ps⟩ := x
  obtain ⟨L1, hL1⟩ : ∃ L, rs.length = L := ⟨_, rfl⟩
  obtain ⟨L2, hL2⟩ : ∃ L, ps.length = L := ⟨_, rfl⟩
  have HS : Hid (SegA Rgn.vs 4 w ra rs ∧ SegA Prt.vs 2 w pa ps ∧ rs.length = L1 ∧ ps.length = L2) := ⟨h.rseg, h.pseg, hL1, hL2⟩
  have hr := h.rlen
  have hp := h.plen
  have hnm := h.name
  simp only [hL1, hL2] at hr hp
  simp only at hnm
  simp only [Par.v, hL1, hL2]
  have d1 : (L1 : Int) ≤ rc := by omega
  have d2 : (L2 : Int) ≤ pc := by omega
  have d3 : (rc : Int) ≤ 9223372036854775807 := by unfold maxLen at hr; omega
  have d4 : (pc : Int) ≤ 9223372036854775807 := by unfold maxLen at hp; omega
  have HD : Hid (Par.pure ⟨s, n1, n2, n3, n4, n5, ra, rc, rs, pa, pc, ps⟩ = ⟨s, n1, n2, n3, n4, n5, rs, ps⟩) := rfl
  rw [HD.out]
  have HE : Hid (PPar.d ⟨s, n1, n2, n3, n4, n5, rs, ps⟩ = (nameW s || (wNs [n1, n2, n3, n4, n5] || (listW Rgn.d rs || listW Prt.d ps)))) := rfl
  obtain ⟨DD, hDD⟩ : ∃ DD, PPar.d ⟨s, n1, n2, n3, n4, n5, rs, ps⟩ = DD := ⟨_, rfl⟩
  rw [hDD]
  have HDD : Hid (DD = (nameW s || (wNs [n1, n2, n3, n4, n5] || (listW Rgn.d rs || listW Prt.d ps)))) := by rw [← hDD]; exact HE.out
  clear hDD HE HD h hL1 hL2 hr hp
  obtain ⟨S, hSz⟩ : ∃ S, s.size = S := ⟨_, rfl⟩
  have HSz : Hid (s.size = S) := hSz
  obtain ⟨C, hC⟩ : ∃ C, C = w.heap.size := ⟨_, rfl⟩
  obtain ⟨W, hWd⟩ : ∃ W, W = w.alloc (.cells #[.string s, .int .i64 n1, .int .i64 n2, .int .i64 n3, .int .i64 n4, .int .i64 n5, .slice ra L1 rc, .slice pa L2 pc] 47) := ⟨_, rfl⟩
  have HW : Hid (Blk W C [.string s, .int .i64 n1, .int .i64 n2, .int .i64 n3, .int .i64 n4, .int .i64 n5, .slice ra L1 rc, .slice pa L2 pc] 47 ∧ Keeps (fun _ => False) w W) := by
    rw [hWd, hC]; exact ⟨Blk.new w _ _, (Keeps.refl _ w).alloc _⟩
  by_cases h1 : 255 < s.size
  · have h1' : (255 : Int) < s.size := by omega
    have HQ : Hid (DD = true) := by rw [HDD.out]; unfold nameW; rw [decide_eq_true h1]; rfl
    clear hSz
    go_enter Tryz.func33, Tryz.ntmps33
    go_wp2
    go_ret
    exact ⟨ret_b (by rw [HQ.out]; rfl), (Keeps.refl _ w).alloc _⟩
  by_cases h2 : 255 < L1
  · have h1' : ¬ (255 : Int) < s.size := by omega
    have h2' : (255 : Int) < L1 := by omega
    have HQ : Hid (DD = true) := by show DD = true; rw [HDD.out]; unfold listW; rw [HS.out.2.2.1, decide_eq_true h2]; simp
    clear hSz
    go_enter Tryz.func33, Tryz.ntmps33
    go_wp2
    go_ret
    exact ⟨ret_b (by rw [HQ.out]; rfl), (Keeps.refl _ w).alloc _⟩
  by_cases h3 : 255 < L2
  · have h1' : ¬ (255 : Int) < s.size := by omega
    have h2' : ¬ (255 : Int) < L1 := by omega
    have h3' : (255 : Int) < L2 := by omega
    have HQ : Hid (DD = true) := by show DD = true; rw [HDD.out]; unfold listW; rw [HS.out.2.2.2, decide_eq_true h3]; simp
    clear hSz
    go_enter Tryz.func33, Tryz.ntmps33
    go_wp2
    go_ret
    exact ⟨ret_b (by rw [HQ.out]; rfl), (Keeps.refl _ w).alloc _⟩
  have h1' : ¬ (255 : Int) < s.size := by omega
  have h2' : ¬ (255 : Int) < L1 := by omega
  have h3' : ¬ (255 : Int) < L2 := by omega
  have HDE : Hid (DD = (wNs [n1, n2, n3, n4, n5] || (rs.any Rgn.d || ps.any Prt.d))) := by
    rw [HDD.out]; unfold listW nameW
    rw [HS.out.2.2.1, HS.out.2.2.2, decide_eq_false h1, decide_eq_false h2, decide_eq_false h3]; rfl
  clear hSz h1 h2 h3
  go_enter Tryz.func33, Tryz.ntmps33
  go_wp2_with fail
  rw [← hC]
  have hsz : C + 1 = W.heap.size := by rw [hWd, hC]; simp
  rw [← hWd]
  clear hWd hC
  refine (may_at (w := w) (w1 := W) (C + 1) [n1, n2, n3, n4, n5] hsz (by simp)).mono ?_
  rintro e w2 ⟨rfl, hw2⟩
  have hK2 : Keeps (fun _ => False) W w2 := by rw [hw2]; exact (Keeps.refl _ _).alloc _
  have HK2 : Hid (Keeps (fun _ => False) W w2) := hK2
  clear hw2 hK2 hsz
  cases hm : wNs [n1, n2, n3, n4, n5]
  rotate_left
  · have HQ : Hid (DD = true) := by rw [HDE.out, hm]; rfl
    clear hm
    go_wp2
    go_ret
    exact ⟨ret_b (by rw [HQ.out]; rfl), HW.out.2.trans HK2.out fun _ _ e => e⟩
  have HDF : Hid (DD = (rs.any Rgn.d || ps.any Prt.d)) := by rw [HDE.out, hm]; rfl
  have c6 := (HW.out.1.kept HK2.out fun e => e).cell (i := 6) rfl
  clear hm HDE HDD
  go_wp2
  go_loopw [40] (fun i wr => ∃ j : Nat, j ≤ L1 ∧ i = .int .i64 j ∧ (rs.take j).any Rgn.d = false ∧ Keeps (fun _ => False) W wr) (fun i _ => L1 - (intOf i).toNat)
  case atStart => exact ⟨0, by omega, rfl, by simp, HK2.out⟩
  case round =>
    clear c6
    obtain ⟨j, hj, rfl, hn, hK⟩ := hrel
    have b1 := (HW.out.1.kept hK fun e => e).cell (i := 6) rfl
    by_cases hlt : j < L1
    · obtain ⟨y, hy⟩ : ∃ y, rs[j]? = some y := ⟨_, List.getElem?_eq_getElem (by have := HS.out.2.2.1; omega)⟩
      obtain ⟨g, o, ha, hg⟩ := ((HS.out.1.kept HW.out.2 fun _ _ _ e => e).kept hK fun _ _ _ e => e).at hy
      rw [ha] at b1
      have y0 := hg 0 _ rfl
      rw [Nat.add_zero] at y0
      have y1 := hg 1 _ rfl
      have y2 := hg 2 _ rfl
      have y3 := hg 3 _ rfl
      have HB : Hid (y.d = true → DD = true) := fun h => by rw [HDF.out, List.any_eq_true.2 ⟨y, List.mem_of_getElem? hy, h⟩]; rfl
      have HF : Hid (y.d = false → (rs.take (j + 1)).any Rgn.d = false) := fun h => by rw [take_any Rgn.d rs j y hy, hn, h]; rfl
      have HK : Hid (Keeps (fun _ => False) W wr) := hK
      clear hy hn hg hK ha
      obtain ⟨q1, q2, q3, q4⟩ := y
      go_wp2_with fail
      refine (may_at (w := w) (w1 := wr.alloc _) (wr.heap.size + 1) [q1, q2, q3, q4] (by simp) (by simp)).mono ?_
      rintro e w3 ⟨rfl, hw3⟩
      have HK3 : Hid (Keeps (fun _ => False) W w3) := by rw [hw3]; exact (HK.out.alloc _).alloc _
      clear hw3 y0 y1 y2 y3 b1
      cases hm : wNs [q1, q2, q3, q4]
      · have HQ : Hid ((rs.take (j + 1)).any Rgn.d = false) := HF.out hm
        clear hm
        go_wp2
        go_roundw
        case rel => exact ⟨j + 1, by omega, by go_num, HQ.out, HK3.out⟩
        case measure => simp [intOf]; omega
      · have HQ : Hid (DD = true) := HB.out hm
        clear hm
        go_wp2
        go_ret
        exact ⟨ret_b (by rw [HQ.out]; rfl), HW.out.2.trans HK3.out fun _ _ e => e⟩
    · obtain rfl : j = L1 := by omega
      have HK : Hid (Keeps (fun _ => False) W wr) := hK
      have HDG : Hid (DD = ps.any Prt.d) := by
        rw [List.take_of_length_le (by have := HS.out.2.2.1; omega)] at hn
        rw [HDF.out, hn]; rfl
      have b2 := (HW.out.1.kept hK fun e => e).cell (i := 7) rfl
      clear hn hK b1 HDF HK2
      go_wp2
      go_loopw [63] (fun i wr => ∃ j : Nat, j ≤ L2 ∧ i = .int .i64 j ∧ (ps.take j).any Prt.d = false ∧ Keeps (fun _ => False) W wr) (fun i _ => L2 - (intOf i).toNat)
      case atStart => exact ⟨0, by omega, rfl, by simp, HK.out⟩
      case round =>
        clear b2
        obtain ⟨j, hj, rfl, hn, hK⟩ := hrel
        have b1 := (HW.out.1.kept hK fun e => e).cell (i := 7) rfl
        by_cases hlt : j < L2
        · obtain ⟨y, hy⟩ : ∃ y, ps[j]? = some y := ⟨_, List.getElem?_eq_getElem (by have := HS.out.2.2.2; omega)⟩
          obtain ⟨g, o, ha, hg⟩ := ((HS.out.2.1.kept HW.out.2 fun _ _ _ e => e).kept hK fun _ _ _ e => e).at hy
          rw [ha] at b1
          have y0 := hg 0 _ rfl
          rw [Nat.add_zero] at y0
          have y1 := hg 1 _ rfl
          have HB : Hid (y.d = true → DD = true) := fun h => by rw [HDG.out, List.any_eq_true.2 ⟨y, List.mem_of_getElem? hy, h⟩]
          have HF : Hid (y.d = false → (ps.take (j + 1)).any Prt.d = false) := fun h => by rw [take_any Prt.d ps j y hy, hn, h]; rfl
          have HK : Hid (Keeps (fun _ => False) W wr) := hK
          clear hy hn hg hK ha
          obtain ⟨q1, q2⟩ := y
          go_wp2_with fail
          refine (may_at (w := w) (w1 := wr) wr.heap.size [q1] rfl (by simp)).mono ?_
          rintro e w3 ⟨rfl, hw3⟩
          have HK3 : Hid (Keeps (fun _ => False) W w3) := by rw [hw3]; exact HK.out.alloc _
          clear hw3 y0 y1 b1
          cases hm : wNs [q1]
          · have HQ : Hid ((ps.take (j + 1)).any Prt.d = false) := HF.out hm
            clear hm
            go_wp2
            go_roundw
            case rel => exact ⟨j + 1, by omega, by go_num, HQ.out, HK3.out⟩
            case measure => simp [intOf]; omega
          · have HQ : Hid (DD = true) := HB.out hm
            clear hm
            go_wp2
            go_ret
            exact ⟨ret_b (by rw [HQ.out]; rfl), HW.out.2.trans HK3.out fun _ _ e => e⟩
        · obtain rfl : j = L2 := by omega
          have HK : Hid (Keeps (fun _ => False) W wr) := hK
          have HQ : Hid (DD = false) := by
            show DD = false
            rw [List.take_of_length_le (by have := HS.out.2.2.2; omega)] at hn
            rw [HDG.out, hn]
          clear hn hK b1
          go_wp2
          go_ret
          exact ⟨ret_b (by rw [HQ.out]; rfl), HW.out.2.trans HK.out fun _ _ e => e⟩
end Go.Proofs.YtjadpbkhfclldaaGreat
