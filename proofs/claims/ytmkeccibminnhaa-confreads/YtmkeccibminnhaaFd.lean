import Derived.Test.YtmkeccibminnhaaFb
namespace Go.Proofs.Ytmkeccibminnhaa
open Go.RowKit
set_option linter.unusedVariables false
set_option maxRecDepth 6000

/-- A row that has no room. -/
structure Full (w : World) (g : Nat) (xs : List UInt8) : Prop where
  seg : ∀ j, (h : j < xs.length) → w.cell? ⟨g, j, none⟩ = some (.int .u8 (xs[j].toNat : Int))
  lt : g < w.heap.size
theorem append_full {w : World} (g : Nat) (xs : List UInt8) (x : Nat) (hx : x < 256) (h : Full w g xs) (hn : xs.length + 1 ≤ 140737488355328) :
    ∃ v' W', (∀ ty, (Builtin.append_ #[27, 27] ty #[.slice (some ⟨g, 0, none⟩) xs.length xs.length, .slice (some ⟨w.heap.size, 0, none⟩) 1 1]).run Try.prog (w.alloc (.cells #[.int .u8 x] 5)) = .ok v' W') ∧ BR W' v' (xs ++ lowB 1 x) ∧ (∀ k, v'.ownBlock = some k → w.heap.size ≤ k) ∧ Keeps (fun _ => False) w W' := by
  obtain ⟨i, hi, hz, hs, hb⟩ := info_parts Try.info5
  obtain ⟨W1, hW1⟩ : ∃ W1, W1 = w.alloc (.cells #[.int .u8 x] 5) := ⟨_, rfl⟩
  have hK1 : Keeps (fun _ => False) w W1 := by rw [hW1]; exact (Keeps.refl _ w).alloc _
  have hBn : Blk W1 w.heap.size [.int .u8 x] 5 := by rw [hW1]; exact Blk.new w _ _
  have hrun := fun ty => run_append_grow (P := Try.prog) W1 27 ty 5 i (.int .u8 0) Try.underlying27 hi hz ⟨g, 0, none⟩ xs.length xs.length (bvs xs) (by rw [hs, bvs_length, Nat.mul_one]) (by
      intro j v hj
      have hjl : j < xs.length := by rw [← bvs_length]; exact (List.getElem?_eq_some_iff.1 hj).1
      rw [bvs_get xs j hjl] at hj
      cases hj
      rw [addr_add, Nat.zero_add, World.cell?_of_block (w := w) (hK1.block g h.lt fun e => e)]
      exact h.seg j hjl) ⟨w.heap.size, 0, none⟩ 1 1 [.int .u8 x] (by rw [hs]; rfl) (by
      intro j v hj
      rw [addr_add, Nat.zero_add]
      exact hBn.cell hj) (by omega) (by omega) (by rw [hb]; exact growslice_fits (by omega) (by omega))
  have he : bvs (xs ++ lowB 1 x) = bvs xs ++ [Value.int .u8 x] := by
    rw [bvs_append]
    congr 1
    have : (UInt8.ofNat x).toNat = x := by rw [UInt8.toNat_ofNat']; omega
    simp [bvs, lowB, this]
  have hlen : (xs ++ lowB 1 x).length = xs.length + 1 := by rw [List.length_append, lowB_len]
  have hge := grownCap_ge W1 (xs.length + 1) xs.length 5
  refine ⟨_, _, fun ty => by rw [← hW1]; exact hrun ty, ⟨by rw [bvs_length, Nat.mul_one], .inr ⟨W1.heap.size, _, _, by rw [hlen], Nat.zero_le _, heap_alloc_new W1.drew _, by rw [hlen]; exact hge, grownCap_le_maxLen W1 _ _ 5 (by unfold maxLen; omega), ?_, ?_⟩⟩, fun k hk => ?_, (hK1.drew).alloc _⟩
  · rw [zeroCells_bytes]; simp [bvs_length]; omega
  · rw [hlen, he, zeroCells_bytes, Nat.mul_one]
    simp only [Array.toList_append]
    rw [List.take_append_of_le_length (by simp [bvs_length])]
    exact List.take_of_length_le (by simp [bvs_length])
  · have e2 : W1.heap.size = k := Option.some.inj hk
    have := hK1.size
    omega

def FullRel (g L : Nat) (w : World) (xs : List UInt8) (N j : Nat) (b : Value) (wr : World) : Prop := ((j = 0 ∧ b = .slice (some ⟨g, 0, none⟩) L L ∧ wr = w) ∨ (1 ≤ j ∧ BR wr b (xs ++ lowB j N) ∧ (∀ k, Value.ownBlock b = some k → w.heap.size ≤ k) ∧ Keeps (fun _ => False) w wr))

set_option maxHeartbeats 1000000 in
/-- A number behind a row that has no room. -/
theorem fnumber_full (g : Nat) (xs : List UInt8) (n : Int) (w : World) (h : Full w g xs) (hn : wN n = false) (hx : xs.length + 4 ≤ 140737488355328) :
    Calls Try.prog 45 #[.slice (some ⟨g, 0, none⟩) xs.length xs.length, .int .i64 n] w fun e w' => ∃ u', e = .returned u' ∧ BR w' u' (xs ++ nb n) ∧ (∀ k, u'.ownBlock = some k → w.heap.size ≤ k) ∧ Keeps (fun _ => False) w w' := by
  have hb := wN_bd hn
  obtain ⟨N, rfl⟩ : ∃ N : Nat, n = N := ⟨n.toNat, by omega⟩
  obtain ⟨L, hL⟩ : ∃ L, xs.length = L := ⟨_, rfl⟩
  have HB : Hid ((Full w g xs ∧ xs.length = L) ∧ (N : Int) ≤ 4294967295 ∧ nb (N : Int) = lowB 4 N) := ⟨⟨h, hL⟩, hb.2, by unfold nb; congr 1; omega⟩
  rw [hL]
  have hx' : L + 4 ≤ 140737488355328 := by omega
  clear h hn hb hL
  go_enter Try.func45, Try.ntmps45
  go_wp2
  go_loopw [0, 1, 5] (fun b m i wr => ∃ j : Nat, j ≤ 4 ∧ i = .int .i64 j ∧ m = .int .i64 ((N / 256 ^ j : Nat) : Int) ∧ FullRel g L w xs N j b wr) (fun _ _ i _ => 4 - (intOf i).toNat)
  case atStart => exact ⟨0, by omega, rfl, by simp, .inl ⟨rfl, rfl, rfl⟩⟩
  case round =>
    obtain ⟨j, hj, rfl, rfl, hR⟩ := hrel
    by_cases hlt : j < 4
    · obtain ⟨M, hM⟩ : ∃ M, N / 256 ^ j = M := ⟨_, rfl⟩
      have hMle : M ≤ N := by rw [← hM]; exact Nat.div_le_self _ _
      have hMb : (M : Int) ≤ 4294967295 := by have := HB.out.2.1; omega
      have key : ∃ v' W', (∀ ty, (Builtin.append_ #[27, 27] ty #[u0, .slice (some ⟨wr.heap.size, 0, none⟩) 1 1]).run Try.prog (wr.alloc (.cells #[.int .u8 ((M % 256 : Nat) : Int)] 5)) = .ok v' W') ∧ BR W' v' (xs ++ lowB j N ++ lowB 1 (M % 256)) ∧ (∀ k, Value.ownBlock v' = some k → w.heap.size ≤ k) ∧ Keeps (fun _ => False) w W' := by
        rcases hR with ⟨h0, hb, hw⟩ | ⟨h1, hbr, hfr, hKe⟩
        · subst h0 hb hw
          obtain ⟨v', W', a1, a2, a3, a4⟩ := append_full g xs (M % 256) (by omega) HB.out.1.1 (by have := HB.out.1.2; omega)
          rw [HB.out.1.2] at a1
          exact ⟨v', W', a1, by simpa [lowB] using a2, a3, a4⟩
        · obtain ⟨v', W', a1, a2, a3⟩ := append_byte u0 (xs ++ lowB j N) (M % 256) (by omega) hbr (by rw [List.length_append, lowB_len]; have := HB.out.1.2; omega)
          exact ⟨v', W', a1, a2, a3.hi hKe.size hfr, hKe.trans a3.kp fun k hk e => by have := hfr k e.symm; omega⟩
      obtain ⟨v', W', happ, hR', hfr', hKe'⟩ := key
      have HAP : Hid (∀ ty, (Builtin.append_ #[27, 27] ty #[u0, .slice (some ⟨wr.heap.size, 0, none⟩) 1 1]).run Try.prog (wr.alloc (.cells #[.int .u8 ((M % 256 : Nat) : Int)] 5)) = .ok v' W') := happ
      have HN : Hid (BR W' v' (xs ++ lowB (j + 1) N) ∧ ((∀ k, Value.ownBlock v' = some k → w.heap.size ≤ k) ∧ Keeps (fun _ => False) w W') ∧ N / 256 ^ (j + 1) = M / 256) := by
        refine ⟨?_, ⟨hfr', hKe'⟩, by rw [Nat.pow_succ, ← Nat.div_div_eq_div_mul, hM]⟩
        have e : xs ++ lowB (j + 1) N = xs ++ lowB j N ++ lowB 1 (M % 256) := by
          rw [lowB_succ, List.append_assoc, hM]
          congr 2
          have : UInt8.ofNat M = UInt8.ofNat (M % 256) := by
            apply UInt8.toNat_inj.1; rw [UInt8.toNat_ofNat', UInt8.toNat_ofNat']; omega
          simp [lowB, this]
        rw [e]; exact hR'
      have h1 : (M : Int).tmod 256 = ((M % 256 : Nat) : Int) := by rw [Int.tmod_eq_emod_of_nonneg (by omega)]; omega
      have h2 : (M : Int).tdiv 256 = ((M / 256 : Nat) : Int) := by rw [Int.tdiv_eq_ediv_of_nonneg (by omega)]; omega
      have h3 : IntKind.u8.wrap ((M % 256 : Nat) : Int) = ((M % 256 : Nat) : Int) := by rw [IntKind.wrap_u8']; omega
      obtain ⟨R, hR2⟩ : ∃ R, M % 256 = R := ⟨_, rfl⟩
      obtain ⟨D, hD2⟩ : ∃ D, M / 256 = D := ⟨_, rfl⟩
      rw [hM]
      rw [hR2] at h1 h3 HAP
      rw [hD2] at h2 HN
      have hRb : (R : Int) < 256 := by omega
      have hDb : (D : Int) ≤ 4294967295 := by omega
      clear happ hR' hfr' hKe' hR hMle hR2 hD2 hM
      go_wp2_with (at_builtin; go_must (refine wpList_append_run rfl (.tmp 7) (.tmp 11) 27 27 rfl u0 (.slice (some ⟨wr.heap.size, 0, none⟩) 1 1) v' W' rfl rfl HAP.out ?_; refine Hid.out ?_))
      unfold Hid
      clear HAP
      go_wp2
      go_roundw
      case rel => exact ⟨j + 1, by omega, by go_num, by rw [HN.out.2.2], .inr ⟨by omega, HN.out.1, HN.out.2.1.1, HN.out.2.1.2⟩⟩
      case measure => simp [intOf]; omega
    · obtain rfl : j = 4 := by omega
      have HN : Hid (BR wr u0 (xs ++ nb (N : Int)) ∧ (∀ k, Value.ownBlock u0 = some k → w.heap.size ≤ k) ∧ Keeps (fun _ => False) w wr) := by
        rcases hR with ⟨h0, _⟩ | ⟨_, h1, h2, h3⟩
        · omega
        · exact ⟨by rw [HB.out.2.2]; exact h1, h2, h3⟩
      clear hR
      go_wp2
      go_ret
      exact ⟨u0, rfl, HN.out⟩

/-- The bytes of a constant, as the model has them. -/
theorem conv_mark {w : World} (g : Nat) (cs : List Value) (n c : Nat) (h : Blk w g cs 5) : (convert 27 27 (.slice (some ⟨g, 0, none⟩) n c)).run Try.prog w = .ok (.slice (some ⟨g, 0, none⟩) n c) (w.freeze ⟨g, cs.length, none⟩ 1) := by
  have hsh : w.shape? g = some (5, cs.length) := by
    unfold Blk at h
    simp [World.shape?, h]
  unfold convert
  simp only [Sem.run_bind, run_underlying Try.underlying27, Result.andThen_ok]
  simp [run_underlying Try.underlying5, markStringish, hsh]
theorem freeze_full {w : World} (g k : Nat) (xs : List UInt8) (h : Blk w g (bvs xs) 5) : Full (w.freeze ⟨g, k, none⟩ 1) g xs ∧ Keeps (· = g) w (w.freeze ⟨g, k, none⟩ 1) := by
  have hheap : ∀ b, b ≠ g → (w.freeze ⟨g, k, none⟩ 1).heap[b]? = w.heap[b]? := by
    intro b hb
    have : g ≠ b := fun e => hb e.symm
    simp [World.freeze, Array.getElem?_modify, this]
  have hg : ∃ fz, (w.freeze ⟨g, k, none⟩ 1).heap[g]? = some (.cells (bvs xs).toArray 5 fz) := by
    unfold Blk at h
    refine ⟨(k, k + 1), ?_⟩
    simp [World.freeze, Array.getElem?_modify, h]
  have hsz : (w.freeze ⟨g, k, none⟩ 1).heap.size = w.heap.size := by simp [World.freeze]
  obtain ⟨fz, hg⟩ := hg
  refine ⟨⟨fun j hj => ?_, by rw [hsz]; exact h.lt⟩, ⟨rfl, rfl, rfl, by rw [hsz]; exact Nat.le_refl _, fun b _ hb => hheap b hb⟩⟩
  have : (bvs xs)[j]? = some (.int .u8 (xs[j].toNat : Int)) := bvs_get xs j hj
  simp [World.cell?, hg, this]
end Go.Proofs.Ytmkeccibminnhaa
