import Derived.Test.YtjadpbkhfclldaaGreatJOa
namespace Go.Proofs.YtjadpbkhfclldaaGreat
open Go.RowKit
set_option linter.unusedVariables false
set_option maxRecDepth 6000

theorem append_text {w : World} (v : Value) (n : Nat) (xs : List UInt8) (hown : w.ownsRow 0 5 1 v n (bvs xs)) (s : ByteArray) (hm : n + s.size ≤ 140737488355328) :
    ∃ v' W', (∀ ty, (Builtin.append_ #[28, 9] ty #[v, .string s]).run Tryz.prog w = .ok v' W') ∧ W'.ownsRow 0 5 1 v' (n + s.size) (bvs (xs ++ s.data.toList)) ∧
      (v'.ownBlock = v.ownBlock ∨ ∃ k, v'.ownBlock = some k ∧ w.heap.size ≤ k) ∧ Keeps (fun k => some k = v.ownBlock) w W' := by
  obtain ⟨i, hi, hz, hs, hb⟩ := info_parts Tryz.info5
  have hsz : s.data.toList.length = s.size := rfl
  have hlen : (bvs s.data.toList).length = s.size := by rw [bvs_length, hsz]
  have hxl : xs.length = n := by have := hown.1; rw [bvs_length] at this; omega
  have hx : Array.map (fun b : UInt8 => Value.int IntKind.u8 (b.toNat : Int)) s.data = (bvs s.data.toList).toArray := by
    apply Array.ext'
    simp [bvs]
  have hext : (Array.map (fun b : UInt8 => Value.int IntKind.u8 (b.toNat : Int)) s.data).extract 0 s.size = (bvs s.data.toList).toArray := by
    have hq : s.size = (Array.map (fun b : UInt8 => Value.int IntKind.u8 (b.toNat : Int)) s.data).size := by rw [Array.size_map]; rfl
    rw [hq, Array.extract_size, hx]
  have hbv : bvs (xs ++ s.data.toList) = bvs xs ++ bvs s.data.toList := bvs_append _ _
  have hfirst : ∀ w1 : World, (Builtin.firstCells 1 s.size (.string s)).run Tryz.prog w1 = .ok (bvs s.data.toList).toArray w1 := by
    intro w1
    simp [Builtin.firstCells]
    exact hx
  rcases hown.2 with ⟨rfl, rfl⟩ | ⟨g, cap, cur, rfl, _, hg1, hnc, hcm, hcs, htake⟩
  · have hx0 : xs = [] := List.length_eq_zero_iff.1 hxl
    subst hx0
    by_cases h0 : s.size = 0
    · refine ⟨.slice none 0 0, w, fun ty => ?_, ?_, .inl rfl, Keeps.refl _ _⟩
      · simp [Builtin.append_, run_underlying Tryz.underlying28, run_underlying (P := Tryz.prog) (t := 9) (show Tryz.prog.underlying 9 = some .string by kernel_rfl), sizeOf, typeInfo, hi, hs, Builtin.lenOf, h0, h0 ▸ hfirst w]
      · have : s.data.toList = [] := List.length_eq_zero_iff.1 (by omega)
        rw [h0, this]
        exact World.ownsRow_nil _ _ _ _
    · have h2 := fun ty => run_append_nil_string (P := Tryz.prog) w 28 9 ty 5 i (.int .u8 0) Tryz.underlying28 (by kernel_rfl) hi hz s (by omega) (by omega) (by rw [hb]; omega)
      refine ⟨_, _, h2, ?_, .inr ⟨_, rfl, Nat.le_refl _⟩, (Keeps.refl _ w).drew.alloc _⟩
      have hge := grownCap_ge w s.size 0 5
      have hle := grownCap_le_maxLen w s.size 0 5 (by unfold maxLen; omega)
      refine ⟨by rw [bvs_length]; simp [hsz], .inr ⟨w.heap.size, grownCap w s.size 0 5, _, by simp, Nat.zero_le _, heap_alloc_new w.drew _, by omega, hle, ?_, ?_⟩⟩
      · rw [hx]
        have : (Value.int IntKind.u8 0).cells.size = 1 := rfl
        simp only [Array.size_append, List.size_toArray, hlen, size_zeroCells, this, Nat.mul_one]
        omega
      · rw [hx]
        simp only [Array.toList_append, List.nil_append, Nat.mul_one, Nat.zero_add]
        rw [List.take_append_of_le_length (by rw [hlen]; omega), List.take_of_length_le (by rw [hlen]; omega)]
  · have hBg : Blk w g cur.toList 5 := by unfold Blk; rw [Array.toArray_toList]; exact hg1
    by_cases hroom : n + s.size ≤ cap
    · have hst := run_storeCells_at Tryz.prog g n 5 (bvs s.data.toList) 0 cur w hg1 (by rw [hlen]; simp; omega) (bvs_one _)
      rw [hlen] at hst
      simp only [Nat.add_zero] at hst
      refine ⟨.slice (some ⟨g, 0, none⟩) (n + s.size) cap, w.setRow g (cur.toList.take n ++ bvs s.data.toList ++ cur.toList.drop (n + s.size)).toArray, fun ty => ?_, ?_, .inl rfl, (Keeps.refl _ w).setRow _ _ fun _ => rfl⟩
      · simp [Builtin.append_, run_underlying Tryz.underlying28, run_underlying (P := Tryz.prog) (t := 9) (show Tryz.prog.underlying 9 = some .string by kernel_rfl), sizeOf, typeInfo, hi, hs, Builtin.lenOf, hroom, hfirst, addr_add, hst]
      · have hB2 := hBg.setRow (cur.toList.take n ++ bvs s.data.toList ++ cur.toList.drop (n + s.size))
        have hln : (cur.toList.take n).length = n := by rw [List.length_take]; simp; omega
        refine ⟨by rw [bvs_length]; simp [hsz, hxl], .inr ⟨g, cap, _, rfl, Nat.zero_le _, hB2, by omega, hcm, ?_, ?_⟩⟩
        · simp [hlen]; omega
        · rw [hbv, ← htake]
          simp only [Nat.mul_one]
          rw [List.take_append_of_le_length (by rw [List.length_append, hln, hlen]; exact Nat.le_refl _), List.take_of_length_le (by rw [List.length_append, hln, hlen]; exact Nat.le_refl _)]
    · have hfo := run_firstCells_some (P := Tryz.prog) w.drew 1 n ⟨g, 0, none⟩ n cap (bvs xs) (by rw [bvs_length]; omega) (by
        intro j u hj
        have := hown.cells rfl j u hj
        exact this)
      have h63' : ¬ (9223372036854775807 < ((n : Int) + (s.size : Int))) := by omega
      have h48' : ¬ (281474976710656 < Builtin.nextslicecap (n + s.size) cap * 1) := by
        have := growslice_fits (bytes := 1) (need := n + s.size) (old := cap) (by omega) (by omega)
        omega
      have h48'' : ¬ (281474976710656 < Builtin.nextslicecap (n + s.size) cap) := by omega
      have hge := grownCap_ge w (n + s.size) cap 5
      have hle := grownCap_le_maxLen w (n + s.size) cap 5 (by unfold maxLen; omega)
      refine ⟨.slice (some ⟨w.heap.size, 0, none⟩) (n + s.size) (grownCap w (n + s.size) cap 5), w.drew.alloc (.cells ((bvs xs).toArray ++ (bvs s.data.toList).toArray ++ Builtin.zeroCells (Value.int .u8 0).cells (grownCap w (n + s.size) cap 5 - (n + s.size))) 5), fun ty => ?_, ?_, .inr ⟨_, rfl, Nat.le_refl _⟩, (Keeps.refl _ w).drew.alloc _⟩
      · simp [Builtin.append_, run_underlying Tryz.underlying28, run_underlying (P := Tryz.prog) (t := 9) (show Tryz.prog.underlying 9 = some .string by kernel_rfl), sizeOf, typeInfo, zeroValue, hi, hs, hz, hb, Builtin.lenOf, hroom, h63', h48'', Question.forced, hfirst, hfo, newRow, grownCap]
        rw [show (bvs xs ++ bvs s.data.toList).toArray = (bvs xs).toArray ++ (bvs s.data.toList).toArray by simp, Array.append_assoc]
      · refine ⟨by rw [bvs_length]; simp [hsz, hxl], .inr ⟨w.heap.size, _, _, rfl, Nat.zero_le _, heap_alloc_new w.drew _, by omega, hle, ?_, ?_⟩⟩
        · have : (Value.int IntKind.u8 0).cells.size = 1 := rfl
          simp only [Array.size_append, List.size_toArray, hlen, size_zeroCells, bvs_length, hxl, this, Nat.mul_one]
          omega
        · rw [hbv]
          simp only [Array.toList_append, Nat.mul_one]
          rw [List.take_append_of_le_length (by simp [hlen, bvs_length, hxl]), List.take_of_length_le (by simp [hlen, bvs_length, hxl])]

/-- A row of bytes of one's own. -/
abbrev BR (w : World) (u : Value) (xs : List UInt8) : Prop := w.ownsRow 0 5 1 u xs.length (bvs xs)
/-- What an append leaves. -/
structure Grw (w : World) (u : Value) (w' : World) (u' : Value) : Prop where
  own : u'.ownBlock = u.ownBlock ∨ ∃ k, u'.ownBlock = some k ∧ w.heap.size ≤ k
  kp : Keeps (fun k => some k = u.ownBlock) w w'
theorem Grw.refl (w : World) (u : Value) : Grw w u w u := ⟨.inl rfl, Keeps.refl _ _⟩
theorem Grw.trans {w w1 w2 : World} {u u1 u2 : Value} (h : Grw w u w1 u1) (k : Grw w1 u1 w2 u2) : Grw w u w2 u2 := by
  refine ⟨?_, h.kp.trans k.kp fun b hb e => ?_⟩
  · rcases k.own with e | ⟨m, e, hm⟩
    · rw [e]; exact h.own
    · exact .inr ⟨m, e, Nat.le_trans h.kp.size hm⟩
  · rcases h.own with e' | ⟨m, e', hm⟩
    · rw [← e']; exact e
    · rw [e'] at e; cases e; omega
theorem Grw.hi {w w' : World} {u u' : Value} {N : Nat} (h : Grw w u w' u') (hN : N ≤ w.heap.size) (hu : ∀ k, u.ownBlock = some k → N ≤ k) : ∀ k, u'.ownBlock = some k → N ≤ k := by
  intro k hk
  rcases h.own with e | ⟨m, e, hm⟩
  · exact hu k (e ▸ hk)
  · rw [e] at hk; cases hk; omega
theorem Grw.box {w w' : World} {u u' : Value} (h : Grw w u w' u') {b : Nat} (hb : b < w.heap.size) (hn : u.ownBlock ≠ some b) : u'.ownBlock ≠ some b := by
  rcases h.own with e | ⟨m, e, hm⟩
  · rw [e]; exact hn
  · rw [e]; intro e'; cases e'; omega
theorem Grw.below {w w' : World} {u u' : Value} {N : Nat} (h : Grw w u w' u') (hN : N ≤ w.heap.size) (hu : ∀ k, u.ownBlock = some k → N ≤ k) : Below N w w' := h.kp.below hN fun b e => hu b e.symm
/-- Behind what only grew. -/
theorem Grw.grown {w w1 w' : World} {u u' : Value} (hK : Keeps (fun _ => False) w w1) (h : Grw w1 u w' u') : Grw w u w' u' := by
  refine ⟨?_, (hK.mono fun _ _ e => e.elim).trans h.kp fun _ _ e => e⟩
  rcases h.own with e | ⟨m, e, hm⟩
  · exact .inl e
  · exact .inr ⟨m, e, Nat.le_trans hK.size hm⟩
theorem BR.kept {S : Nat → Prop} {w w' : World} {u : Value} {xs : List UInt8} (h : BR w u xs) (hK : Keeps S w w') (hn : ∀ k, u.ownBlock = some k → ¬ S k) : BR w' u xs := owns_kept h hK hn
theorem BR.slice {w : World} {u : Value} {xs : List UInt8} (h : BR w u xs) : ∃ a c, u = .slice a xs.length c ∧ Seg w a xs ∧ (xs.length ≤ c ∧ c ≤ maxLen) := by
  rcases h.2 with ⟨rfl, h0⟩ | ⟨g, cap, cur, rfl, _, hg, h1, h2, h3, h4⟩
  · have : xs = [] := List.length_eq_zero_iff.1 h0
    subst this
    exact ⟨none, 0, rfl, .inl rfl, Nat.le_refl _, Nat.zero_le _⟩
  · refine ⟨some ⟨g, 0, none⟩, cap, rfl, .inr ⟨g, 0, rfl, fun j hj => ?_⟩, h1, h2⟩
    have hB : Blk w g cur.toList 5 := by unfold Blk; rw [Array.toArray_toList]; exact hg
    rw [Nat.zero_add]
    apply hB.cell
    have h5 : (cur.toList.take (xs.length * 1))[j]? = some (.int .u8 (xs[j].toNat : Int)) := by rw [h4]; exact bvs_get xs j hj
    rw [List.getElem?_take] at h5
    split at h5
    · exact h5
    · cases h5

/-- append of one byte. -/
theorem append_byte {w : World} (u : Value) (xs : List UInt8) (x : Nat) (hx : x < 256) (h : BR w u xs) (hn : xs.length + 1 ≤ 140737488355328) :
    ∃ v' W', (∀ ty, (Builtin.append_ #[28, 28] ty #[u, .slice (some ⟨w.heap.size, 0, none⟩) 1 1]).run Tryz.prog (w.alloc (.cells #[.int .u8 x] 5)) = .ok v' W') ∧ BR W' v' (xs ++ lowB 1 x) ∧ Grw w u W' v' := by
  obtain ⟨i, hi, hz, hs, hb⟩ := info_parts Tryz.info5
  obtain ⟨v', W', h1, h2, h3, h4⟩ := append_new 28 5 i (.int .u8 0) 1 1 Tryz.underlying28 hi hz hs hb rfl (by omega) u xs.length (bvs xs) h #[.int .u8 x] rfl (by simp [Value.oneCell']) (by unfold maxLen; omega) (by omega)
  refine ⟨v', W', h1, ?_, h3, h4⟩
  have e : bvs (xs ++ lowB 1 x) = bvs xs ++ #[Value.int .u8 x].toList := by
    rw [bvs_append]
    congr 1
    have : (UInt8.ofNat x).toNat = x := by rw [UInt8.toNat_ofNat']; omega
    simp [bvs, lowB, this]
  show W'.ownsRow 0 5 1 v' (xs ++ lowB 1 x).length (bvs (xs ++ lowB 1 x))
  rw [e, List.length_append, lowB_len]; exact h2

set_option maxHeartbeats 1000000 in
theorem fnumber_any (u : Value) (xs : List UInt8) (n : Int) (w : World) (h : BR w u xs) (hn : wN n = false) (hx : xs.length + 4 ≤ 140737488355328) :
    Calls Tryz.prog 34 #[u, .int .i64 n] w fun e w' => ∃ u', e = .returned u' ∧ BR w' u' (xs ++ nb n) ∧ Grw w u w' u' := by
  have hb := wN_bd hn
  obtain ⟨N, rfl⟩ : ∃ N : Nat, n = N := ⟨n.toNat, by omega⟩
  have HB : Hid (BR w u xs ∧ (N : Int) ≤ 4294967295 ∧ nb (N : Int) = lowB 4 N) := ⟨h, hb.2, by unfold nb; congr 1; omega⟩
  clear h hn hb
  go_enter Tryz.func34, Tryz.ntmps34
  go_wp2
  go_loopw [0, 1, 5] (fun b m i wr => ∃ j : Nat, j ≤ 4 ∧ i = .int .i64 j ∧ m = .int .i64 ((N / 256 ^ j : Nat) : Int) ∧ BR wr b (xs ++ lowB j N) ∧ Grw w u wr b) (fun _ _ i _ => 4 - (intOf i).toNat)
  case atStart => exact ⟨0, by omega, rfl, by simp, by simpa [lowB] using HB.out.1, Grw.refl _ _⟩
  case round =>
    obtain ⟨j, hj, rfl, rfl, hR, hG⟩ := hrel
    by_cases hlt : j < 4
    · obtain ⟨M, hM⟩ : ∃ M, N / 256 ^ j = M := ⟨_, rfl⟩
      have hMle : M ≤ N := by rw [← hM]; exact Nat.div_le_self _ _
      have hMb : (M : Int) ≤ 4294967295 := by have := HB.out.2.1; omega
      obtain ⟨v', W', happ, hR', hG'⟩ := append_byte u0 (xs ++ lowB j N) (M % 256) (by omega) hR (by rw [List.length_append, lowB_len]; omega)
      have HAP : Hid (∀ ty, (Builtin.append_ #[28, 28] ty #[u0, .slice (some ⟨wr.heap.size, 0, none⟩) 1 1]).run Tryz.prog (wr.alloc (.cells #[.int .u8 ((M % 256 : Nat) : Int)] 5)) = .ok v' W') := happ
      have HN : Hid (BR W' v' (xs ++ lowB (j + 1) N) ∧ Grw w u W' v' ∧ N / 256 ^ (j + 1) = M / 256) := by
        refine ⟨?_, hG.trans hG', by rw [Nat.pow_succ, ← Nat.div_div_eq_div_mul, hM]⟩
        have e : xs ++ lowB (j + 1) N = xs ++ lowB j N ++ lowB 1 (M % 256) := by
          rw [lowB_succ, List.append_assoc, hM]
          congr 2
          have : UInt8.ofNat M = UInt8.ofNat (M % 256) := by
            apply UInt8.toNat_inj.1; rw [UInt8.toNat_ofNat', UInt8.toNat_ofNat']; omega
          simp [lowB, this]
        rw [e]; exact hR'
      have h1 : (M : Int).tmod 256 = ((M % 256 : Nat) : Int) := by rw [Int.tmod_eq_emod_of_nonneg (by omega)]; omega
      have h2 : (M : Int).tdiv 256 = ((M / 256 : Nat) : Int) := by rw [Int.tdiv_eq_ediv_of_nonneg (by omega)]; omega
      have h3 : IntKind.u8.wrap ((M % 256 : Nat) : Int) = ((M % 256 : Nat) : Int) := by rw [IntKind.wrap_u8']; omega
      obtain ⟨R, hR2⟩ : ∃ R, M % 256 = R := ⟨_, rfl⟩
      obtain ⟨D, hD2⟩ : ∃ D, M / 256 = D := ⟨_, rfl⟩
      rw [hM]
      rw [hR2] at h1 h3 HAP
      rw [hD2] at h2 HN
      have hRb : (R : Int) < 256 := by omega
      have hDb : (D : Int) ≤ 4294967295 := by omega
      clear happ hR' hG' hR hG hMle hR2 hD2 hM
      go_wp2_with (at_builtin; go_must (refine wpList_append_run rfl (.tmp 7) (.tmp 11) 28 28 rfl u0 (.slice (some ⟨wr.heap.size, 0, none⟩) 1 1) v' W' rfl rfl HAP.out ?_; refine Hid.out ?_))
      unfold Hid
      clear HAP
      go_wp2
      go_roundw
      case rel => exact ⟨j + 1, by omega, by go_num, by rw [HN.out.2.2], HN.out.1, HN.out.2.1⟩
      case measure => simp [intOf]; omega
    · obtain rfl : j = 4 := by omega
      have HN : Hid (BR wr u0 (xs ++ nb (N : Int)) ∧ Grw w u wr u0) := ⟨by rw [HB.out.2.2]; exact hR, hG⟩
      clear hR hG
      go_wp2
      go_ret
      exact ⟨u0, rfl, HN.out⟩
end Go.Proofs.YtjadpbkhfclldaaGreat
