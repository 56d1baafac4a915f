import Derived.Test.YtjadpbkhfclldaaGreatJWalkC
import Derived.OwnWalk
namespace Go.Proofs.YtjadpbkhfclldaaGreat
open Go.RowKit
set_option maxRecDepth 6000

theorem Tryz.info5 : (Tryz.prog.info? 5).map (fun i => (i.zero, i.size, i.bytes)) = some (some (.int .u8 0), 1, 1) := by kernel_rfl
theorem Tryz.cells27 : Tryz.prog.cellsOf 28 = 1 := by kernel_rfl

/-- What a writer in block b holds: g is the block of its bytes, if it has one. -/
def Wr (w : World) (b : Nat) (g : Option Nat) (xs : List UInt8) : Prop :=
  match g with
  | none => xs = [] ∧ Blk w b [.slice none 0 0, .int .i64 0] 95
  | some g => ∃ rest : List Value, g ≠ b ∧ Blk w b [.slice (some ⟨g, 0, none⟩) xs.length (xs.length + rest.length), .int .i64 xs.length] 95 ∧ Blk w g (bvs xs ++ rest) 5 ∧ xs.length + rest.length ≤ maxLen

set_option maxHeartbeats 400000 in
theorem newWriter_any (w : World) :
    Calls Tryz.prog 37 #[] w fun e w' => e = .returned (.pointer (some ⟨w.heap.size, 0, none⟩)) ∧ w' = w.alloc (.cells #[.slice none 0 0, .int .i64 0] 95) := by
  go_enter Tryz.func37, Tryz.ntmps37
  go_wp2
  go_ret
  exact ⟨rfl, rfl⟩

theorem replicate_bvs (n : Nat) : (bvs (List.replicate n 0)).length = n := by simp [bvs]

/-- What 'append(w.held, make([]byte, n)...)' does for a writer, on each of its ways. -/
theorem Wr.grow {w : World} {b : Nat} {g : Option Nat} {xs : List UInt8} (h : Wr w b g xs) (n : Nat) (h0 : g = none → 0 < n) (hn : xs.length + n ≤ 140737488355328) :
    ∃ a c g' W1, ∃ rest : List Value, Blk w b [.slice a xs.length c, .int .i64 xs.length] 95 ∧
      (∀ ty, (Builtin.append_ #[28, 3] ty #[.slice a xs.length c, .int .i64 n]).run Tryz.prog w = .ok (.slice (some ⟨g', 0, none⟩) (xs.length + n) (xs.length + n + rest.length)) W1) ∧
      g' ≠ b ∧ Blk W1 g' (bvs xs ++ bvs (List.replicate n 0) ++ rest) 5 ∧ Blk W1 b [.slice a xs.length c, .int .i64 xs.length] 95 ∧ (g = some g' ∨ w.heap.size ≤ g') ∧ Keeps (fun k => some k = g) w W1 ∧
      xs.length + n + rest.length ≤ maxLen := by
  obtain ⟨i0, hi, hz0, hz1, hz2⟩ := info_parts Tryz.info5
  have hmax : xs.length + n ≤ maxLen := by unfold maxLen; omega
  cases g with
  | none =>
    obtain ⟨rfl, hb⟩ := h
    have h0 := h0 rfl
    have happ := fun ty => run_append_zeros_nil (P := Tryz.prog) w 28 ty 3 5 i0 Tryz.underlying28 Tryz.underlying3 hi hz0 hz1 hz2 n h0 (by simpa using hn)
    have hge := grownCap_ge w n 0 5
    have hle := grownCap_le_maxLen w n 0 5 (by simpa using hmax)
    refine ⟨none, 0, w.heap.size, w.drew.alloc (.cells (bvs (List.replicate n 0) ++ bvs (List.replicate (grownCap w n 0 5 - n) 0)).toArray 5), bvs (List.replicate (grownCap w n 0 5 - n) 0), hb, ?_, ?_, ?_, ?_, .inr (Nat.le_refl _), (((Keeps.refl _ w).drew).alloc _), ?_⟩
    · intro ty
      rw [replicate_bvs, List.length_nil, Nat.zero_add, Nat.add_sub_cancel' hge]
      exact happ ty
    · have := hb.lt; omega
    · exact Blk.new w.drew _ 5
    · exact hb.drew.alloc _
    · rw [replicate_bvs]; simp; omega
  | some g =>
    obtain ⟨rest, hgb, hb, hg, hm⟩ := h
    by_cases hr : n ≤ rest.length
    · have happ := fun ty => run_append_zeros_room (P := Tryz.prog) w 28 ty 3 5 i0 Tryz.underlying28 Tryz.underlying3 hi hz0 hz1 hz2 g xs.length (xs.length + rest.length) n (bvs xs ++ rest) 5 hg (by omega) (by simp [bvs_length]) (by omega)
      have e : (bvs xs ++ rest).take xs.length ++ bvs (List.replicate n 0) ++ (bvs xs ++ rest).drop (xs.length + n) = bvs xs ++ bvs (List.replicate n 0) ++ rest.drop n := by
        rw [List.take_append_of_le_length (by rw [bvs_length]; exact Nat.le_refl _), List.take_of_length_le (by rw [bvs_length]; exact Nat.le_refl _), List.drop_append, List.drop_of_length_le (by rw [bvs_length]; omega), bvs_length]
        simp
      rw [e] at happ
      refine ⟨some ⟨g, 0, none⟩, xs.length + rest.length, g, w.setRow g (bvs xs ++ bvs (List.replicate n 0) ++ rest.drop n).toArray, rest.drop n, hb, ?_, hgb, hg.setRow _, hb.setRow_ne (fun e => hgb e.symm) _, .inl rfl, (Keeps.refl _ w).setRow _ _ (fun _ => rfl), ?_⟩
      · intro ty
        have e2 : xs.length + n + (rest.drop n).length = xs.length + rest.length := by rw [List.length_drop]; omega
        rw [e2]
        exact happ ty
      · simp; omega
    · have happ := fun ty => run_append_zeros_grow (P := Tryz.prog) w 28 ty 3 5 i0 Tryz.underlying28 Tryz.underlying3 hi hz0 hz1 hz2 g xs.length (xs.length + rest.length) n (bvs xs ++ rest) 5 hg (by omega) (by simp [bvs_length]) (by omega) (by omega)
      have e : (bvs xs ++ rest).take xs.length = bvs xs := by
        rw [List.take_append_of_le_length (by rw [bvs_length]; exact Nat.le_refl _), List.take_of_length_le (by rw [bvs_length]; exact Nat.le_refl _)]
      rw [e] at happ
      have hge := grownCap_ge w (xs.length + n) (xs.length + rest.length) 5
      have hle := grownCap_le_maxLen w (xs.length + n) (xs.length + rest.length) 5 hmax
      refine ⟨some ⟨g, 0, none⟩, xs.length + rest.length, w.heap.size, w.drew.alloc (.cells (bvs xs ++ bvs (List.replicate n 0) ++ bvs (List.replicate (grownCap w (xs.length + n) (xs.length + rest.length) 5 - (xs.length + n)) 0)).toArray 5), bvs (List.replicate (grownCap w (xs.length + n) (xs.length + rest.length) 5 - (xs.length + n)) 0), hb, ?_, ?_, ?_, ?_, .inr (Nat.le_refl _), (((Keeps.refl _ w).drew).alloc _), ?_⟩
      · intro ty
        rw [replicate_bvs, Nat.add_sub_cancel' hge]
        exact happ ty
      · have := hb.lt; omega
      · exact Blk.new w.drew _ 5
      · exact hb.drew.alloc _
      · rw [replicate_bvs]; omega

set_option maxHeartbeats 400000 in
theorem more_any (b n : Nat) (g : Option Nat) (xs : List UInt8) (w : World) (h : Wr w b g xs) (h0 : g = none → 0 < n) (hn : xs.length + n ≤ 140737488355328) :
    Calls Tryz.prog 54 #[.pointer (some ⟨b, 0, none⟩), .int .i64 n] w fun e w' => ∃ g' x c', e = .returned (.slice (some ⟨g', x, none⟩) n c') ∧ (x = xs.length ∨ (n = 0 ∧ x = 0)) ∧ Wr w' b (some g') (xs ++ List.replicate n 0) ∧ (g = some g' ∨ w.heap.size ≤ g') ∧ Keeps (fun k => k = b ∨ some k = g) w w' := by
  obtain ⟨a, c, g', W1, rest, hb, happ, hgb, hg1, hb1, hfr, hK, hm⟩ := h.grow n h0 hn
  have hmx := hm
  unfold maxLen at hmx
  have c0 := hb.cell (i := 0) rfl
  have d0 := hb1.cell (i := 0) rfl
  have d1 := hb1.cell (i := 1) rfl
  have f0 := hb1.frozen 0
  have HA : Hid (∀ ty, _) := happ
  have HB : Hid (Blk W1 b [.slice a xs.length c, .int .i64 xs.length] 95) := hb1
  have hb2 := hb1.setCell 0 (.slice (some ⟨g', 0, none⟩) (xs.length + n) (xs.length + n + rest.length))
  have e0 := hb2.cell (i := 0) rfl
  have e1 := hb2.cell (i := 1) rfl
  have e2 := hb2.frozen 1
  obtain ⟨m, hm'⟩ : ∃ m, m = xs.length := ⟨_, rfl⟩
  rw [← hm'] at HA c0 d0 d1 e0 e1 hm hmx hn e2
  have HM : Hid (m = xs.length) := hm'
  clear happ hb1 hb hb2 hm'
  go_enter Tryz.func54, Tryz.ntmps54
  go_wp2_with (at_builtin; go_must (refine wpList_append_run rfl (.tmp 10) (.tmp 11) 28 3 rfl (.slice a m c) (.int .i64 n) (.slice (some ⟨g', 0, none⟩) (m + n) (m + n + rest.length)) W1 rfl rfl HA.out ?_))
  refine (next_any b g' 0 (m + n) (m + n + rest.length) m n _ e0 e1 e2 (by omega) (by omega) hm).mono ?_
  rintro e w' ⟨⟨x, rfl, hx⟩, j, rfl⟩
  clear c0 d0 d1 f0 e0 e1 e2
  go_wp2
  go_ret
  refine ⟨g', x, _, rfl, ?_, ?_, hfr, ?_⟩
  · rw [← HM.out]; omega
  · refine ⟨rest, hgb, ?_, ?_, ?_⟩
    · have e1 : (xs ++ List.replicate n 0).length = m + n := by rw [List.length_append, List.length_replicate, HM.out]
      rw [e1]
      have := (HB.out.setCell 0 (.slice (some ⟨g', 0, none⟩) (m + n) (m + n + rest.length))).setCell 1 (.int .i64 ((m : Int) + (n : Int)))
      exact this
    · rw [bvs_append]
      exact (hg1.setCell_ne (a := ⟨b, 0, none⟩) hgb _).setCell_ne (a := ⟨b, 1, none⟩) hgb _
    · simp only [List.length_append, List.length_replicate]
      rw [← HM.out]
      exact hm
  · exact (((hK.mono fun k _ hk => .inr hk).setCell ⟨b, 0, none⟩ _ fun _ => .inl rfl).setCell ⟨b, 1, none⟩ _ fun _ => .inl rfl).drewN j

/-- What a writer holds behind a store into its last bytes. -/
theorem Wr.put {w w' : World} {b g : Nat} {xs ys zs : List UInt8} (h : Wr w b (some g) (xs ++ ys)) (hl : zs.length = ys.length)
    (hg : ∀ rest, Blk w g (bvs (xs ++ ys) ++ rest) 5 → Blk w' g (bvs (xs ++ zs) ++ rest) 5) (hK : Keeps (· = g) w w') : Wr w' b (some g) (xs ++ zs) := by
  obtain ⟨rest, hgb, hb, hgg, hm⟩ := h
  have e : (xs ++ zs).length = (xs ++ ys).length := by simp [hl]
  refine ⟨rest, hgb, ?_, hg rest hgg, by rw [e]; exact hm⟩
  rw [e]
  exact hb.kept hK (fun e => hgb e.symm)

theorem tail_splice (xs ys zs : List UInt8) (rest : List Value) (h : zs.length = ys.length) :
    (bvs (xs ++ ys) ++ rest).take xs.length ++ bvs zs ++ (bvs (xs ++ ys) ++ rest).drop (xs.length + zs.length) = bvs (xs ++ zs) ++ rest := by
  have e1 : (bvs (xs ++ ys) ++ rest).take xs.length = bvs xs := by
    rw [bvs_append, List.append_assoc, List.take_append_of_le_length (by rw [bvs_length]; exact Nat.le_refl _), List.take_of_length_le (by rw [bvs_length]; exact Nat.le_refl _)]
  have e2 : (bvs (xs ++ ys) ++ rest).drop (xs.length + zs.length) = rest := by
    have : (bvs (xs ++ ys)).length = xs.length + zs.length := by rw [bvs_length, List.length_append, h]
    rw [← this, List.drop_left]
  rw [e1, e2, bvs_append]

theorem keeps_both {w w1 w2 : World} {b g' : Nat} {g : Option Nat} (hK : Keeps (fun k => k = b ∨ some k = g) w w1) (hK2 : Keeps (· = g') w1 w2) (hfr : g = some g' ∨ w.heap.size ≤ g') : Keeps (fun k => k = b ∨ some k = g) w w2 :=
  hK.trans hK2 fun k hk e => by
    rcases hfr with h | h
    · exact .inr (by rw [h, e])
    · omega

set_option maxHeartbeats 400000 in
theorem wnumber_any (b n N : Nat) (g : Option Nat) (xs : List UInt8) (w : World) (h : Wr w b g xs) (h0 : 0 < n) (h8 : n ≤ 8) (hn : xs.length + n ≤ 140737488355328) (hN : N < 18446744073709551616) :
    Calls Tryz.prog 38 #[.pointer (some ⟨b, 0, none⟩), .int .i64 n, .int .u64 N] w fun e w' => e = .returned (.tuple #[]) ∧ ∃ g', Wr w' b (some g') (xs ++ lowB n N) ∧ (g = some g' ∨ w.heap.size ≤ g') ∧ Keeps (fun k => k = b ∨ some k = g) w w' := by
  go_enter Tryz.func38, Tryz.ntmps38
  go_wp2_with fail
  refine (more_any b n g xs w h (fun _ => h0) hn).mono ?_
  rintro e w1 ⟨g', x, c', rfl, hx, hw, hfr, hK⟩
  obtain rfl : x = xs.length := by omega
  clear h hx hn
  go_wp2_with fail
  have hw1 := hw
  obtain ⟨rest, hgb, hb, hgg, hm⟩ := hw
  refine (spread_any g' xs.length n c' N _ 5 _ hgg (by simp [bvs_length]) (by unfold maxLen; omega) hN).mono ?_
  rintro e w2 ⟨rfl, hg2, hK2⟩
  go_wp2
  go_end0
  refine ⟨rfl, g', ?_, hfr, keeps_both hK hK2 hfr⟩
  have e := tail_splice xs (List.replicate n 0) (lowB n N) rest (by rw [lowB_length, List.length_replicate])
  rw [lowB_length] at e
  rw [e] at hg2
  have e1 : (xs ++ lowB n N).length = (xs ++ List.replicate n 0).length := by simp [lowB_length]
  refine ⟨rest, hgb, ?_, hg2, by rw [e1]; exact hm⟩
  rw [e1]
  exact hb.kept hK2 (fun e => hgb e.symm)

set_option maxHeartbeats 400000 in
theorem wU8_any (b N : Nat) (g : Option Nat) (xs : List UInt8) (w : World) (h : Wr w b g xs) (hn : xs.length + 1 ≤ 140737488355328) (hN : N < 256) :
    Calls Tryz.prog 55 #[.pointer (some ⟨b, 0, none⟩), .int .u8 N] w fun e w' => e = .returned (.tuple #[]) ∧ ∃ g', Wr w' b (some g') (xs ++ lowB 1 N) ∧ (g = some g' ∨ w.heap.size ≤ g') ∧ Keeps (fun k => k = b ∨ some k = g) w w' := by
  have hc : IntKind.u64.wrap (N : Int) = N := by rw [IntKind.wrap_u64]; omega
  go_enter Tryz.func55, Tryz.ntmps55
  go_wp2_with fail
  refine (wnumber_any b 1 N g xs w h (by omega) (by omega) hn (by omega)).mono ?_
  rintro e w1 ⟨rfl, hw⟩
  go_wp2
  go_end0
  exact ⟨rfl, hw⟩

set_option maxHeartbeats 400000 in
theorem wU32_any (b N : Nat) (g : Option Nat) (xs : List UInt8) (w : World) (h : Wr w b g xs) (hn : xs.length + 4 ≤ 140737488355328) (hN : N < 4294967296) :
    Calls Tryz.prog 17 #[.pointer (some ⟨b, 0, none⟩), .int .u32 N] w fun e w' => e = .returned (.tuple #[]) ∧ ∃ g', Wr w' b (some g') (xs ++ lowB 4 N) ∧ (g = some g' ∨ w.heap.size ≤ g') ∧ Keeps (fun k => k = b ∨ some k = g) w w' := by
  have hc : IntKind.u64.wrap (N : Int) = N := by rw [IntKind.wrap_u64]; omega
  go_enter Tryz.func17, Tryz.ntmps17
  go_wp2_with fail
  refine (wnumber_any b 4 N g xs w h (by omega) (by omega) hn (by omega)).mono ?_
  rintro e w1 ⟨rfl, hw⟩
  go_wp2
  go_end0
  exact ⟨rfl, hw⟩

theorem Tryz.size5 : (Tryz.prog.info? 5).map (·.size) = some 1 := by kernel_rfl

set_option maxHeartbeats 400000 in
theorem wText_any (b : Nat) (s : ByteArray) (g : Option Nat) (xs : List UInt8) (w : World) (h : Wr w b g xs) (hs : s.size < 4294967296) (hn : xs.length + 4 + s.size ≤ 140737488355328) :
    Calls Tryz.prog 72 #[.pointer (some ⟨b, 0, none⟩), .string s] w fun e w' => e = .returned (.tuple #[]) ∧ ∃ g', Wr w' b (some g') (xs ++ (lowB 4 s.size ++ s.data.toList)) ∧ (g = some g' ∨ w.heap.size ≤ g') ∧ Keeps (fun k => k = b ∨ some k = g) w w' := by
  have hc : IntKind.u32.wrap (s.size : Int) = s.size := by rw [IntKind.wrap_u32']; omega
  go_enter Tryz.func72, Tryz.ntmps72
  go_wp2_with fail
  refine (wU32_any b s.size g xs w h (by omega) hs).mono ?_
  rintro e w1 ⟨rfl, g1, hw1, hf1, hK1⟩
  go_wp2_with fail
  have hl4 : (xs ++ lowB 4 s.size).length = xs.length + 4 := by simp [lowB_length]
  refine (more_any b s.size (some g1) _ _ hw1 (fun h => by cases h) (by rw [hl4]; exact hn)).mono ?_
  rintro e w2 ⟨g2, x, c2, rfl, hx, hw2, hf2, hK2⟩
  clear h hn
  obtain ⟨W3, hcp, hw3, hK3⟩ : ∃ W3, (∀ ty, (Builtin.copy_ #[28, 9] ty #[.slice (some ⟨g2, x, none⟩) s.size c2, .string s]).run Tryz.prog w2 = .ok (goInt s.size) W3) ∧ Wr W3 b (some g2) (xs ++ (lowB 4 s.size ++ s.data.toList)) ∧ Keeps (· = g2) w2 W3 := by
    obtain ⟨rest, hgb, hb, hgg, hm⟩ := hw2
    have hcp := fun ty => run_copy_text (P := Tryz.prog) (w := w2) 28 9 ty 5 Tryz.underlying28 Tryz.size5 g2 x c2 _ 5 hgg s (by
      simp only [List.length_append, bvs_length, List.length_replicate, lowB_length]; omega)
    have hsl : s.data.toList.length = s.size := rfl
    rw [← List.append_assoc]
    have e1 : (xs ++ lowB 4 s.size ++ s.data.toList).length = (xs ++ lowB 4 s.size ++ List.replicate s.size 0).length := by simp
    have e2 : (bvs (xs ++ lowB 4 s.size ++ List.replicate s.size 0) ++ rest).take x ++ bvs s.data.toList ++ (bvs (xs ++ lowB 4 s.size ++ List.replicate s.size 0) ++ rest).drop (x + s.size) = bvs (xs ++ lowB 4 s.size ++ s.data.toList) ++ rest := by
      rcases hx with hx | ⟨h0, hx⟩
      · have e := tail_splice (xs ++ lowB 4 s.size) (List.replicate s.size 0) s.data.toList rest (by simp)
        rw [hsl, ← hx] at e
        exact e
      · have hnil : s.data.toList = [] := List.eq_nil_of_length_eq_zero (by rw [hsl]; exact h0)
        rw [hx, h0, hnil]
        simp [bvs]
    rw [e2] at hcp
    refine ⟨_, hcp, ⟨rest, hgb, ?_, hgg.setRow _, by rw [e1]; exact hm⟩, (Keeps.refl _ w2).setRow _ _ fun _ => rfl⟩
    rw [e1]
    exact hb.setRow_ne (fun e => hgb e.symm) _
  have HC : Hid (∀ ty, _) := hcp
  clear hcp
  go_wp2_with (refine wpList_copy_run rfl (.tmp 14) (.tmp 15) 28 9 rfl (.slice (some ⟨g2, x, none⟩) s.size c2) (.string s) (goInt s.size) W3 rfl rfl HC.out ?_)
  go_end0
  refine ⟨rfl, g2, hw3, ?_, ?_⟩
  · rcases hf2 with h | h
    · have : g1 = g2 := by simpa using h
      rw [← this]; exact hf1
    · right; have := hK1.size; omega
  · refine (hK1.trans hK2 ?_).trans hK3 ?_
    · intro k hk e
      rcases e with e | e
      · exact .inl e
      · rcases hf1 with h | h
        · exact .inr (by rw [e, h])
        · have : k = g1 := by simpa using e
          omega
    · intro k hlt e
      rcases hf2 with h | h
      · have : g1 = g2 := by simpa using h
        rcases hf1 with h' | h'
        · exact .inr (by rw [h', this, e])
        · omega
      · have := hK1.size; omega

set_option maxHeartbeats 400000 in
theorem wLen_any (b : Nat) (g : Option Nat) (xs : List UInt8) (w : World) (h : Wr w b g xs) :
    Calls Tryz.prog 20 #[.pointer (some ⟨b, 0, none⟩)] w fun e w' => e = .returned (.int .i64 xs.length) ∧ w' = w := by
  obtain ⟨a, c, hb, hl⟩ : ∃ a c, Blk w b [.slice a xs.length c, .int .i64 xs.length] 95 ∧ xs.length ≤ maxLen := by
    cases g with
    | none => obtain ⟨rfl, hb⟩ := h; exact ⟨none, 0, hb, Nat.zero_le _⟩
    | some g => obtain ⟨rest, _, hb, _, hm⟩ := h; exact ⟨_, _, hb, by omega⟩
  have c0 := hb.cell (i := 0) rfl
  go_enter Tryz.func20, Tryz.ntmps20
  go_wp2_with (go_at_call 47; refine (size_any b a xs.length c _ c0 hl).mono ?_; rintro e w' ⟨rfl, rfl⟩)
  go_ret
  exact ⟨rfl, rfl⟩

/-- What is read of a writer's bytes. -/
theorem Wr.look {w : World} {b : Nat} {g : Option Nat} {xs : List UInt8} (h : Wr w b g xs) :
    ∃ a c, Blk w b [.slice a xs.length c, .int .i64 xs.length] 95 ∧ xs.length ≤ maxLen ∧ Seg w a xs ∧ ∀ x, a = some x → some x.block = g := by
  cases g with
  | none => obtain ⟨rfl, hb⟩ := h; exact ⟨none, 0, hb, Nat.zero_le _, .inl rfl, fun x hx => by cases hx⟩
  | some g =>
    obtain ⟨rest, _, hb, hg, hm⟩ := h
    refine ⟨_, _, hb, by omega, .inr ⟨g, 0, rfl, fun j hj => hg.cell ?_⟩, fun x hx => by simp at hx; rw [← hx]⟩
    rw [Nat.zero_add, List.getElem?_append_left (by rw [bvs_length]; exact hj)]
    exact bvs_get xs j hj

theorem Seg.kept {S : Nat → Prop} {w w' : World} {a : Option Addr} {xs : List UInt8} (h : Seg w a xs) (hK : Keeps S w w') (hn : ∀ x, a = some x → ¬ S x.block) : Seg w' a xs := by
  rcases h with h | ⟨g, o, ha, hc⟩
  · exact .inl h
  · refine .inr ⟨g, o, ha, fun j hj => ?_⟩
    have h1 := hc j hj
    have hlt : g < w.heap.size := World.block_lt_of_cell? w ⟨g, o + j, none⟩ h1
    rw [World.cell?_of_block (w := w) (hK.block g hlt (hn _ ha))]
    exact h1

set_option maxHeartbeats 400000 in
theorem wOut_any (b : Nat) (g : Option Nat) (xs : List UInt8) (w : World) (h : Wr w b g xs) (hn : xs.length ≤ 281474976710656) :
    Calls Tryz.prog 21 #[.pointer (some ⟨b, 0, none⟩)] w fun e w' => e = .returned (.slice (some ⟨w.heap.size, 0, none⟩) xs.length xs.length) ∧ Blk w' w.heap.size (bvs xs) 5 ∧ Keeps (fun _ => False) w w' := by
  obtain ⟨i0, hi, hz0, hz1, hz2⟩ := info_parts Tryz.info5
  obtain ⟨a, c, hb, hl, hs, ha⟩ := h.look
  have c0 := hb.cell (i := 0) rfl
  have hmk := run_make_bytes (P := Tryz.prog) (w := w) 28 5 i0 Tryz.underlying28 hi hz0 hz1 hz2 xs.length hn
  obtain ⟨W1, hW⟩ : ∃ W1, W1 = w.alloc (.cells (bvs (List.replicate xs.length 0)).toArray 5) := ⟨_, rfl⟩
  rw [← hW] at hmk
  have hK1 : Keeps (fun _ => False) w W1 := by rw [hW]; exact (Keeps.refl _ w).alloc _
  have hB1 : Blk W1 w.heap.size (bvs (List.replicate xs.length 0)) 5 := by rw [hW]; exact Blk.new w _ 5
  have c1 : W1.cell? ⟨b, 0, none⟩ = some (.slice a xs.length c) := (hb.kept hK1 (fun e => e)).cell (i := 0) rfl
  have hs1 : Seg W1 a xs := hs.kept hK1 (fun _ _ e => e)
  have hcp := fun ty => run_copy_blk (P := Tryz.prog) (w := W1) 28 28 ty 5 Tryz.underlying28 Tryz.size5 w.heap.size 0 xs.length _ 5 hB1 a c xs hs1 (by simp [bvs_length])
  have e : (bvs (List.replicate xs.length 0)).take 0 ++ bvs xs ++ (bvs (List.replicate xs.length 0)).drop (0 + xs.length) = bvs xs := by simp [bvs]
  rw [e] at hcp
  obtain ⟨W2, hW2⟩ : ∃ W2, W2 = W1.setRow w.heap.size (bvs xs).toArray := ⟨_, rfl⟩
  have hB2 : Blk W2 w.heap.size (bvs xs) 5 := by rw [hW2]; exact hB1.setRow _
  have hK2 : Keeps (fun _ => False) w W2 := by rw [hW2]; exact hK1.setRow _ _ (fun h => by omega)
  rw [← hW2] at hcp
  obtain ⟨n, hnn⟩ : ∃ n, n = xs.length := ⟨_, rfl⟩
  rw [← hnn] at hmk hcp c0 c1 hl ⊢
  have HN : Hid (n = xs.length) := hnn
  have HM : Hid (_ = _) := hmk
  have HC : Hid (∀ ty, _) := hcp
  clear hmk hcp e hW hW2 hnn
  go_enter Tryz.func21, Tryz.ntmps21
  go_wp2_with (first | (go_at_call 47; refine (size_any b a n c _ c0 hl).mono ?_; rintro e w' ⟨rfl, hw'⟩; obtain rfl := hw'.symm) | (at_make; refine wpList_make_run rfl (.tmp 9) (.tmp 9) 28 rfl (.int .i64 n) (.int .i64 n) (.slice (some ⟨w.heap.size, 0, none⟩) n n) W1 rfl rfl HM.out ?_; refine Hid.out ?_))
  unfold Hid
  go_wp2_with ((refine wpList_copy_run rfl (.tmp 11) (.tmp 16) 28 28 rfl (.slice (some ⟨w.heap.size, 0, none⟩) n n) (.slice a n c) (goInt n) W2 rfl rfl HC.out ?_))
  go_ret
  exact ⟨rfl, hB2, hK2⟩

end Go.Proofs.YtjadpbkhfclldaaGreat
