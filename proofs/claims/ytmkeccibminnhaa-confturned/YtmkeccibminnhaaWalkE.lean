import Derived.Test.YtmkeccibminnhaaWalkB
import Derived.Test.YtmkeccibminnhaaWalkC
import Derived.OwnWalk
namespace Go.Proofs.Ytmkeccibminnhaa
open Go.RowKit
set_option maxRecDepth 6000

theorem Try.info5 : (Try.prog.info? 5).map (fun i => (i.zero, i.size, i.bytes)) = some (some (.int .u8 0), 1, 1) := by kernel_rfl
theorem Try.cells27 : Try.prog.cellsOf 27 = 1 := by kernel_rfl

/-- What a writer in block b holds: g is the block of its bytes, if it has one. -/
def Wr (w : World) (b : Nat) (g : Option Nat) (xs : List UInt8) : Prop :=
  match g with
  | none => xs = [] ∧ Blk w b [.slice none 0 0, .int .i64 0] 88
  | some g => ∃ rest : List Value, g ≠ b ∧ Blk w b [.slice (some ⟨g, 0, none⟩) xs.length (xs.length + rest.length), .int .i64 xs.length] 88 ∧ Blk w g (bvs xs ++ rest) 5 ∧ xs.length + rest.length ≤ maxLen

set_option maxHeartbeats 400000 in
theorem newWriter_any (w : World) :
    Calls Try.prog 31 #[] w fun e w' => e = .returned (.pointer (some ⟨w.heap.size, 0, none⟩)) ∧ w' = w.alloc (.cells #[.slice none 0 0, .int .i64 0] 88) := by
  go_enter Try.func31, Try.ntmps31
  go_wp2
  go_ret
  exact ⟨rfl, rfl⟩

theorem replicate_bvs (n : Nat) : (bvs (List.replicate n 0)).length = n := by simp [bvs]

/-- What 'append(w.held, make([]byte, n)...)' does for a writer, on each of its ways. -/
theorem Wr.grow {w : World} {b : Nat} {g : Option Nat} {xs : List UInt8} (h : Wr w b g xs) (n : Nat) (h0 : g = none → 0 < n) (hn : xs.length + n ≤ 140737488355328) :
    ∃ a c g' W1, ∃ rest : List Value, Blk w b [.slice a xs.length c, .int .i64 xs.length] 88 ∧
      (∀ ty, (Builtin.append_ #[27, 3] ty #[.slice a xs.length c, .int .i64 n]).run Try.prog w = .ok (.slice (some ⟨g', 0, none⟩) (xs.length + n) (xs.length + n + rest.length)) W1) ∧
      g' ≠ b ∧ Blk W1 g' (bvs xs ++ bvs (List.replicate n 0) ++ rest) 5 ∧ Blk W1 b [.slice a xs.length c, .int .i64 xs.length] 88 ∧ (g = some g' ∨ w.heap.size ≤ g') ∧ Keeps (fun k => some k = g) w W1 ∧
      xs.length + n + rest.length ≤ maxLen := by
  obtain ⟨i0, hi, hz0, hz1, hz2⟩ := info_parts Try.info5
  have hmax : xs.length + n ≤ maxLen := by unfold maxLen; omega
  cases g with
  | none =>
    obtain ⟨rfl, hb⟩ := h
    have h0 := h0 rfl
    have happ := fun ty => run_append_zeros_nil (P := Try.prog) w 27 ty 3 5 i0 Try.underlying27 Try.underlying3 hi hz0 hz1 hz2 n h0 (by simpa using hn)
    have hge := grownCap_ge w n 0 5
    have hle := grownCap_le_maxLen w n 0 5 (by simpa using hmax)
    refine ⟨none, 0, w.heap.size, w.drew.alloc (.cells (bvs (List.replicate n 0) ++ bvs (List.replicate (grownCap w n 0 5 - n) 0)).toArray 5), bvs (List.replicate (grownCap w n 0 5 - n) 0), hb, ?_, ?_, ?_, ?_, .inr (Nat.le_refl _), (((Keeps.refl _ w).drew).alloc _), ?_⟩
    · intro ty
      rw [replicate_bvs, List.length_nil, Nat.zero_add, Nat.add_sub_cancel' hge]
      exact happ ty
    · have := hb.lt; omega
    · exact Blk.new w.drew _ 5
    · exact hb.drew.alloc _
    · rw [replicate_bvs]; simp; omega
  | some g =>
    obtain ⟨rest, hgb, hb, hg, hm⟩ := h
    by_cases hr : n ≤ rest.length
    · have happ := fun ty => run_append_zeros_room (P := Try.prog) w 27 ty 3 5 i0 Try.underlying27 Try.underlying3 hi hz0 hz1 hz2 g xs.length (xs.length + rest.length) n (bvs xs ++ rest) 5 hg (by omega) (by simp [bvs_length]) (by omega)
      have e : (bvs xs ++ rest).take xs.length ++ bvs (List.replicate n 0) ++ (bvs xs ++ rest).drop (xs.length + n) = bvs xs ++ bvs (List.replicate n 0) ++ rest.drop n := by
        rw [List.take_append_of_le_length (by rw [bvs_length]; exact Nat.le_refl _), List.take_of_length_le (by rw [bvs_length]; exact Nat.le_refl _), List.drop_append, List.drop_of_length_le (by rw [bvs_length]; omega), bvs_length]
        simp
      rw [e] at happ
      refine ⟨some ⟨g, 0, none⟩, xs.length + rest.length, g, w.setRow g (bvs xs ++ bvs (List.replicate n 0) ++ rest.drop n).toArray, rest.drop n, hb, ?_, hgb, hg.setRow _, hb.setRow_ne (fun e => hgb e.symm) _, .inl rfl, (Keeps.refl _ w).setRow _ _ (fun _ => rfl), ?_⟩
      · intro ty
        have e2 : xs.length + n + (rest.drop n).length = xs.length + rest.length := by rw [List.length_drop]; omega
        rw [e2]
        exact happ ty
      · simp; omega
    · have happ := fun ty => run_append_zeros_grow (P := Try.prog) w 27 ty 3 5 i0 Try.underlying27 Try.underlying3 hi hz0 hz1 hz2 g xs.length (xs.length + rest.length) n (bvs xs ++ rest) 5 hg (by omega) (by simp [bvs_length]) (by omega) (by omega)
      have e : (bvs xs ++ rest).take xs.length = bvs xs := by
        rw [List.take_append_of_le_length (by rw [bvs_length]; exact Nat.le_refl _), List.take_of_length_le (by rw [bvs_length]; exact Nat.le_refl _)]
      rw [e] at happ
      have hge := grownCap_ge w (xs.length + n) (xs.length + rest.length) 5
      have hle := grownCap_le_maxLen w (xs.length + n) (xs.length + rest.length) 5 hmax
      refine ⟨some ⟨g, 0, none⟩, xs.length + rest.length, w.heap.size, w.drew.alloc (.cells (bvs xs ++ bvs (List.replicate n 0) ++ bvs (List.replicate (grownCap w (xs.length + n) (xs.length + rest.length) 5 - (xs.length + n)) 0)).toArray 5), bvs (List.replicate (grownCap w (xs.length + n) (xs.length + rest.length) 5 - (xs.length + n)) 0), hb, ?_, ?_, ?_, ?_, .inr (Nat.le_refl _), (((Keeps.refl _ w).drew).alloc _), ?_⟩
      · intro ty
        rw [replicate_bvs, Nat.add_sub_cancel' hge]
        exact happ ty
      · have := hb.lt; omega
      · exact Blk.new w.drew _ 5
      · exact hb.drew.alloc _
      · rw [replicate_bvs]; omega

set_option maxHeartbeats 400000 in
theorem more_any (b n : Nat) (g : Option Nat) (xs : List UInt8) (w : World) (h : Wr w b g xs) (h0 : g = none → 0 < n) (hn : xs.length + n ≤ 140737488355328) :
    Calls Try.prog 55 #[.pointer (some ⟨b, 0, none⟩), .int .i64 n] w fun e w' => ∃ g' x c', e = .returned (.slice (some ⟨g', x, none⟩) n c') ∧ (x = xs.length ∨ (n = 0 ∧ x = 0)) ∧ Wr w' b (some g') (xs ++ List.replicate n 0) ∧ (g = some g' ∨ w.heap.size ≤ g') ∧ Keeps (fun k => k = b ∨ some k = g) w w' := by
  obtain ⟨a, c, g', W1, rest, hb, happ, hgb, hg1, hb1, hfr, hK, hm⟩ := h.grow n h0 hn
  have hmx := hm
  unfold maxLen at hmx
  have c0 := hb.cell (i := 0) rfl
  have d0 := hb1.cell (i := 0) rfl
  have d1 := hb1.cell (i := 1) rfl
  have f0 := hb1.frozen 0
  have HA : Hid (∀ ty, _) := happ
  have HB : Hid (Blk W1 b [.slice a xs.length c, .int .i64 xs.length] 88) := hb1
  have hb2 := hb1.setCell 0 (.slice (some ⟨g', 0, none⟩) (xs.length + n) (xs.length + n + rest.length))
  have e0 := hb2.cell (i := 0) rfl
  have e1 := hb2.cell (i := 1) rfl
  have e2 := hb2.frozen 1
  obtain ⟨m, hm'⟩ : ∃ m, m = xs.length := ⟨_, rfl⟩
  rw [← hm'] at HA c0 d0 d1 e0 e1 hm hmx hn e2
  have HM : Hid (m = xs.length) := hm'
  clear happ hb1 hb hb2 hm'
  go_enter Try.func55, Try.ntmps55
  go_wp2_with (at_builtin; go_must (refine wpList_append_run rfl (.tmp 10) (.tmp 11) 27 3 rfl (.slice a m c) (.int .i64 n) (.slice (some ⟨g', 0, none⟩) (m + n) (m + n + rest.length)) W1 rfl rfl HA.out ?_))
  refine (next_any b g' 0 (m + n) (m + n + rest.length) m n _ e0 e1 e2 (by omega) (by omega) hm).mono ?_
  rintro e w' ⟨⟨x, rfl, hx⟩, j, rfl⟩
  clear c0 d0 d1 f0 e0 e1 e2
  go_wp2
  go_ret
  refine ⟨g', x, _, rfl, ?_, ?_, hfr, ?_⟩
  · rw [← HM.out]; omega
  · refine ⟨rest, hgb, ?_, ?_, ?_⟩
    · have e1 : (xs ++ List.replicate n 0).length = m + n := by rw [List.length_append, List.length_replicate, HM.out]
      rw [e1]
      have := (HB.out.setCell 0 (.slice (some ⟨g', 0, none⟩) (m + n) (m + n + rest.length))).setCell 1 (.int .i64 ((m : Int) + (n : Int)))
      exact this
    · rw [bvs_append]
      exact (hg1.setCell_ne (a := ⟨b, 0, none⟩) hgb _).setCell_ne (a := ⟨b, 1, none⟩) hgb _
    · simp only [List.length_append, List.length_replicate]
      rw [← HM.out]
      exact hm
  · exact (((hK.mono fun k _ hk => .inr hk).setCell ⟨b, 0, none⟩ _ fun _ => .inl rfl).setCell ⟨b, 1, none⟩ _ fun _ => .inl rfl).drewN j

/-- What a writer holds behind a store into its last bytes. -/
theorem Wr.put {w w' : World} {b g : Nat} {xs ys zs : List UInt8} (h : Wr w b (some g) (xs ++ ys)) (hl : zs.length = ys.length)
    (hg : ∀ rest, Blk w g (bvs (xs ++ ys) ++ rest) 5 → Blk w' g (bvs (xs ++ zs) ++ rest) 5) (hK : Keeps (· = g) w w') : Wr w' b (some g) (xs ++ zs) := by
  obtain ⟨rest, hgb, hb, hgg, hm⟩ := h
  have e : (xs ++ zs).length = (xs ++ ys).length := by simp [hl]
  refine ⟨rest, hgb, ?_, hg rest hgg, by rw [e]; exact hm⟩
  rw [e]
  exact hb.kept hK (fun e => hgb e.symm)

theorem tail_splice (xs ys zs : List UInt8) (rest : List Value) (h : zs.length = ys.length) :
    (bvs (xs ++ ys) ++ rest).take xs.length ++ bvs zs ++ (bvs (xs ++ ys) ++ rest).drop (xs.length + zs.length) = bvs (xs ++ zs) ++ rest := by
  have e1 : (bvs (xs ++ ys) ++ rest).take xs.length = bvs xs := by
    rw [bvs_append, List.append_assoc, List.take_append_of_le_length (by rw [bvs_length]; exact Nat.le_refl _), List.take_of_length_le (by rw [bvs_length]; exact Nat.le_refl _)]
  have e2 : (bvs (xs ++ ys) ++ rest).drop (xs.length + zs.length) = rest := by
    have : (bvs (xs ++ ys)).length = xs.length + zs.length := by rw [bvs_length, List.length_append, h]
    rw [← this, List.drop_left]
  rw [e1, e2, bvs_append]

theorem keeps_both {w w1 w2 : World} {b g' : Nat} {g : Option Nat} (hK : Keeps (fun k => k = b ∨ some k = g) w w1) (hK2 : Keeps (· = g') w1 w2) (hfr : g = some g' ∨ w.heap.size ≤ g') : Keeps (fun k => k = b ∨ some k = g) w w2 :=
  hK.trans hK2 fun k hk e => by
    rcases hfr with h | h
    · exact .inr (by rw [h, e])
    · omega

set_option maxHeartbeats 400000 in
theorem wnumber_any (b n N : Nat) (g : Option Nat) (xs : List UInt8) (w : World) (h : Wr w b g xs) (h0 : 0 < n) (h8 : n ≤ 8) (hn : xs.length + n ≤ 140737488355328) (hN : N < 18446744073709551616) :
    Calls Try.prog 32 #[.pointer (some ⟨b, 0, none⟩), .int .i64 n, .int .u64 N] w fun e w' => e = .returned (.tuple #[]) ∧ ∃ g', Wr w' b (some g') (xs ++ lowB n N) ∧ (g = some g' ∨ w.heap.size ≤ g') ∧ Keeps (fun k => k = b ∨ some k = g) w w' := by
  go_enter Try.func32, Try.ntmps32
  go_wp2_with fail
  refine (more_any b n g xs w h (fun _ => h0) hn).mono ?_
  rintro e w1 ⟨g', x, c', rfl, hx, hw, hfr, hK⟩
  obtain rfl : x = xs.length := by omega
  clear h hx hn
  go_wp2_with fail
  have hw1 := hw
  obtain ⟨rest, hgb, hb, hgg, hm⟩ := hw
  refine (spread_any g' xs.length n c' N _ 5 _ hgg (by simp [bvs_length]) (by unfold maxLen; omega) hN).mono ?_
  rintro e w2 ⟨rfl, hg2, hK2⟩
  go_wp2
  go_end0
  refine ⟨rfl, g', ?_, hfr, keeps_both hK hK2 hfr⟩
  have e := tail_splice xs (List.replicate n 0) (lowB n N) rest (by rw [lowB_length, List.length_replicate])
  rw [lowB_length] at e
  rw [e] at hg2
  have e1 : (xs ++ lowB n N).length = (xs ++ List.replicate n 0).length := by simp [lowB_length]
  refine ⟨rest, hgb, ?_, hg2, by rw [e1]; exact hm⟩
  rw [e1]
  exact hb.kept hK2 (fun e => hgb e.symm)

set_option maxHeartbeats 400000 in
theorem wU8_any (b N : Nat) (g : Option Nat) (xs : List UInt8) (w : World) (h : Wr w b g xs) (hn : xs.length + 1 ≤ 140737488355328) (hN : N < 256) :
    Calls Try.prog 56 #[.pointer (some ⟨b, 0, none⟩), .int .u8 N] w fun e w' => e = .returned (.tuple #[]) ∧ ∃ g', Wr w' b (some g') (xs ++ lowB 1 N) ∧ (g = some g' ∨ w.heap.size ≤ g') ∧ Keeps (fun k => k = b ∨ some k = g) w w' := by
  have hc : IntKind.u64.wrap (N : Int) = N := by rw [IntKind.wrap_u64]; omega
  go_enter Try.func56, Try.ntmps56
  go_wp2_with fail
  refine (wnumber_any b 1 N g xs w h (by omega) (by omega) hn (by omega)).mono ?_
  rintro e w1 ⟨rfl, hw⟩
  go_wp2
  go_end0
  exact ⟨rfl, hw⟩

set_option maxHeartbeats 400000 in
theorem wU32_any (b N : Nat) (g : Option Nat) (xs : List UInt8) (w : World) (h : Wr w b g xs) (hn : xs.length + 4 ≤ 140737488355328) (hN : N < 4294967296) :
    Calls Try.prog 16 #[.pointer (some ⟨b, 0, none⟩), .int .u32 N] w fun e w' => e = .returned (.tuple #[]) ∧ ∃ g', Wr w' b (some g') (xs ++ lowB 4 N) ∧ (g = some g' ∨ w.heap.size ≤ g') ∧ Keeps (fun k => k = b ∨ some k = g) w w' := by
  have hc : IntKind.u64.wrap (N : Int) = N := by rw [IntKind.wrap_u64]; omega
  go_enter Try.func16, Try.ntmps16
  go_wp2_with fail
  refine (wnumber_any b 4 N g xs w h (by omega) (by omega) hn (by omega)).mono ?_
  rintro e w1 ⟨rfl, hw⟩
  go_wp2
  go_end0
  exact ⟨rfl, hw⟩

theorem Try.size5 : (Try.prog.info? 5).map (·.size) = some 1 := by kernel_rfl

set_option maxHeartbeats 400000 in
theorem wText_any (b : Nat) (s : ByteArray) (g : Option Nat) (xs : List UInt8) (w : World) (h : Wr w b g xs) (hs : s.size < 4294967296) (hn : xs.length + 4 + s.size ≤ 140737488355328) :
    Calls Try.prog 80 #[.pointer (some ⟨b, 0, none⟩), .string s] w fun e w' => e = .returned (.tuple #[]) ∧ ∃ g', Wr w' b (some g') (xs ++ (lowB 4 s.size ++ s.data.toList)) ∧ (g = some g' ∨ w.heap.size ≤ g') ∧ Keeps (fun k => k = b ∨ some k = g) w w' := by
  have hc : IntKind.u32.wrap (s.size : Int) = s.size := by rw [IntKind.wrap_u32']; omega
  go_enter Try.func80, Try.ntmps80
  go_wp2_with fail
  refine (wU32_any b s.size g xs w h (by omega) hs).mono ?_
  rintro e w1 ⟨rfl, g1, hw1, hf1, hK1⟩
  go_wp2_with fail
  have hl4 : (xs ++ lowB 4 s.size).length = xs.length + 4 := by simp [lowB_length]
  refine (more_any b s.size (some g1) _ _ hw1 (fun h => by cases h) (by rw [hl4]; exact hn)).mono ?_
  rintro e w2 ⟨g2, x, c2, rfl, hx, hw2, hf2, hK2⟩
  clear h hn
  obtain ⟨W3, hcp, hw3, hK3⟩ : ∃ W3, (∀ ty, (Builtin.copy_ #[27, 9] ty #[.slice (some ⟨g2, x, none⟩) s.size c2, .string s]).run Try.prog w2 = .ok (goInt s.size) W3) ∧ Wr W3 b (some g2) (xs ++ (lowB 4 s.size ++ s.data.toList)) ∧ Keeps (· = g2) w2 W3 := by
    obtain ⟨rest, hgb, hb, hgg, hm⟩ := hw2
    have hcp := fun ty => run_copy_text (P := Try.prog) (w := w2) 27 9 ty 5 Try.underlying27 Try.size5 g2 x c2 _ 5 hgg s (by
      simp only [List.length_append, bvs_length, List.length_replicate, lowB_length]; omega)
    have hsl : s.data.toList.length = s.size := rfl
    rw [← List.append_assoc]
    have e1 : (xs ++ lowB 4 s.size ++ s.data.toList).length = (xs ++ lowB 4 s.size ++ List.replicate s.size 0).length := by simp
    have e2 : (bvs (xs ++ lowB 4 s.size ++ List.replicate s.size 0) ++ rest).take x ++ bvs s.data.toList ++ (bvs (xs ++ lowB 4 s.size ++ List.replicate s.size 0) ++ rest).drop (x + s.size) = bvs (xs ++ lowB 4 s.size ++ s.data.toList) ++ rest := by
      rcases hx with hx | ⟨h0, hx⟩
      · have e := tail_splice (xs ++ lowB 4 s.size) (List.replicate s.size 0) s.data.toList rest (by simp)
        rw [hsl, ← hx] at e
        exact e
      · have hnil : s.data.toList = [] := List.eq_nil_of_length_eq_zero (by rw [hsl]; exact h0)
        rw [hx, h0, hnil]
        simp [bvs]
    rw [e2] at hcp
    refine ⟨_, hcp, ⟨rest, hgb, ?_, hgg.setRow _, by rw [e1]; exact hm⟩, (Keeps.refl _ w2).setRow _ _ fun _ => rfl⟩
    rw [e1]
    exact hb.setRow_ne (fun e => hgb e.symm) _
  have HC : Hid (∀ ty, _) := hcp
  clear hcp
  go_wp2_with (refine wpList_copy_run rfl (.tmp 14) (.tmp 15) 27 9 rfl (.slice (some ⟨g2, x, none⟩) s.size c2) (.string s) (goInt s.size) W3 rfl rfl HC.out ?_)
  go_end0
  refine ⟨rfl, g2, hw3, ?_, ?_⟩
  · rcases hf2 with h | h
    · have : g1 = g2 := by simpa using h
      rw [← this]; exact hf1
    · right; have := hK1.size; omega
  · refine (hK1.trans hK2 ?_).trans hK3 ?_
    · intro k hk e
      rcases e with e | e
      · exact .inl e
      · rcases hf1 with h | h
        · exact .inr (by rw [e, h])
        · have : k = g1 := by simpa using e
          omega
    · intro k hlt e
      rcases hf2 with h | h
      · have : g1 = g2 := by simpa using h
        rcases hf1 with h' | h'
        · exact .inr (by rw [h', this, e])
        · omega
      · have := hK1.size; omega

set_option maxHeartbeats 400000 in
theorem wLen_any (b : Nat) (g : Option Nat) (xs : List UInt8) (w : World) (h : Wr w b g xs) :
    Calls Try.prog 19 #[.pointer (some ⟨b, 0, none⟩)] w fun e w' => e = .returned (.int .i64 xs.length) ∧ w' = w := by
  obtain ⟨a, c, hb, hl⟩ : ∃ a c, Blk w b [.slice a xs.length c, .int .i64 xs.length] 88 ∧ xs.length ≤ maxLen := by
    cases g with
    | none => obtain ⟨rfl, hb⟩ := h; exact ⟨none, 0, hb, Nat.zero_le _⟩
    | some g => obtain ⟨rest, _, hb, _, hm⟩ := h; exact ⟨_, _, hb, by omega⟩
  have c0 := hb.cell (i := 0) rfl
  go_enter Try.func19, Try.ntmps19
  go_wp2_with (go_at_call 41; refine (size_any b a xs.length c _ c0 hl).mono ?_; rintro e w' ⟨rfl, rfl⟩)
  go_ret
  exact ⟨rfl, rfl⟩

/-- What is read of a writer's bytes. -/
theorem Wr.look {w : World} {b : Nat} {g : Option Nat} {xs : List UInt8} (h : Wr w b g xs) :
    ∃ a c, Blk w b [.slice a xs.length c, .int .i64 xs.length] 88 ∧ xs.length ≤ maxLen ∧ Seg w a xs ∧ ∀ x, a = some x → some x.block = g := by
  cases g with
  | none => obtain ⟨rfl, hb⟩ := h; exact ⟨none, 0, hb, Nat.zero_le _, .inl rfl, fun x hx => by cases hx⟩
  | some g =>
    obtain ⟨rest, _, hb, hg, hm⟩ := h
    refine ⟨_, _, hb, by omega, .inr ⟨g, 0, rfl, fun j hj => hg.cell ?_⟩, fun x hx => by simp at hx; rw [← hx]⟩
    rw [Nat.zero_add, List.getElem?_append_left (by rw [bvs_length]; exact hj)]
    exact bvs_get xs j hj

theorem Seg.kept {S : Nat → Prop} {w w' : World} {a : Option Addr} {xs : List UInt8} (h : Seg w a xs) (hK : Keeps S w w') (hn : ∀ x, a = some x → ¬ S x.block) : Seg w' a xs := by
  rcases h with h | ⟨g, o, ha, hc⟩
  · exact .inl h
  · refine .inr ⟨g, o, ha, fun j hj => ?_⟩
    have h1 := hc j hj
    have hlt : g < w.heap.size := World.block_lt_of_cell? w ⟨g, o + j, none⟩ h1
    rw [World.cell?_of_block (w := w) (hK.block g hlt (hn _ ha))]
    exact h1

set_option maxHeartbeats 400000 in
theorem wOut_any (b : Nat) (g : Option Nat) (xs : List UInt8) (w : World) (h : Wr w b g xs) (hn : xs.length ≤ 281474976710656) :
    Calls Try.prog 20 #[.pointer (some ⟨b, 0, none⟩)] w fun e w' => e = .returned (.slice (some ⟨w.heap.size, 0, none⟩) xs.length xs.length) ∧ Blk w' w.heap.size (bvs xs) 5 ∧ Keeps (fun _ => False) w w' := by
  obtain ⟨i0, hi, hz0, hz1, hz2⟩ := info_parts Try.info5
  obtain ⟨a, c, hb, hl, hs, ha⟩ := h.look
  have c0 := hb.cell (i := 0) rfl
  have hmk := run_make_bytes (P := Try.prog) (w := w) 27 5 i0 Try.underlying27 hi hz0 hz1 hz2 xs.length hn
  obtain ⟨W1, hW⟩ : ∃ W1, W1 = w.alloc (.cells (bvs (List.replicate xs.length 0)).toArray 5) := ⟨_, rfl⟩
  rw [← hW] at hmk
  have hK1 : Keeps (fun _ => False) w W1 := by rw [hW]; exact (Keeps.refl _ w).alloc _
  have hB1 : Blk W1 w.heap.size (bvs (List.replicate xs.length 0)) 5 := by rw [hW]; exact Blk.new w _ 5
  have c1 : W1.cell? ⟨b, 0, none⟩ = some (.slice a xs.length c) := (hb.kept hK1 (fun e => e)).cell (i := 0) rfl
  have hs1 : Seg W1 a xs := hs.kept hK1 (fun _ _ e => e)
  have hcp := fun ty => run_copy_blk (P := Try.prog) (w := W1) 27 27 ty 5 Try.underlying27 Try.size5 w.heap.size 0 xs.length _ 5 hB1 a c xs hs1 (by simp [bvs_length])
  have e : (bvs (List.replicate xs.length 0)).take 0 ++ bvs xs ++ (bvs (List.replicate xs.length 0)).drop (0 + xs.length) = bvs xs := by simp [bvs]
  rw [e] at hcp
  obtain ⟨W2, hW2⟩ : ∃ W2, W2 = W1.setRow w.heap.size (bvs xs).toArray := ⟨_, rfl⟩
  have hB2 : Blk W2 w.heap.size (bvs xs) 5 := by rw [hW2]; exact hB1.setRow _
  have hK2 : Keeps (fun _ => False) w W2 := by rw [hW2]; exact hK1.setRow _ _ (fun h => by omega)
  rw [← hW2] at hcp
  obtain ⟨n, hnn⟩ : ∃ n, n = xs.length := ⟨_, rfl⟩
  rw [← hnn] at hmk hcp c0 c1 hl ⊢
  have HN : Hid (n = xs.length) := hnn
  have HM : Hid (_ = _) := hmk
  have HC : Hid (∀ ty, _) := hcp
  clear hmk hcp e hW hW2 hnn
  go_enter Try.func20, Try.ntmps20
  go_wp2_with (first | (go_at_call 41; refine (size_any b a n c _ c0 hl).mono ?_; rintro e w' ⟨rfl, hw'⟩; obtain rfl := hw'.symm) | (at_make; refine wpList_make_run rfl (.tmp 9) (.tmp 9) 27 rfl (.int .i64 n) (.int .i64 n) (.slice (some ⟨w.heap.size, 0, none⟩) n n) W1 rfl rfl HM.out ?_; refine Hid.out ?_))
  unfold Hid
  go_wp2_with ((refine wpList_copy_run rfl (.tmp 11) (.tmp 16) 27 27 rfl (.slice (some ⟨w.heap.size, 0, none⟩) n n) (.slice a n c) (goInt n) W2 rfl rfl HC.out ?_))
  go_ret
  exact ⟨rfl, hB2, hK2⟩

end Go.Proofs.Ytmkeccibminnhaa
namespace Go.Proofs.Ytmkeccibminnhaa
open Go.RowKit
set_option maxRecDepth 6000

/-- A reader in block b, of the bytes xs (in block g), at p, with the fault er. -/
structure Rd (w : World) (b g : Nat) (xs : List UInt8) (p : Nat) (er : Int) : Prop where
  ne : g ≠ b
  blk : Blk w b [.slice (some ⟨g, 0, none⟩) xs.length xs.length, .int .i64 p, .int .i64 er] 124
  bytes : Blk w g (bvs xs) 5
  len : xs.length ≤ maxLen
  le : p ≤ xs.length

theorem Rd.kept {S : Nat → Prop} {w w' : World} {b g p : Nat} {er : Int} {xs : List UInt8} (h : Rd w b g xs p er) (k : Keeps S w w') (hb : ¬ S b) (hg : ¬ S g) : Rd w' b g xs p er :=
  ⟨h.ne, h.blk.kept k hb, h.bytes.kept k hg, h.len, h.le⟩

set_option maxHeartbeats 400000 in
theorem newReader_any (a : Option Addr) (c : Nat) (xs : List UInt8) (w : World) (hx : Seg w a xs) (hl : xs.length ≤ 281474976710656) :
    Calls Try.prog 48 #[.slice a xs.length c] w fun e w' => e = .returned (.pointer (some ⟨w.heap.size + 1, 0, none⟩)) ∧ Rd w' (w.heap.size + 1) w.heap.size xs 0 0 ∧ Keeps (fun _ => False) w w' := by
  obtain ⟨i0, hi, hz0, hz1, hz2⟩ := info_parts Try.info5
  have hmk := run_make_bytes (P := Try.prog) (w := w) 27 5 i0 Try.underlying27 hi hz0 hz1 hz2 xs.length hl
  obtain ⟨W1, hW⟩ : ∃ W1, W1 = w.alloc (.cells (bvs (List.replicate xs.length 0)).toArray 5) := ⟨_, rfl⟩
  rw [← hW] at hmk
  have hK1 : Keeps (fun _ => False) w W1 := by rw [hW]; exact (Keeps.refl _ w).alloc _
  have hB1 : Blk W1 w.heap.size (bvs (List.replicate xs.length 0)) 5 := by rw [hW]; exact Blk.new w _ 5
  have hsz : W1.heap.size = w.heap.size + 1 := by rw [hW]; simp
  have hs1 : Seg W1 a xs := hx.kept hK1 (fun _ _ e => e)
  obtain ⟨W2, hW2⟩ : ∃ W2, W2 = W1.alloc (.cells #[.slice (some ⟨w.heap.size, 0, none⟩) xs.length xs.length, .int .i64 0, .int .i64 0] 124) := ⟨_, rfl⟩
  have hK2 : Keeps (fun _ => False) W1 W2 := by rw [hW2]; exact (Keeps.refl _ W1).alloc _
  have hB2 : Blk W2 w.heap.size (bvs (List.replicate xs.length 0)) 5 := hB1.kept hK2 (fun e => e)
  have hR2 : Blk W2 (w.heap.size + 1) [.slice (some ⟨w.heap.size, 0, none⟩) xs.length xs.length, .int .i64 0, .int .i64 0] 124 := by rw [hW2, ← hsz]; exact Blk.new W1 _ 124
  have hs2 : Seg W2 a xs := hs1.kept hK2 (fun _ _ e => e)
  have hcp := fun ty => run_copy_blk (P := Try.prog) (w := W2) 27 27 ty 5 Try.underlying27 Try.size5 w.heap.size 0 xs.length _ 5 hB2 a c xs hs2 (by simp [bvs_length])
  have e : (bvs (List.replicate xs.length 0)).take 0 ++ bvs xs ++ (bvs (List.replicate xs.length 0)).drop (0 + xs.length) = bvs xs := by simp [bvs]
  rw [e] at hcp
  obtain ⟨W3, hW3⟩ : ∃ W3, W3 = W2.setRow w.heap.size (bvs xs).toArray := ⟨_, rfl⟩
  have hB3 : Blk W3 w.heap.size (bvs xs) 5 := by rw [hW3]; exact hB2.setRow _
  have hK3 : Keeps (fun _ => False) w W3 := by rw [hW3]; exact (hK1.trans hK2 fun _ _ e => e).setRow _ _ (fun h => by omega)
  have hR3 : Blk W3 (w.heap.size + 1) [.slice (some ⟨w.heap.size, 0, none⟩) xs.length xs.length, .int .i64 0, .int .i64 0] 124 := by rw [hW3]; exact hR2.setRow_ne (by omega) _
  rw [← hW3] at hcp
  have fin : Rd W3 (w.heap.size + 1) w.heap.size xs 0 0 := ⟨by omega, hR3, hB3, by unfold maxLen; omega, Nat.zero_le _⟩
  have c2 := hR2.cell (i := 0) rfl
  rw [hW2] at c2
  obtain ⟨n, hnn⟩ : ∃ n, n = xs.length := ⟨_, rfl⟩
  rw [← hnn] at hmk hcp c2 hW2 ⊢
  rw [hW2] at hcp
  have HM : Hid (_ = _) := hmk
  have HC : Hid (∀ ty, _) := hcp
  have HW : Hid (W1.heap.size = w.heap.size + 1) := hsz
  clear hmk hnn hcp hW2 hW3 hW hs2 hs1 hR2 hR3 hB1 hB2 hB3 hK1 hK2 e
  go_enter Try.func48, Try.ntmps48
  go_wp2_with (at_make; refine wpList_make_run rfl (.tmp 5) (.tmp 5) 27 rfl (.int .i64 n) (.int .i64 n) (.slice (some ⟨w.heap.size, 0, none⟩) n n) W1 rfl rfl HM.out ?_; refine Hid.out ?_)
  unfold Hid
  go_wp2_with (refine isCopy (.tmp 14) (.tmp 15) 27 27 rfl ?_; go_must (refine wpList_copy_run rfl (.tmp 14) (.tmp 15) 27 27 rfl (.slice (some ⟨w.heap.size, 0, none⟩) n n) (.slice a n c) (goInt n) W3 rfl rfl HC.out ?_))
  go_ret
  exact ⟨rfl, fin, hK3⟩

set_option maxHeartbeats 400000 in
theorem rFault_any (b g p : Nat) (er : Int) (xs : List UInt8) (w : World) (h : Rd w b g xs p er) :
    Calls Try.prog 82 #[.pointer (some ⟨b, 0, none⟩)] w fun e w' => e = .returned (.int .i64 er) ∧ w' = w := by
  have c2 := h.blk.cell (i := 2) rfl
  go_enter Try.func82, Try.ntmps82
  go_wp2
  go_ret
  exact ⟨rfl, rfl⟩

set_option maxHeartbeats 400000 in
theorem rAt_any (b g p : Nat) (er : Int) (xs : List UInt8) (w : World) (h : Rd w b g xs p er) :
    Calls Try.prog 65 #[.pointer (some ⟨b, 0, none⟩)] w fun e w' => e = .returned (.int .i64 p) ∧ w' = w := by
  have c1 := h.blk.cell (i := 1) rfl
  go_enter Try.func65, Try.ntmps65
  go_wp2
  go_ret
  exact ⟨rfl, rfl⟩

set_option maxHeartbeats 400000 in
theorem rLeft_any (b g p : Nat) (er : Int) (xs : List UInt8) (w : World) (h : Rd w b g xs p er) :
    Calls Try.prog 75 #[.pointer (some ⟨b, 0, none⟩)] w fun e w' => e = .returned (.int .i64 ((xs.length : Int) - p)) ∧ w' = w := by
  have c0 := h.blk.cell (i := 0) rfl
  have c1 := h.blk.cell (i := 1) rfl
  go_enter Try.func75, Try.ntmps75
  go_wp2_with (go_at_call 94; refine (left_any b _ xs.length _ p _ c0 c1 h.len h.le).mono ?_; rintro e w' ⟨rfl, rfl⟩)
  go_ret
  exact ⟨rfl, rfl⟩

set_option maxHeartbeats 400000 in
theorem rnumber_fault (b g p n : Nat) (er : Int) (xs : List UInt8) (w : World) (h : Rd w b g xs p er) (he : (er != 0) = true) :
    Calls Try.prog 83 #[.pointer (some ⟨b, 0, none⟩), .int .i64 n] w fun e w' => e = .returned (.int .u64 0) ∧ w' = w := by
  go_enter Try.func83, Try.ntmps83
  go_wp2_with (go_at_call 82; refine (rFault_any b g p er xs _ h).mono ?_; rintro e w' ⟨rfl, rfl⟩)
  go_ret
  exact ⟨rfl, rfl⟩

theorem Rd.set {w : World} {b g p : Nat} {er : Int} {xs : List UInt8} (h : Rd w b g xs p er) (p' : Nat) (er' : Int) (hp : p' ≤ xs.length) :
    Rd ((w.setCell ⟨b, 1, none⟩ (.int .i64 p')).setCell ⟨b, 2, none⟩ (.int .i64 er')) b g xs p' er' :=
  ⟨h.ne, (h.blk.setCell 1 (.int .i64 p')).setCell 2 (.int .i64 er'), (h.bytes.setCell_ne (a := ⟨b, 1, none⟩) h.ne _).setCell_ne (a := ⟨b, 2, none⟩) h.ne _, h.len, hp⟩
theorem Rd.go {w : World} {b g p : Nat} {er : Int} {xs : List UInt8} (h : Rd w b g xs p er) (p' : Nat) (hp : p' ≤ xs.length) :
    Rd (w.setCell ⟨b, 1, none⟩ (.int .i64 p')) b g xs p' er :=
  ⟨h.ne, h.blk.setCell 1 (.int .i64 p'), h.bytes.setCell_ne (a := ⟨b, 1, none⟩) h.ne _, h.len, hp⟩

set_option maxHeartbeats 400000 in
theorem rnumber_short (b g p n : Nat) (xs : List UInt8) (w : World) (h : Rd w b g xs p 0) (hn : xs.length < p + n) :
    Calls Try.prog 83 #[.pointer (some ⟨b, 0, none⟩), .int .i64 n] w fun e w' => e = .returned (.int .u64 0) ∧ Rd w' b g xs p 12 ∧ Keeps (· = b) w w' := by
  have c0 := h.blk.cell (i := 0) rfl
  have c1 := h.blk.cell (i := 1) rfl
  have c2 := h.blk.cell (i := 2) rfl
  have f1 := h.blk.frozen 1
  have f2 := h.blk.frozen 2
  have hlt : (xs.length : Int) - (p : Int) < (n : Int) := by omega
  have hR := h.set p 12 h.le
  have hK : Keeps (· = b) w ((w.setCell ⟨b, 1, none⟩ (.int .i64 p)).setCell ⟨b, 2, none⟩ (.int .i64 12)) := ((Keeps.refl (· = b) w).setCell ⟨b, 1, none⟩ _ fun _ => rfl).setCell ⟨b, 2, none⟩ _ fun _ => rfl
  have HK : Hid (Keeps _ _ _) := hK
  clear hK
  have HR : Hid (Rd _ b g xs p 12) := hR
  clear hR
  go_enter Try.func83, Try.ntmps83
  go_wp2_with (first | (go_at_call 82; refine (rFault_any b g p 0 xs _ h).mono ?_; rintro e w' ⟨rfl, hw'⟩; obtain rfl := hw'.symm) | (go_at_call 94; refine (left_any b _ xs.length _ p _ c0 c1 h.len h.le).mono ?_; rintro e w' ⟨rfl, hw'⟩; obtain rfl := hw'.symm) | (go_at_call 81; refine (at_any b p _ c1).mono ?_; rintro e w' ⟨rfl, hw'⟩; obtain rfl := hw'.symm) | (go_at_call 96; refine (refuse_any b p 12 p _ _ c1 c2 f1 f2).mono ?_; rintro e w' ⟨rfl, hw'⟩; obtain rfl := hw'.symm))
  go_ret
  exact ⟨rfl, HR.out, HK.out⟩

set_option maxHeartbeats 400000 in
theorem rnumber_ok (b g p n : Nat) (xs : List UInt8) (w : World) (h : Rd w b g xs p 0) (hn : p + n ≤ xs.length) (h8 : n ≤ 8) (h0 : 0 < n) :
    Calls Try.prog 83 #[.pointer (some ⟨b, 0, none⟩), .int .i64 n] w fun e w' => e = .returned (.int .u64 (highN ((xs.drop p).take n))) ∧ Rd w' b g xs (p + n) 0 ∧ Keeps (· = b) w w' := by
  have c0 := h.blk.cell (i := 0) rfl
  have c1 := h.blk.cell (i := 1) rfl
  have f1 := h.blk.frozen 1
  have hlt : ¬ (xs.length : Int) - (p : Int) < (n : Int) := by omega
  have hR := h.go (p + n) hn
  have hK : Keeps (· = b) w (w.setCell ⟨b, 1, none⟩ (.int .i64 ((p + n : Nat) : Int))) := (Keeps.refl _ w).setCell _ _ fun _ => rfl
  have HK : Hid (Keeps _ _ _) := hK
  clear hK
  have HR : Hid (Rd _ b g xs (p + n) 0) := hR
  clear hR
  go_enter Try.func83, Try.ntmps83
  go_wp2_with (first | (go_at_call 82; refine (rFault_any b g p 0 xs _ h).mono ?_; rintro e w' ⟨rfl, hw'⟩; obtain rfl := hw'.symm) | (go_at_call 94; refine (left_any b _ xs.length _ p _ c0 c1 h.len h.le).mono ?_; rintro e w' ⟨rfl, hw'⟩; obtain rfl := hw'.symm) | (go_at_call 79; refine (next_any b g 0 xs.length xs.length p n _ c0 c1 f1 hn (Nat.le_refl _) h.len).mono ?_; rintro e w' ⟨⟨x, rfl, hx⟩, j, hw'⟩; refine Hid.out ?_))
  unfold Hid
  obtain rfl : x = p := by omega
  clear hw'
  go_wp2_with fail
  refine (gather_any g x n _ (bvs xs) ((xs.drop x).take n) 5 _ ?_ ?_ ?_ h8).mono ?_
  · exact HR.out.bytes
  · rw [bvs_take, bvs_drop]
  · rw [List.length_take, List.length_drop]; omega
  · rintro e w' ⟨rfl, hw'⟩
    obtain rfl := hw'.symm
    go_wp2
    go_ret
    exact ⟨rfl, ⟨HR.out.ne, HR.out.blk, HR.out.bytes, HR.out.len, HR.out.le⟩, HK.out.drewN j⟩

def numV (xs : List UInt8) (p : Nat) (er : Int) (n : Nat) : Nat := if er ≠ 0 then 0 else if xs.length < p + n then 0 else highN ((xs.drop p).take n)
def numP (xs : List UInt8) (p : Nat) (er : Int) (n : Nat) : Nat := if er ≠ 0 then p else if xs.length < p + n then p else p + n
def numE (xs : List UInt8) (p : Nat) (er : Int) (n : Nat) : Int := if er ≠ 0 then er else if xs.length < p + n then 12 else 0

theorem numV_lt (xs : List UInt8) (p : Nat) (er : Int) (n : Nat) : numV xs p er n < 256 ^ n := by
  have h0 : 0 < 256 ^ n := Nat.pow_pos (by omega)
  unfold numV
  split
  · exact h0
  · split
    · exact h0
    · refine Nat.lt_of_lt_of_le (highN_lt _) (Nat.pow_le_pow_right (by omega) ?_)
      rw [List.length_take]
      exact Nat.min_le_left _ _

theorem rnumber_any (b g p n : Nat) (er : Int) (xs : List UInt8) (w : World) (h : Rd w b g xs p er) (h8 : n ≤ 8) (h0 : 0 < n) :
    Calls Try.prog 83 #[.pointer (some ⟨b, 0, none⟩), .int .i64 n] w fun e w' => e = .returned (.int .u64 (numV xs p er n)) ∧ Rd w' b g xs (numP xs p er n) (numE xs p er n) ∧ Keeps (· = b) w w' := by
  by_cases he : er ≠ 0
  · refine (rnumber_fault b g p n er xs w h (by simpa using he)).mono fun e w' ⟨h1, h2⟩ => ?_
    simp only [numV, numP, numE, if_pos he]
    exact ⟨h1, h2 ▸ h, h2 ▸ Keeps.refl _ _⟩
  · have he' : er = 0 := by omega
    subst he'
    by_cases hs : xs.length < p + n
    · refine (rnumber_short b g p n xs w h hs).mono fun e w' h1 => ?_
      simp only [numV, numP, numE, if_neg he, if_pos hs]
      exact h1
    · refine (rnumber_ok b g p n xs w h (by omega) h8 h0).mono fun e w' h1 => ?_
      simp only [numV, numP, numE, if_neg he, if_neg hs]
      exact h1

set_option maxHeartbeats 400000 in
theorem rU8_any (b g p : Nat) (er : Int) (xs : List UInt8) (w : World) (h : Rd w b g xs p er) :
    Calls Try.prog 85 #[.pointer (some ⟨b, 0, none⟩)] w fun e w' => e = .returned (.int .u8 (numV xs p er 1)) ∧ Rd w' b g xs (numP xs p er 1) (numE xs p er 1) ∧ Keeps (· = b) w w' := by
  have hlt := numV_lt xs p er 1
  obtain ⟨V, hV⟩ : ∃ V, V = numV xs p er 1 := ⟨_, rfl⟩
  rw [← hV] at hlt
  have hc : IntKind.u8.wrap (V : Int) = V := by rw [IntKind.wrap_u8']; omega
  have hc' : (V : Int) % 256 = V := by omega
  have HV : Hid (V = numV xs p er 1) := hV
  clear hV
  go_enter Try.func85, Try.ntmps85
  go_wp2_with (go_at_call 83; refine (rnumber_any b g p 1 er xs _ h (by omega) (by omega)).mono ?_; rintro e w' ⟨rfl, hr⟩; rw [← HV.out])
  go_ret
  rw [← HV.out]
  exact ⟨rfl, hr⟩

set_option maxHeartbeats 400000 in
theorem rU32_any (b g p : Nat) (er : Int) (xs : List UInt8) (w : World) (h : Rd w b g xs p er) :
    Calls Try.prog 67 #[.pointer (some ⟨b, 0, none⟩)] w fun e w' => e = .returned (.int .u32 (numV xs p er 4)) ∧ Rd w' b g xs (numP xs p er 4) (numE xs p er 4) ∧ Keeps (· = b) w w' := by
  have hlt := numV_lt xs p er 4
  obtain ⟨V, hV⟩ : ∃ V, V = numV xs p er 4 := ⟨_, rfl⟩
  rw [← hV] at hlt
  have hc : IntKind.u32.wrap (V : Int) = V := by rw [IntKind.wrap_u32']; omega
  have hc' : (V : Int) % 4294967296 = V := by omega
  have HV : Hid (V = numV xs p er 4) := hV
  clear hV
  go_enter Try.func67, Try.ntmps67
  go_wp2_with (go_at_call 83; refine (rnumber_any b g p 4 er xs _ h (by omega) (by omega)).mono ?_; rintro e w' ⟨rfl, hr⟩; rw [← HV.out])
  go_ret
  rw [← HV.out]
  exact ⟨rfl, hr⟩

end Go.Proofs.Ytmkeccibminnhaa
