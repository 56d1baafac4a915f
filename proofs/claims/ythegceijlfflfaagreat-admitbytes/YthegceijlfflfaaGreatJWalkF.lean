import Derived.Test.YthegceijlfflfaaGreatJCrc
import Derived.OwnWalk
import Derived.Laws.BytesString
namespace Go.Proofs.YthegceijlfflfaaGreat
open Go.RowKit
set_option maxRecDepth 6000
theorem Tryz.info5 : (Tryz.prog.info? 5).map (fun i => (i.zero, i.size, i.bytes)) = some (some (.int .u8 0), 1, 1) := by kernel_rfl
def Wr (w : World) (b : Nat) (g : Option Nat) (xs : List UInt8) : Prop :=
 match g with
 | none => xs = [] ∧ Blk w b [.slice none 0 0, .int .i64 0] 84
 | some g => ∃ rest : List Value, g ≠ b ∧ Blk w b [.slice (some ⟨g, 0, none⟩) xs.length (xs.length + rest.length), .int .i64 xs.length] 84 ∧ Blk w g (bvs xs ++ rest) 5 ∧ xs.length + rest.length ≤ maxLen
set_option maxHeartbeats 400000 in
theorem newWriter_any (w : World) :
  Calls Tryz.prog 19 #[] w fun e w' => e = .returned (.pointer (some ⟨w.heap.size, 0, none⟩)) ∧ w' = w.alloc (.cells #[.slice none 0 0, .int .i64 0] 84) := by
 go_enter Tryz.func19, Tryz.ntmps19
 go_wp2
 go_ret
 exact ⟨rfl, rfl⟩
theorem replicate_bvs (n : Nat) : (bvs (List.replicate n 0)).length = n := by simp [bvs]
theorem Wr.grow {w : World} {b : Nat} {g : Option Nat} {xs : List UInt8} (h : Wr w b g xs) (n : Nat) (h0 : g = none → 0 < n) (hn : xs.length + n ≤ 140737488355328) :
  ∃ a c g' W1, ∃ rest : List Value, Blk w b [.slice a xs.length c, .int .i64 xs.length] 84 ∧
   (∀ ty, (Builtin.append_ #[27, 3] ty #[.slice a xs.length c, .int .i64 n]).run Tryz.prog w = .ok (.slice (some ⟨g', 0, none⟩) (xs.length + n) (xs.length + n + rest.length)) W1) ∧
   g' ≠ b ∧ Blk W1 g' (bvs xs ++ bvs (List.replicate n 0) ++ rest) 5 ∧ Blk W1 b [.slice a xs.length c, .int .i64 xs.length] 84 ∧ (g = some g' ∨ w.heap.size ≤ g') ∧ Keeps (fun k => some k = g) w W1 ∧
   xs.length + n + rest.length ≤ maxLen := by
 obtain ⟨i0, hi, hz0, hz1, hz2⟩ := info_parts Tryz.info5
 have hmax : xs.length + n ≤ maxLen := by unfold maxLen; omega
 cases g with
 | none =>
  obtain ⟨rfl, hb⟩ := h
  have h0 := h0 rfl
  have happ := fun ty => run_append_zeros_nil (P := Tryz.prog) w 27 ty 3 5 i0 Tryz.underlying27 Tryz.underlying3 hi hz0 hz1 hz2 n h0 (by simpa using hn)
  have hge := grownCap_ge w n 0 5
  have hle := grownCap_le_maxLen w n 0 5 (by simpa using hmax)
  refine ⟨none, 0, w.heap.size, w.drew.alloc (.cells (bvs (List.replicate n 0) ++ bvs (List.replicate (grownCap w n 0 5 - n) 0)).toArray 5), bvs (List.replicate (grownCap w n 0 5 - n) 0), hb, ?_, ?_, ?_, ?_, .inr (Nat.le_refl _), (((Keeps.refl _ w).drew).alloc _), ?_⟩
  ·
   intro ty
   rw [replicate_bvs, List.length_nil, Nat.zero_add, Nat.add_sub_cancel' hge]
   exact happ ty
  ·
   have := hb.lt; omega
  ·
   exact Blk.new w.drew _ 5
  ·
   exact hb.drew.alloc _
  ·
   rw [replicate_bvs]; simp; omega
 | some g =>
  obtain ⟨rest, hgb, hb, hg, hm⟩ := h
  by_cases hr : n ≤ rest.length
  ·
   have happ := fun ty => run_append_zeros_room (P := Tryz.prog) w 27 ty 3 5 i0 Tryz.underlying27 Tryz.underlying3 hi hz0 hz1 hz2 g xs.length (xs.length + rest.length) n (bvs xs ++ rest) 5 hg (by omega) (by simp [bvs_length]) (by omega)
   have e : (bvs xs ++ rest).take xs.length ++ bvs (List.replicate n 0) ++ (bvs xs ++ rest).drop (xs.length + n) = bvs xs ++ bvs (List.replicate n 0) ++ rest.drop n := by
    rw [List.take_append_of_le_length (by rw [bvs_length]; exact Nat.le_refl _), List.take_of_length_le (by rw [bvs_length]; exact Nat.le_refl _), List.drop_append, List.drop_of_length_le (by rw [bvs_length]; omega), bvs_length]
    simp
   rw [e] at happ
   refine ⟨some ⟨g, 0, none⟩, xs.length + rest.length, g, w.setRow g (bvs xs ++ bvs (List.replicate n 0) ++ rest.drop n).toArray, rest.drop n, hb, ?_, hgb, hg.setRow _, hb.setRow_ne (fun e => hgb e.symm) _, .inl rfl, (Keeps.refl _ w).setRow _ _ (fun _ => rfl), ?_⟩
   ·
    intro ty
    have e2 : xs.length + n + (rest.drop n).length = xs.length + rest.length := by rw [List.length_drop]; omega
    rw [e2]
    exact happ ty
   ·
    simp; omega
  ·
   have happ := fun ty => run_append_zeros_grow (P := Tryz.prog) w 27 ty 3 5 i0 Tryz.underlying27 Tryz.underlying3 hi hz0 hz1 hz2 g xs.length (xs.length + rest.length) n (bvs xs ++ rest) 5 hg (by omega) (by simp [bvs_length]) (by omega) (by omega)
   have e : (bvs xs ++ rest).take xs.length = bvs xs := by
    rw [List.take_append_of_le_length (by rw [bvs_length]; exact Nat.le_refl _), List.take_of_length_le (by rw [bvs_length]; exact Nat.le_refl _)]
   rw [e] at happ
   have hge := grownCap_ge w (xs.length + n) (xs.length + rest.length) 5
   have hle := grownCap_le_maxLen w (xs.length + n) (xs.length + rest.length) 5 hmax
   refine ⟨some ⟨g, 0, none⟩, xs.length + rest.length, w.heap.size, w.drew.alloc (.cells (bvs xs ++ bvs (List.replicate n 0) ++ bvs (List.replicate (grownCap w (xs.length + n) (xs.length + rest.length) 5 - (xs.length + n)) 0)).toArray 5), bvs (List.replicate (grownCap w (xs.length + n) (xs.length + rest.length) 5 - (xs.length + n)) 0), hb, ?_, ?_, ?_, ?_, .inr (Nat.le_refl _), (((Keeps.refl _ w).drew).alloc _), ?_⟩
   ·
    intro ty
    rw [replicate_bvs, Nat.add_sub_cancel' hge]
    exact happ ty
   ·
    have := hb.lt; omega
   ·
    exact Blk.new w.drew _ 5
   ·
    exact hb.drew.alloc _
   ·
    rw [replicate_bvs]; omega
set_option maxHeartbeats 400000 in
theorem more_any (b n : Nat) (g : Option Nat) (xs : List UInt8) (w : World) (h : Wr w b g xs) (h0 : g = none → 0 < n) (hn : xs.length + n ≤ 140737488355328) :
  Calls Tryz.prog 51 #[.pointer (some ⟨b, 0, none⟩), .int .i64 n] w fun e w' => ∃ g' x c', e = .returned (.slice (some ⟨g', x, none⟩) n c') ∧ (x = xs.length ∨ (n = 0 ∧ x = 0)) ∧ Wr w' b (some g') (xs ++ List.replicate n 0) ∧ (g = some g' ∨ w.heap.size ≤ g') ∧ Keeps (fun k => k = b ∨ some k = g) w w' := by
 obtain ⟨a, c, g', W1, rest, hb, happ, hgb, hg1, hb1, hfr, hK, hm⟩ := h.grow n h0 hn
 have hmx := hm
 unfold maxLen at hmx
 have c0 := hb.cell (i := 0) rfl
 have d0 := hb1.cell (i := 0) rfl
 have d1 := hb1.cell (i := 1) rfl
 have f0 := hb1.frozen 0
 have HA : Hid (∀ ty, _) := happ
 have HB : Hid (Blk W1 b [.slice a xs.length c, .int .i64 xs.length] 84) := hb1
 have hb2 := hb1.setCell 0 (.slice (some ⟨g', 0, none⟩) (xs.length + n) (xs.length + n + rest.length))
 have e0 := hb2.cell (i := 0) rfl
 have e1 := hb2.cell (i := 1) rfl
 have e2 := hb2.frozen 1
 obtain ⟨m, hm'⟩ : ∃ m, m = xs.length := ⟨_, rfl⟩
 rw [← hm'] at HA c0 d0 d1 e0 e1 hm hmx hn e2
 have HM : Hid (m = xs.length) := hm'
 clear happ hb1 hb hb2 hm'
 go_enter Tryz.func51, Tryz.ntmps51
 go_wp2_with (at_builtin; go_must (refine wpList_append_run rfl (.tmp 10) (.tmp 11) 27 3 rfl (.slice a m c) (.int .i64 n) (.slice (some ⟨g', 0, none⟩) (m + n) (m + n + rest.length)) W1 rfl rfl HA.out ?_))
 refine (next_any b g' 0 (m + n) (m + n + rest.length) m n _ e0 e1 e2 (by omega) (by omega) hm).mono ?_
 rintro e w' ⟨⟨x, rfl, hx⟩, j, rfl⟩
 clear c0 d0 d1 f0 e0 e1 e2
 go_wp2
 go_ret
 refine ⟨g', x, _, rfl, ?_, ?_, hfr, ?_⟩
 ·
  rw [← HM.out]; omega
 ·
  refine ⟨rest, hgb, ?_, ?_, ?_⟩
  ·
   have e1 : (xs ++ List.replicate n 0).length = m + n := by rw [List.length_append, List.length_replicate, HM.out]
   rw [e1]
   have := (HB.out.setCell 0 (.slice (some ⟨g', 0, none⟩) (m + n) (m + n + rest.length))).setCell 1 (.int .i64 ((m : Int) + (n : Int)))
   exact this
  ·
   rw [bvs_append]
   exact (hg1.setCell_ne (a := ⟨b, 0, none⟩) hgb _).setCell_ne (a := ⟨b, 1, none⟩) hgb _
  ·
   simp only [List.length_append, List.length_replicate]
   rw [← HM.out]
   exact hm
 ·
  exact (((hK.mono fun k _ hk => .inr hk).setCell ⟨b, 0, none⟩ _ fun _ => .inl rfl).setCell ⟨b, 1, none⟩ _ fun _ => .inl rfl).drewN j
theorem tail_splice (xs ys zs : List UInt8) (rest : List Value) (h : zs.length = ys.length) :
  (bvs (xs ++ ys) ++ rest).take xs.length ++ bvs zs ++ (bvs (xs ++ ys) ++ rest).drop (xs.length + zs.length) = bvs (xs ++ zs) ++ rest := by
 have e1 : (bvs (xs ++ ys) ++ rest).take xs.length = bvs xs := by
  rw [bvs_append, List.append_assoc, List.take_append_of_le_length (by rw [bvs_length]; exact Nat.le_refl _), List.take_of_length_le (by rw [bvs_length]; exact Nat.le_refl _)]
 have e2 : (bvs (xs ++ ys) ++ rest).drop (xs.length + zs.length) = rest := by
  have : (bvs (xs ++ ys)).length = xs.length + zs.length := by rw [bvs_length, List.length_append, h]
  rw [← this, List.drop_left]
 rw [e1, e2, bvs_append]
theorem keeps_both {w w1 w2 : World} {b g' : Nat} {g : Option Nat} (hK : Keeps (fun k => k = b ∨ some k = g) w w1) (hK2 : Keeps (· = g') w1 w2) (hfr : g = some g' ∨ w.heap.size ≤ g') : Keeps (fun k => k = b ∨ some k = g) w w2 :=
 hK.trans hK2 fun k hk e => by
  rcases hfr with h | h
  ·
   exact .inr (by rw [h, e])
  ·
   omega
set_option maxHeartbeats 400000 in
theorem wnumber_any (b n N : Nat) (g : Option Nat) (xs : List UInt8) (w : World) (h : Wr w b g xs) (h0 : 0 < n) (h8 : n ≤ 8) (hn : xs.length + n ≤ 140737488355328) (hN : N < 18446744073709551616) :
  Calls Tryz.prog 20 #[.pointer (some ⟨b, 0, none⟩), .int .i64 n, .int .u64 N] w fun e w' => e = .returned (.tuple #[]) ∧ ∃ g', Wr w' b (some g') (xs ++ lowB n N) ∧ (g = some g' ∨ w.heap.size ≤ g') ∧ Keeps (fun k => k = b ∨ some k = g) w w' := by
 go_enter Tryz.func20, Tryz.ntmps20
 go_wp2_with fail
 refine (more_any b n g xs w h (fun _ => h0) hn).mono ?_
 rintro e w1 ⟨g', x, c', rfl, hx, hw, hfr, hK⟩
 obtain rfl : x = xs.length := by omega
 clear h hx hn
 go_wp2_with fail
 have hw1 := hw
 obtain ⟨rest, hgb, hb, hgg, hm⟩ := hw
 refine (spread_any g' xs.length n c' N _ 5 _ hgg (by simp [bvs_length]) (by unfold maxLen; omega) hN).mono ?_
 rintro e w2 ⟨rfl, hg2, hK2⟩
 go_wp2
 go_end0
 refine ⟨rfl, g', ?_, hfr, keeps_both hK hK2 hfr⟩
 have e := tail_splice xs (List.replicate n 0) (lowB n N) rest (by rw [lowB_length, List.length_replicate])
 rw [lowB_length] at e
 rw [e] at hg2
 have e1 : (xs ++ lowB n N).length = (xs ++ List.replicate n 0).length := by simp [lowB_length]
 refine ⟨rest, hgb, ?_, hg2, by rw [e1]; exact hm⟩
 rw [e1]
 exact hb.kept hK2 (fun e => hgb e.symm)
set_option maxHeartbeats 400000 in
theorem wU8_any (b N : Nat) (g : Option Nat) (xs : List UInt8) (w : World) (h : Wr w b g xs) (hn : xs.length + 1 ≤ 140737488355328) (hN : N < 256) :
  Calls Tryz.prog 52 #[.pointer (some ⟨b, 0, none⟩), .int .u8 N] w fun e w' => e = .returned (.tuple #[]) ∧ ∃ g', Wr w' b (some g') (xs ++ lowB 1 N) ∧ (g = some g' ∨ w.heap.size ≤ g') ∧ Keeps (fun k => k = b ∨ some k = g) w w' := by
 have hc : IntKind.u64.wrap (N : Int) = N := by rw [IntKind.wrap_u64]; omega
 go_enter Tryz.func52, Tryz.ntmps52
 go_wp2_with fail
 refine (wnumber_any b 1 N g xs w h (by omega) (by omega) hn (by omega)).mono ?_
 rintro e w1 ⟨rfl, hw⟩
 go_wp2
 go_end0
 exact ⟨rfl, hw⟩
set_option maxHeartbeats 400000 in
theorem wU32_any (b N : Nat) (g : Option Nat) (xs : List UInt8) (w : World) (h : Wr w b g xs) (hn : xs.length + 4 ≤ 140737488355328) (hN : N < 4294967296) :
  Calls Tryz.prog 10 #[.pointer (some ⟨b, 0, none⟩), .int .u32 N] w fun e w' => e = .returned (.tuple #[]) ∧ ∃ g', Wr w' b (some g') (xs ++ lowB 4 N) ∧ (g = some g' ∨ w.heap.size ≤ g') ∧ Keeps (fun k => k = b ∨ some k = g) w w' := by
 have hc : IntKind.u64.wrap (N : Int) = N := by rw [IntKind.wrap_u64]; omega
 go_enter Tryz.func10, Tryz.ntmps10
 go_wp2_with fail
 refine (wnumber_any b 4 N g xs w h (by omega) (by omega) hn (by omega)).mono ?_
 rintro e w1 ⟨rfl, hw⟩
 go_wp2
 go_end0
 exact ⟨rfl, hw⟩
theorem Tryz.size5 : (Tryz.prog.info? 5).map (·.size) = some 1 := by kernel_rfl
set_option maxHeartbeats 400000 in
theorem wText_any (b : Nat) (s : ByteArray) (g : Option Nat) (xs : List UInt8) (w : World) (h : Wr w b g xs) (hs : s.size < 4294967296) (hn : xs.length + 4 + s.size ≤ 140737488355328) :
  Calls Tryz.prog 97 #[.pointer (some ⟨b, 0, none⟩), .string s] w fun e w' => e = .returned (.tuple #[]) ∧ ∃ g', Wr w' b (some g') (xs ++ (lowB 4 s.size ++ s.data.toList)) ∧ (g = some g' ∨ w.heap.size ≤ g') ∧ Keeps (fun k => k = b ∨ some k = g) w w' := by
 have hc : IntKind.u32.wrap (s.size : Int) = s.size := by rw [IntKind.wrap_u32']; omega
 go_enter Tryz.func97, Tryz.ntmps97
 go_wp2_with fail
 refine (wU32_any b s.size g xs w h (by omega) hs).mono ?_
 rintro e w1 ⟨rfl, g1, hw1, hf1, hK1⟩
 go_wp2_with fail
 have hl4 : (xs ++ lowB 4 s.size).length = xs.length + 4 := by simp [lowB_length]
 refine (more_any b s.size (some g1) _ _ hw1 (fun h => by cases h) (by rw [hl4]; exact hn)).mono ?_
 rintro e w2 ⟨g2, x, c2, rfl, hx, hw2, hf2, hK2⟩
 clear h hn
 obtain ⟨W3, hcp, hw3, hK3⟩ : ∃ W3, (∀ ty, (Builtin.copy_ #[27, 9] ty #[.slice (some ⟨g2, x, none⟩) s.size c2, .string s]).run Tryz.prog w2 = .ok (goInt s.size) W3) ∧ Wr W3 b (some g2) (xs ++ (lowB 4 s.size ++ s.data.toList)) ∧ Keeps (· = g2) w2 W3 := by
  obtain ⟨rest, hgb, hb, hgg, hm⟩ := hw2
  have hcp := fun ty => run_copy_text (P := Tryz.prog) (w := w2) 27 9 ty 5 Tryz.underlying27 Tryz.size5 g2 x c2 _ 5 hgg s (by
   simp only [List.length_append, bvs_length, List.length_replicate, lowB_length]; omega)
  have hsl : s.data.toList.length = s.size := rfl
  rw [← List.append_assoc]
  have e1 : (xs ++ lowB 4 s.size ++ s.data.toList).length = (xs ++ lowB 4 s.size ++ List.replicate s.size 0).length := by simp
  have e2 : (bvs (xs ++ lowB 4 s.size ++ List.replicate s.size 0) ++ rest).take x ++ bvs s.data.toList ++ (bvs (xs ++ lowB 4 s.size ++ List.replicate s.size 0) ++ rest).drop (x + s.size) = bvs (xs ++ lowB 4 s.size ++ s.data.toList) ++ rest := by
   rcases hx with hx | ⟨h0, hx⟩
   ·
    have e := tail_splice (xs ++ lowB 4 s.size) (List.replicate s.size 0) s.data.toList rest (by simp)
    rw [hsl, ← hx] at e
    exact e
   ·
    have hnil : s.data.toList = [] := List.eq_nil_of_length_eq_zero (by rw [hsl]; exact h0)
    rw [hx, h0, hnil]
    simp [bvs]
  rw [e2] at hcp
  refine ⟨_, hcp, ⟨rest, hgb, ?_, hgg.setRow _, by rw [e1]; exact hm⟩, (Keeps.refl _ w2).setRow _ _ fun _ => rfl⟩
  rw [e1]
  exact hb.setRow_ne (fun e => hgb e.symm) _
 have HC : Hid (∀ ty, _) := hcp
 clear hcp
 go_wp2_with (refine wpList_copy_run rfl (.tmp 14) (.tmp 15) 27 9 rfl (.slice (some ⟨g2, x, none⟩) s.size c2) (.string s) (goInt s.size) W3 rfl rfl HC.out ?_)
 go_end0
 refine ⟨rfl, g2, hw3, ?_, ?_⟩
 ·
  rcases hf2 with h | h
  ·
   have : g1 = g2 := by simpa using h
   rw [← this]; exact hf1
  ·
   right; have := hK1.size; omega
 ·
  refine (hK1.trans hK2 ?_).trans hK3 ?_
  ·
   intro k hk e
   rcases e with e | e
   ·
    exact .inl e
   ·
    rcases hf1 with h | h
    ·
     exact .inr (by rw [e, h])
    ·
     have : k = g1 := by simpa using e
     omega
  ·
   intro k hlt e
   rcases hf2 with h | h
   ·
    have : g1 = g2 := by simpa using h
    rcases hf1 with h' | h'
    ·
     exact .inr (by rw [h', this, e])
    ·
     omega
   ·
    have := hK1.size; omega
set_option maxHeartbeats 400000 in
theorem wLen_any (b : Nat) (g : Option Nat) (xs : List UInt8) (w : World) (h : Wr w b g xs) :
  Calls Tryz.prog 13 #[.pointer (some ⟨b, 0, none⟩)] w fun e w' => e = .returned (.int .i64 xs.length) ∧ w' = w := by
 obtain ⟨a, c, hb, hl⟩ : ∃ a c, Blk w b [.slice a xs.length c, .int .i64 xs.length] 84 ∧ xs.length ≤ maxLen := by
  cases g with
  | none => obtain ⟨rfl, hb⟩ := h; exact ⟨none, 0, hb, Nat.zero_le _⟩
  | some g => obtain ⟨rest, _, hb, _, hm⟩ := h; exact ⟨_, _, hb, by omega⟩
 have c0 := hb.cell (i := 0) rfl
 go_enter Tryz.func13, Tryz.ntmps13
 go_wp2_with (go_at_call 29; refine (size_any b a xs.length c _ c0 hl).mono ?_; rintro e w' ⟨rfl, rfl⟩)
 go_ret
 exact ⟨rfl, rfl⟩
theorem Wr.look {w : World} {b : Nat} {g : Option Nat} {xs : List UInt8} (h : Wr w b g xs) :
  ∃ a c, Blk w b [.slice a xs.length c, .int .i64 xs.length] 84 ∧ xs.length ≤ maxLen ∧ Seg w a xs ∧ ∀ x, a = some x → some x.block = g := by
 cases g with
 | none => obtain ⟨rfl, hb⟩ := h; exact ⟨none, 0, hb, Nat.zero_le _, .inl rfl, fun x hx => by cases hx⟩
 | some g =>
  obtain ⟨rest, _, hb, hg, hm⟩ := h
  refine ⟨_, _, hb, by omega, .inr ⟨g, 0, rfl, fun j hj => hg.cell ?_⟩, fun x hx => by simp at hx; rw [← hx]⟩
  rw [Nat.zero_add, List.getElem?_append_left (by rw [bvs_length]; exact hj)]
  exact bvs_get xs j hj
theorem Seg.kept {S : Nat → Prop} {w w' : World} {a : Option Addr} {xs : List UInt8} (h : Seg w a xs) (hK : Keeps S w w') (hn : ∀ x, a = some x → ¬ S x.block) : Seg w' a xs := by
 rcases h with h | ⟨g, o, ha, hc⟩
 ·
  exact .inl h
 ·
  refine .inr ⟨g, o, ha, fun j hj => ?_⟩
  have h1 := hc j hj
  have hlt : g < w.heap.size := World.block_lt_of_cell? w ⟨g, o + j, none⟩ h1
  rw [World.cell?_of_block (w := w) (hK.block g hlt (hn _ ha))]
  exact h1
set_option maxHeartbeats 400000 in
theorem wOut_any (b : Nat) (g : Option Nat) (xs : List UInt8) (w : World) (h : Wr w b g xs) (hn : xs.length ≤ 281474976710656) :
  Calls Tryz.prog 14 #[.pointer (some ⟨b, 0, none⟩)] w fun e w' => e = .returned (.slice (some ⟨w.heap.size, 0, none⟩) xs.length xs.length) ∧ Blk w' w.heap.size (bvs xs) 5 ∧ Keeps (fun _ => False) w w' := by
 obtain ⟨i0, hi, hz0, hz1, hz2⟩ := info_parts Tryz.info5
 obtain ⟨a, c, hb, hl, hs, ha⟩ := h.look
 have c0 := hb.cell (i := 0) rfl
 have hmk := run_make_bytes (P := Tryz.prog) (w := w) 27 5 i0 Tryz.underlying27 hi hz0 hz1 hz2 xs.length hn
 obtain ⟨W1, hW⟩ : ∃ W1, W1 = w.alloc (.cells (bvs (List.replicate xs.length 0)).toArray 5) := ⟨_, rfl⟩
 rw [← hW] at hmk
 have hK1 : Keeps (fun _ => False) w W1 := by rw [hW]; exact (Keeps.refl _ w).alloc _
 have hB1 : Blk W1 w.heap.size (bvs (List.replicate xs.length 0)) 5 := by rw [hW]; exact Blk.new w _ 5
 have c1 : W1.cell? ⟨b, 0, none⟩ = some (.slice a xs.length c) := (hb.kept hK1 (fun e => e)).cell (i := 0) rfl
 have hs1 : Seg W1 a xs := hs.kept hK1 (fun _ _ e => e)
 have hcp := fun ty => run_copy_blk (P := Tryz.prog) (w := W1) 27 27 ty 5 Tryz.underlying27 Tryz.size5 w.heap.size 0 xs.length _ 5 hB1 a c xs hs1 (by simp [bvs_length])
 have e : (bvs (List.replicate xs.length 0)).take 0 ++ bvs xs ++ (bvs (List.replicate xs.length 0)).drop (0 + xs.length) = bvs xs := by simp [bvs]
 rw [e] at hcp
 obtain ⟨W2, hW2⟩ : ∃ W2, W2 = W1.setRow w.heap.size (bvs xs).toArray := ⟨_, rfl⟩
 have hB2 : Blk W2 w.heap.size (bvs xs) 5 := by rw [hW2]; exact hB1.setRow _
 have hK2 : Keeps (fun _ => False) w W2 := by rw [hW2]; exact hK1.setRow _ _ (fun h => by omega)
 rw [← hW2] at hcp
 obtain ⟨n, hnn⟩ : ∃ n, n = xs.length := ⟨_, rfl⟩
 rw [← hnn] at hmk hcp c0 c1 hl ⊢
 have HN : Hid (n = xs.length) := hnn
 have HM : Hid (_ = _) := hmk
 have HC : Hid (∀ ty, _) := hcp
 clear hmk hcp e hW hW2 hnn
 go_enter Tryz.func14, Tryz.ntmps14
 go_wp2_with (first | (go_at_call 29; refine (size_any b a n c _ c0 hl).mono ?_; rintro e w' ⟨rfl, hw'⟩; obtain rfl := hw'.symm) | (at_make; refine wpList_make_run rfl (.tmp 9) (.tmp 9) 27 rfl (.int .i64 n) (.int .i64 n) (.slice (some ⟨w.heap.size, 0, none⟩) n n) W1 rfl rfl HM.out ?_; refine Hid.out ?_))
 unfold Hid
 go_wp2_with ((refine wpList_copy_run rfl (.tmp 11) (.tmp 16) 27 27 rfl (.slice (some ⟨w.heap.size, 0, none⟩) n n) (.slice a n c) (goInt n) W2 rfl rfl HC.out ?_))
 go_ret
 exact ⟨rfl, hB2, hK2⟩
end Go.Proofs.YthegceijlfflfaaGreat
namespace Go.Proofs.YthegceijlfflfaaGreat
open Go.RowKit
set_option maxRecDepth 6000
structure Rd (w : World) (b g : Nat) (xs : List UInt8) (p : Nat) (er : Int) : Prop where
 ne : g ≠ b
 blk : Blk w b [.slice (some ⟨g, 0, none⟩) xs.length xs.length, .int .i64 p, .int .i64 er] 152
 bytes : Blk w g (bvs xs) 5
 len : xs.length ≤ maxLen
 le : p ≤ xs.length
theorem Rd.kept {S : Nat → Prop} {w w' : World} {b g p : Nat} {er : Int} {xs : List UInt8} (h : Rd w b g xs p er) (k : Keeps S w w') (hb : ¬ S b) (hg : ¬ S g) : Rd w' b g xs p er :=
 ⟨h.ne, h.blk.kept k hb, h.bytes.kept k hg, h.len, h.le⟩
set_option maxHeartbeats 400000 in
theorem newReader_any (a : Option Addr) (c : Nat) (xs : List UInt8) (w : World) (hx : Seg w a xs) (hl : xs.length ≤ 281474976710656) :
  Calls Tryz.prog 92 #[.slice a xs.length c] w fun e w' => e = .returned (.pointer (some ⟨w.heap.size + 1, 0, none⟩)) ∧ Rd w' (w.heap.size + 1) w.heap.size xs 0 0 ∧ Keeps (fun _ => False) w w' := by
 obtain ⟨i0, hi, hz0, hz1, hz2⟩ := info_parts Tryz.info5
 have hmk := run_make_bytes (P := Tryz.prog) (w := w) 27 5 i0 Tryz.underlying27 hi hz0 hz1 hz2 xs.length hl
 obtain ⟨W1, hW⟩ : ∃ W1, W1 = w.alloc (.cells (bvs (List.replicate xs.length 0)).toArray 5) := ⟨_, rfl⟩
 rw [← hW] at hmk
 have hK1 : Keeps (fun _ => False) w W1 := by rw [hW]; exact (Keeps.refl _ w).alloc _
 have hB1 : Blk W1 w.heap.size (bvs (List.replicate xs.length 0)) 5 := by rw [hW]; exact Blk.new w _ 5
 have hsz : W1.heap.size = w.heap.size + 1 := by rw [hW]; simp
 have hs1 : Seg W1 a xs := hx.kept hK1 (fun _ _ e => e)
 obtain ⟨W2, hW2⟩ : ∃ W2, W2 = W1.alloc (.cells #[.slice (some ⟨w.heap.size, 0, none⟩) xs.length xs.length, .int .i64 0, .int .i64 0] 152) := ⟨_, rfl⟩
 have hK2 : Keeps (fun _ => False) W1 W2 := by rw [hW2]; exact (Keeps.refl _ W1).alloc _
 have hB2 : Blk W2 w.heap.size (bvs (List.replicate xs.length 0)) 5 := hB1.kept hK2 (fun e => e)
 have hR2 : Blk W2 (w.heap.size + 1) [.slice (some ⟨w.heap.size, 0, none⟩) xs.length xs.length, .int .i64 0, .int .i64 0] 152 := by rw [hW2, ← hsz]; exact Blk.new W1 _ 152
 have hs2 : Seg W2 a xs := hs1.kept hK2 (fun _ _ e => e)
 have hcp := fun ty => run_copy_blk (P := Tryz.prog) (w := W2) 27 27 ty 5 Tryz.underlying27 Tryz.size5 w.heap.size 0 xs.length _ 5 hB2 a c xs hs2 (by simp [bvs_length])
 have e : (bvs (List.replicate xs.length 0)).take 0 ++ bvs xs ++ (bvs (List.replicate xs.length 0)).drop (0 + xs.length) = bvs xs := by simp [bvs]
 rw [e] at hcp
 obtain ⟨W3, hW3⟩ : ∃ W3, W3 = W2.setRow w.heap.size (bvs xs).toArray := ⟨_, rfl⟩
 have hB3 : Blk W3 w.heap.size (bvs xs) 5 := by rw [hW3]; exact hB2.setRow _
 have hK3 : Keeps (fun _ => False) w W3 := by rw [hW3]; exact (hK1.trans hK2 fun _ _ e => e).setRow _ _ (fun h => by omega)
 have hR3 : Blk W3 (w.heap.size + 1) [.slice (some ⟨w.heap.size, 0, none⟩) xs.length xs.length, .int .i64 0, .int .i64 0] 152 := by rw [hW3]; exact hR2.setRow_ne (by omega) _
 rw [← hW3] at hcp
 have fin : Rd W3 (w.heap.size + 1) w.heap.size xs 0 0 := ⟨by omega, hR3, hB3, by unfold maxLen; omega, Nat.zero_le _⟩
 have c2 := hR2.cell (i := 0) rfl
 rw [hW2] at c2
 obtain ⟨n, hnn⟩ : ∃ n, n = xs.length := ⟨_, rfl⟩
 rw [← hnn] at hmk hcp c2 hW2 ⊢
 rw [hW2] at hcp
 have HM : Hid (_ = _) := hmk
 have HC : Hid (∀ ty, _) := hcp
 have HW : Hid (W1.heap.size = w.heap.size + 1) := hsz
 clear hmk hnn hcp hW2 hW3 hW hs2 hs1 hR2 hR3 hB1 hB2 hB3 hK1 hK2 e
 go_enter Tryz.func92, Tryz.ntmps92
 go_wp2_with (at_make; refine wpList_make_run rfl (.tmp 5) (.tmp 5) 27 rfl (.int .i64 n) (.int .i64 n) (.slice (some ⟨w.heap.size, 0, none⟩) n n) W1 rfl rfl HM.out ?_; refine Hid.out ?_)
 unfold Hid
 go_wp2_with (refine isCopy (.tmp 14) (.tmp 15) 27 27 rfl ?_; go_must (refine wpList_copy_run rfl (.tmp 14) (.tmp 15) 27 27 rfl (.slice (some ⟨w.heap.size, 0, none⟩) n n) (.slice a n c) (goInt n) W3 rfl rfl HC.out ?_))
 go_ret
 exact ⟨rfl, fin, hK3⟩
set_option maxHeartbeats 400000 in
theorem rFault_any (b g p : Nat) (er : Int) (xs : List UInt8) (w : World) (h : Rd w b g xs p er) :
  Calls Tryz.prog 140 #[.pointer (some ⟨b, 0, none⟩)] w fun e w' => e = .returned (.int .i64 er) ∧ w' = w := by
 have c2 := h.blk.cell (i := 2) rfl
 go_enter Tryz.func140, Tryz.ntmps140
 go_wp2
 go_ret
 exact ⟨rfl, rfl⟩
set_option maxHeartbeats 400000 in
theorem rAt_any (b g p : Nat) (er : Int) (xs : List UInt8) (w : World) (h : Rd w b g xs p er) :
  Calls Tryz.prog 118 #[.pointer (some ⟨b, 0, none⟩)] w fun e w' => e = .returned (.int .i64 p) ∧ w' = w := by
 have c1 := h.blk.cell (i := 1) rfl
 go_enter Tryz.func118, Tryz.ntmps118
 go_wp2
 go_ret
 exact ⟨rfl, rfl⟩
set_option maxHeartbeats 400000 in
theorem rLeft_any (b g p : Nat) (er : Int) (xs : List UInt8) (w : World) (h : Rd w b g xs p er) :
  Calls Tryz.prog 128 #[.pointer (some ⟨b, 0, none⟩)] w fun e w' => e = .returned (.int .i64 ((xs.length : Int) - p)) ∧ w' = w := by
 have c0 := h.blk.cell (i := 0) rfl
 have c1 := h.blk.cell (i := 1) rfl
 go_enter Tryz.func128, Tryz.ntmps128
 go_wp2_with (go_at_call 152; refine (left_any b _ xs.length _ p _ c0 c1 h.len h.le).mono ?_; rintro e w' ⟨rfl, rfl⟩)
 go_ret
 exact ⟨rfl, rfl⟩
set_option maxHeartbeats 400000 in
theorem rnumber_fault (b g p n : Nat) (er : Int) (xs : List UInt8) (w : World) (h : Rd w b g xs p er) (he : (er != 0) = true) :
  Calls Tryz.prog 141 #[.pointer (some ⟨b, 0, none⟩), .int .i64 n] w fun e w' => e = .returned (.int .u64 0) ∧ w' = w := by
 go_enter Tryz.func141, Tryz.ntmps141
 go_wp2_with (go_at_call 140; refine (rFault_any b g p er xs _ h).mono ?_; rintro e w' ⟨rfl, rfl⟩)
 go_ret
 exact ⟨rfl, rfl⟩
theorem Rd.set {w : World} {b g p : Nat} {er : Int} {xs : List UInt8} (h : Rd w b g xs p er) (p' : Nat) (er' : Int) (hp : p' ≤ xs.length) :
  Rd ((w.setCell ⟨b, 1, none⟩ (.int .i64 p')).setCell ⟨b, 2, none⟩ (.int .i64 er')) b g xs p' er' :=
 ⟨h.ne, (h.blk.setCell 1 (.int .i64 p')).setCell 2 (.int .i64 er'), (h.bytes.setCell_ne (a := ⟨b, 1, none⟩) h.ne _).setCell_ne (a := ⟨b, 2, none⟩) h.ne _, h.len, hp⟩
theorem Rd.go {w : World} {b g p : Nat} {er : Int} {xs : List UInt8} (h : Rd w b g xs p er) (p' : Nat) (hp : p' ≤ xs.length) :
  Rd (w.setCell ⟨b, 1, none⟩ (.int .i64 p')) b g xs p' er :=
 ⟨h.ne, h.blk.setCell 1 (.int .i64 p'), h.bytes.setCell_ne (a := ⟨b, 1, none⟩) h.ne _, h.len, hp⟩
set_option maxHeartbeats 400000 in
theorem rnumber_short (b g p n : Nat) (xs : List UInt8) (w : World) (h : Rd w b g xs p 0) (hn : xs.length < p + n) :
  Calls Tryz.prog 141 #[.pointer (some ⟨b, 0, none⟩), .int .i64 n] w fun e w' => e = .returned (.int .u64 0) ∧ Rd w' b g xs p 12 ∧ Keeps (· = b) w w' := by
 have c0 := h.blk.cell (i := 0) rfl
 have c1 := h.blk.cell (i := 1) rfl
 have c2 := h.blk.cell (i := 2) rfl
 have f1 := h.blk.frozen 1
 have f2 := h.blk.frozen 2
 have hlt : (xs.length : Int) - (p : Int) < (n : Int) := by omega
 have hR := h.set p 12 h.le
 have hK : Keeps (· = b) w ((w.setCell ⟨b, 1, none⟩ (.int .i64 p)).setCell ⟨b, 2, none⟩ (.int .i64 12)) := ((Keeps.refl (· = b) w).setCell ⟨b, 1, none⟩ _ fun _ => rfl).setCell ⟨b, 2, none⟩ _ fun _ => rfl
 have HK : Hid (Keeps _ _ _) := hK
 clear hK
 have HR : Hid (Rd _ b g xs p 12) := hR
 clear hR
 go_enter Tryz.func141, Tryz.ntmps141
 go_wp2_with (first | (go_at_call 140; refine (rFault_any b g p 0 xs _ h).mono ?_; rintro e w' ⟨rfl, hw'⟩; obtain rfl := hw'.symm) | (go_at_call 152; refine (left_any b _ xs.length _ p _ c0 c1 h.len h.le).mono ?_; rintro e w' ⟨rfl, hw'⟩; obtain rfl := hw'.symm) | (go_at_call 139; refine (at_any b p _ c1).mono ?_; rintro e w' ⟨rfl, hw'⟩; obtain rfl := hw'.symm) | (go_at_call 164; refine (refuse_any b p 12 p _ _ c1 c2 f1 f2).mono ?_; rintro e w' ⟨rfl, hw'⟩; obtain rfl := hw'.symm))
 go_ret
 exact ⟨rfl, HR.out, HK.out⟩
set_option maxHeartbeats 400000 in
theorem rnumber_ok (b g p n : Nat) (xs : List UInt8) (w : World) (h : Rd w b g xs p 0) (hn : p + n ≤ xs.length) (h8 : n ≤ 8) (h0 : 0 < n) :
  Calls Tryz.prog 141 #[.pointer (some ⟨b, 0, none⟩), .int .i64 n] w fun e w' => e = .returned (.int .u64 (highN ((xs.drop p).take n))) ∧ Rd w' b g xs (p + n) 0 ∧ Keeps (· = b) w w' := by
 have c0 := h.blk.cell (i := 0) rfl
 have c1 := h.blk.cell (i := 1) rfl
 have f1 := h.blk.frozen 1
 have hlt : ¬ (xs.length : Int) - (p : Int) < (n : Int) := by omega
 have hR := h.go (p + n) hn
 have hK : Keeps (· = b) w (w.setCell ⟨b, 1, none⟩ (.int .i64 ((p + n : Nat) : Int))) := (Keeps.refl _ w).setCell _ _ fun _ => rfl
 have HK : Hid (Keeps _ _ _) := hK
 clear hK
 have HR : Hid (Rd _ b g xs (p + n) 0) := hR
 clear hR
 go_enter Tryz.func141, Tryz.ntmps141
 go_wp2_with (first | (go_at_call 140; refine (rFault_any b g p 0 xs _ h).mono ?_; rintro e w' ⟨rfl, hw'⟩; obtain rfl := hw'.symm) | (go_at_call 152; refine (left_any b _ xs.length _ p _ c0 c1 h.len h.le).mono ?_; rintro e w' ⟨rfl, hw'⟩; obtain rfl := hw'.symm) | (go_at_call 96; refine (next_any b g 0 xs.length xs.length p n _ c0 c1 f1 hn (Nat.le_refl _) h.len).mono ?_; rintro e w' ⟨⟨x, rfl, hx⟩, j, hw'⟩; refine Hid.out ?_))
 unfold Hid
 obtain rfl : x = p := by omega
 clear hw'
 go_wp2_with fail
 refine (gather_any g x n _ (bvs xs) ((xs.drop x).take n) 5 _ ?_ ?_ ?_ h8).mono ?_
 ·
  exact HR.out.bytes
 ·
  rw [bvs_take, bvs_drop]
 ·
  rw [List.length_take, List.length_drop]; omega
 ·
  rintro e w' ⟨rfl, hw'⟩
  obtain rfl := hw'.symm
  go_wp2
  go_ret
  exact ⟨rfl, ⟨HR.out.ne, HR.out.blk, HR.out.bytes, HR.out.len, HR.out.le⟩, HK.out.drewN j⟩
def numV (xs : List UInt8) (p : Nat) (er : Int) (n : Nat) : Nat := if er ≠ 0 then 0 else if xs.length < p + n then 0 else highN ((xs.drop p).take n)
def numP (xs : List UInt8) (p : Nat) (er : Int) (n : Nat) : Nat := if er ≠ 0 then p else if xs.length < p + n then p else p + n
def numE (xs : List UInt8) (p : Nat) (er : Int) (n : Nat) : Int := if er ≠ 0 then er else if xs.length < p + n then 12 else 0
theorem numV_lt (xs : List UInt8) (p : Nat) (er : Int) (n : Nat) : numV xs p er n < 256 ^ n := by
 have h0 : 0 < 256 ^ n := Nat.pow_pos (by omega)
 unfold numV
 split
 ·
  exact h0
 ·
  split
  ·
   exact h0
  ·
   refine Nat.lt_of_lt_of_le (highN_lt _) (Nat.pow_le_pow_right (by omega) ?_)
   rw [List.length_take]
   exact Nat.min_le_left _ _
theorem rnumber_any (b g p n : Nat) (er : Int) (xs : List UInt8) (w : World) (h : Rd w b g xs p er) (h8 : n ≤ 8) (h0 : 0 < n) :
  Calls Tryz.prog 141 #[.pointer (some ⟨b, 0, none⟩), .int .i64 n] w fun e w' => e = .returned (.int .u64 (numV xs p er n)) ∧ Rd w' b g xs (numP xs p er n) (numE xs p er n) ∧ Keeps (· = b) w w' := by
 by_cases he : er ≠ 0
 ·
  refine (rnumber_fault b g p n er xs w h (by simpa using he)).mono fun e w' ⟨h1, h2⟩ => ?_
  simp only [numV, numP, numE, if_pos he]
  exact ⟨h1, h2 ▸ h, h2 ▸ Keeps.refl _ _⟩
 ·
  have he' : er = 0 := by omega
  subst he'
  by_cases hs : xs.length < p + n
  ·
   refine (rnumber_short b g p n xs w h hs).mono fun e w' h1 => ?_
   simp only [numV, numP, numE, if_neg he, if_pos hs]
   exact h1
  ·
   refine (rnumber_ok b g p n xs w h (by omega) h8 h0).mono fun e w' h1 => ?_
   simp only [numV, numP, numE, if_neg he, if_neg hs]
   exact h1
set_option maxHeartbeats 400000 in
theorem rU8_any (b g p : Nat) (er : Int) (xs : List UInt8) (w : World) (h : Rd w b g xs p er) :
  Calls Tryz.prog 143 #[.pointer (some ⟨b, 0, none⟩)] w fun e w' => e = .returned (.int .u8 (numV xs p er 1)) ∧ Rd w' b g xs (numP xs p er 1) (numE xs p er 1) ∧ Keeps (· = b) w w' := by
 have hlt := numV_lt xs p er 1
 obtain ⟨V, hV⟩ : ∃ V, V = numV xs p er 1 := ⟨_, rfl⟩
 rw [← hV] at hlt
 have hc : IntKind.u8.wrap (V : Int) = V := by rw [IntKind.wrap_u8']; omega
 have hc' : (V : Int) % 256 = V := by omega
 have HV : Hid (V = numV xs p er 1) := hV
 clear hV
 go_enter Tryz.func143, Tryz.ntmps143
 go_wp2_with (go_at_call 141; refine (rnumber_any b g p 1 er xs _ h (by omega) (by omega)).mono ?_; rintro e w' ⟨rfl, hr⟩; rw [← HV.out])
 go_ret
 rw [← HV.out]
 exact ⟨rfl, hr⟩
set_option maxHeartbeats 400000 in
theorem rU32_any (b g p : Nat) (er : Int) (xs : List UInt8) (w : World) (h : Rd w b g xs p er) :
  Calls Tryz.prog 120 #[.pointer (some ⟨b, 0, none⟩)] w fun e w' => e = .returned (.int .u32 (numV xs p er 4)) ∧ Rd w' b g xs (numP xs p er 4) (numE xs p er 4) ∧ Keeps (· = b) w w' := by
 have hlt := numV_lt xs p er 4
 obtain ⟨V, hV⟩ : ∃ V, V = numV xs p er 4 := ⟨_, rfl⟩
 rw [← hV] at hlt
 have hc : IntKind.u32.wrap (V : Int) = V := by rw [IntKind.wrap_u32']; omega
 have hc' : (V : Int) % 4294967296 = V := by omega
 have HV : Hid (V = numV xs p er 4) := hV
 clear hV
 go_enter Tryz.func120, Tryz.ntmps120
 go_wp2_with (go_at_call 141; refine (rnumber_any b g p 4 er xs _ h (by omega) (by omega)).mono ?_; rintro e w' ⟨rfl, hr⟩; rw [← HV.out])
 go_ret
 rw [← HV.out]
 exact ⟨rfl, hr⟩
end Go.Proofs.YthegceijlfflfaaGreat
namespace Go.Proofs.YthegceijlfflfaaGreat
open Go.RowKit
set_option maxRecDepth 6000
section
variable {P : Program} {w : World}
theorem wpList_convert_run {ops : Array Oper} {rest : List Oper} {o : Oper} {a : Act} {Q : Exit → Act → World → Prop} (hgd : o.guard = none) (s : Operand) (t k : TypeId)
  (ho : o.op = .convert t k s) (vs v' : Value) (w' : World) (hs : a.eval s = vs)
  (hr : (convert t k vs).run P w = .ok v' w') (h : wpList P ops Q rest (a.put o.dst v') w') : wpList P ops Q (o :: rest) a w :=
 wpList_plain hgd fun _ hK => by
  unfold Oper.wp execOp
  simp only [ho, hs, Sem.run_bind, hr, Result.andThen_ok, Sem.run_pure]
  exact hK _ _ h
theorem foldl_push (xs : List UInt8) : ∀ s : ByteArray, (xs.map fun x => (x.toNat : Int)).foldl (fun r n => r.push (UInt8.ofNat n.toNat)) s = ⟨s.data ++ xs.toArray⟩ := by
 induction xs with
 | nil => intro s; simp
 | cons x r ih =>
  intro s
  simp only [List.map_cons, List.foldl_cons]
  rw [ih]
  have : UInt8.ofNat ((x.toNat : Int)).toNat = x := by simp
  rw [this]
  simp [ByteArray.push]
theorem run_text_of (src dst e : TypeId) (hs : P.underlying src = some (.slice e)) (he : P.underlying e = some (.int .u8)) (hd : P.underlying dst = some .string)
  (g o c : Nat) (l : List Value) (t : TypeId) (hg : Blk w g l t) (xs : List UInt8) (hx : xs = [] ∨ (l.drop o).take xs.length = bvs xs) :
  (convert src dst (.slice (some ⟨g, o, none⟩) xs.length c)).run P w = .ok (.string ⟨xs.toArray⟩) w := by
 rw [run_convert_bytes_string w src dst e _ _ _ hs he hd]
 have hb : bvs xs = (xs.map fun x => (x.toNat : Int)).map (Value.int .u8) := by simp [bvs]
 have hl := run_loadCells_list (P := P) w ⟨g, o, none⟩ (bvs xs) (by
  intro j v hj
  rcases hx with hx | hx
  ·
   subst hx; simp [bvs] at hj
  ·
   rw [← hx, List.getElem?_take] at hj
   split at hj
   ·
    rw [List.getElem?_drop] at hj
    rw [addr_add]
    exact hg.cell hj
   ·
    cases hj)
 rw [bvs_length, hb] at hl
 rw [run_bytesToString w _ _ _ _ hl, foldl_push]
 simp [ByteArray.empty, ByteArray.emptyWithCapacity]
 rfl
end
set_option maxHeartbeats 400000 in
theorem rText_fault (b g p : Nat) (er most : Int) (xs : List UInt8) (w : World) (h : Rd w b g xs p er) (he : (numE xs p er 4 != 0) = true) :
  Calls Tryz.prog 147 #[.pointer (some ⟨b, 0, none⟩), .int .i64 most] w fun e w' => e = .returned (.string ⟨#[]⟩) ∧ Rd w' b g xs (numP xs p er 4) (numE xs p er 4) ∧ Keeps (· = b) w w' := by
 have hlt := numV_lt xs p er 4
 go_enter Tryz.func147, Tryz.ntmps147
 go_wp2_with (first | (go_at_call 118; refine (rAt_any b g p er xs _ h).mono ?_; rintro e w' ⟨rfl, hw'⟩; obtain rfl := hw'.symm) | (go_at_call 120; refine (rU32_any b g p er xs _ h).mono ?_; rintro e w1 ⟨rfl, hr, hK⟩) | (go_at_call 140; refine (rFault_any b g _ _ xs _ hr).mono ?_; rintro e w' ⟨rfl, hw'⟩; obtain rfl := hw'.symm))
 go_ret
 exact ⟨rfl, hr, hK⟩
set_option maxHeartbeats 400000 in
theorem rText_most (b g p N : Nat) (most : Int) (xs : List UInt8) (w : World) (hRd : Rd w b g xs p 0) (hp : p + 4 ≤ xs.length) (hN : N = highN ((xs.drop p).take 4)) (hm : max most 0 < (N : Int)) :
  Calls Tryz.prog 147 #[.pointer (some ⟨b, 0, none⟩), .int .i64 most] w fun e w' => e = .returned (.string ⟨#[]⟩) ∧ Rd w' b g xs p 14 ∧ Keeps (· = b) w w' := by
 have h1 : ¬ xs.length < p + 4 := by omega
 have hV : numV xs p 0 4 = N := by simp [numV, h1, hN]
 have hP : numP xs p 0 4 = p + 4 := by simp [numP, h1]
 have hE : numE xs p 0 4 = 0 := by simp [numE, h1]
 have hlt := numV_lt xs p 0 4
 rw [hV] at hlt
 have hU := rU32_any b g p 0 xs w hRd
 rw [hV, hP, hE] at hU
 have HU : Hid (Calls _ _ _ _ _) := hU
 clear hU hV hP hE hN h1
 go_enter Tryz.func147, Tryz.ntmps147
 go_wp2_with (first | (go_at_call 118; refine (rAt_any b g p 0 xs _ hRd).mono ?_; rintro e w' ⟨rfl, hw'⟩; obtain rfl := hw'.symm) | (go_at_call 120; refine HU.out.mono ?_; rintro e w1 ⟨rfl, hr, hK⟩) | (go_at_call 140; refine (rFault_any b g _ _ xs _ hr).mono ?_; rintro e w' ⟨rfl, hw'⟩; obtain rfl := hw'.symm) | (go_at_call 164; refine Hid.out ?_))
 all_goals
  unfold Hid
  refine (refuse_any b p 14 ((p + 4 : Nat) : Int) _ _ (hr.blk.cell (i := 1) rfl) (hr.blk.cell (i := 2) rfl) (hr.blk.frozen 1) (hr.blk.frozen 2)).mono ?_
  rintro e w' ⟨rfl, hw'⟩
  have hR := hr.set p 14 hRd.le
  have hK2 := ((hK.setCell ⟨b, 1, none⟩ (.int .i64 p) fun _ => rfl).setCell ⟨b, 2, none⟩ (.int .i64 14) fun _ => rfl)
  rw [← hw'] at hR hK2
  have HR : Hid (Rd _ _ _ _ _ _) := hR
  have HK : Hid (Keeps _ _ _) := hK2
  clear hw' hR hK2
  go_wp2
  go_ret
  exact ⟨rfl, HR.out, HK.out⟩
set_option maxHeartbeats 400000 in
theorem rText_short (b g p N : Nat) (most : Int) (xs : List UInt8) (w : World) (hRd : Rd w b g xs p 0) (hp : p + 4 ≤ xs.length) (hN : N = highN ((xs.drop p).take 4)) (hm : ¬ max most 0 < (N : Int)) (hs : xs.length < p + 4 + N) :
  Calls Tryz.prog 147 #[.pointer (some ⟨b, 0, none⟩), .int .i64 most] w fun e w' => e = .returned (.string ⟨#[]⟩) ∧ Rd w' b g xs p 12 ∧ Keeps (· = b) w w' := by
 have h1 : ¬ xs.length < p + 4 := by omega
 have hV : numV xs p 0 4 = N := by simp [numV, h1, hN]
 have hP : numP xs p 0 4 = p + 4 := by simp [numP, h1]
 have hE : numE xs p 0 4 = 0 := by simp [numE, h1]
 have hlt := numV_lt xs p 0 4
 rw [hV] at hlt
 have hU := rU32_any b g p 0 xs w hRd
 rw [hV, hP, hE] at hU
 have HU : Hid (Calls _ _ _ _ _) := hU
 have hlm := hRd.len
 unfold maxLen at hlm
 have hgt : (xs.length : Int) - ((p + 4 : Nat) : Int) < (N : Int) := by omega
 clear hU hV hP hE hN h1
 go_enter Tryz.func147, Tryz.ntmps147
 go_wp2_with (first | (go_at_call 118; refine (rAt_any b g p 0 xs _ hRd).mono ?_; rintro e w' ⟨rfl, hw'⟩; obtain rfl := hw'.symm) | (go_at_call 120; refine HU.out.mono ?_; rintro e w1 ⟨rfl, hr, hK⟩) | (go_at_call 140; refine (rFault_any b g _ _ xs _ hr).mono ?_; rintro e w' ⟨rfl, hw'⟩; obtain rfl := hw'.symm) | (go_at_call 152; refine (left_any b _ xs.length _ (p + 4) _ (hr.blk.cell (i := 0) rfl) (hr.blk.cell (i := 1) rfl) hRd.len hp).mono ?_; rintro e w' ⟨rfl, hw'⟩; obtain rfl := hw'.symm) | (go_at_call 164; refine Hid.out ?_))
 all_goals
  unfold Hid
  refine (refuse_any b p 12 ((p + 4 : Nat) : Int) _ _ (hr.blk.cell (i := 1) rfl) (hr.blk.cell (i := 2) rfl) (hr.blk.frozen 1) (hr.blk.frozen 2)).mono ?_
  rintro e w' ⟨rfl, hw'⟩
  have hR := hr.set p 12 hRd.le
  have hK2 := ((hK.setCell ⟨b, 1, none⟩ (.int .i64 p) fun _ => rfl).setCell ⟨b, 2, none⟩ (.int .i64 12) fun _ => rfl)
  rw [← hw'] at hR hK2
  have HR : Hid (Rd _ _ _ _ _ _) := hR
  have HK : Hid (Keeps _ _ _) := hK2
  clear hw' hR hK2
  go_wp2
  go_ret
  exact ⟨rfl, HR.out, HK.out⟩
set_option maxHeartbeats 400000 in
theorem rText_ok (b g p N : Nat) (most : Int) (xs : List UInt8) (w : World) (hRd : Rd w b g xs p 0) (hp : p + 4 + N ≤ xs.length) (hN : N = highN ((xs.drop p).take 4)) (hm : ¬ max most 0 < (N : Int)) :
  Calls Tryz.prog 147 #[.pointer (some ⟨b, 0, none⟩), .int .i64 most] w fun e w' => e = .returned (.string ⟨((xs.drop (p + 4)).take N).toArray⟩) ∧ Rd w' b g xs (p + 4 + N) 0 ∧ Keeps (· = b) w w' := by
 have h1 : ¬ xs.length < p + 4 := by omega
 have hV : numV xs p 0 4 = N := by simp [numV, h1, hN]
 have hP : numP xs p 0 4 = p + 4 := by simp [numP, h1]
 have hE : numE xs p 0 4 = 0 := by simp [numE, h1]
 have hlt := numV_lt xs p 0 4
 rw [hV] at hlt
 have hU := rU32_any b g p 0 xs w hRd
 rw [hV, hP, hE] at hU
 have HU : Hid (Calls _ _ _ _ _) := hU
 have hlm := hRd.len
 unfold maxLen at hlm
 have hgt : ¬ (xs.length : Int) - ((p + 4 : Nat) : Int) < (N : Int) := by omega
 clear hU hV hP hE hN h1
 go_enter Tryz.func147, Tryz.ntmps147
 go_wp2_with (first | (go_at_call 118; refine (rAt_any b g p 0 xs _ hRd).mono ?_; rintro e w' ⟨rfl, hw'⟩; obtain rfl := hw'.symm) | (go_at_call 120; refine HU.out.mono ?_; rintro e w1 ⟨rfl, hr, hK⟩) | (go_at_call 140; refine (rFault_any b g _ _ xs _ hr).mono ?_; rintro e w' ⟨rfl, hw'⟩; obtain rfl := hw'.symm) | (go_at_call 152; refine (left_any b _ xs.length _ (p + 4) _ (hr.blk.cell (i := 0) rfl) (hr.blk.cell (i := 1) rfl) hRd.len (by omega)).mono ?_; rintro e w' ⟨rfl, hw'⟩; obtain rfl := hw'.symm) | (go_at_call 96; refine Hid.out ?_))
 all_goals
  unfold Hid
  refine (next_any b g 0 xs.length xs.length (p + 4) N _ (hr.blk.cell (i := 0) rfl) (hr.blk.cell (i := 1) rfl) (hr.blk.frozen 1) hp (Nat.le_refl _) hRd.len).mono ?_
  rintro e w' ⟨⟨x, rfl, hx⟩, j, hw'⟩
  have hR := hr.go (p + 4 + N) hp
  have hK2 := hK.setCell ⟨b, 1, none⟩ (.int .i64 ((p + 4 + N : Nat) : Int)) fun _ => rfl
  have hR' : Rd w' b g xs (p + 4 + N) 0 := by rw [hw']; exact ⟨hR.ne, hR.blk, hR.bytes, hR.len, hR.le⟩
  have hK' : Keeps (· = b) w w' := by rw [hw']; exact hK2.drewN j
  have hlen : ((xs.drop (p + 4)).take N).length = N := by rw [List.length_take, List.length_drop]; omega
  have hcv := run_text_of (P := Tryz.prog) (w := w') 27 9 5 Tryz.underlying27 Tryz.underlying5 Tryz.underlying9 g x (xs.length - (p + 4)) (bvs xs) 5 hR'.bytes ((xs.drop (p + 4)).take N) (by
   rcases hx with hx | hx
   ·
    right; rw [hlen, hx, Nat.zero_add, bvs_take, bvs_drop]
   ·
    left; exact List.eq_nil_of_length_eq_zero (by omega))
  rw [hlen] at hcv
  have HC : Hid (_ = _) := hcv
  have HR : Hid (Rd _ _ _ _ _ _) := hR'
  have HK : Hid (Keeps _ _ _) := hK'
  clear hw' hR hK2 hR' hK' hlen hcv hr hK
  go_wp2_with (refine wpList_convert_run rfl (.tmp 35) 27 9 rfl (.slice (some ⟨g, x, none⟩) N (xs.length - (p + 4))) _ w' rfl HC.out ?_)
  go_ret
  exact ⟨rfl, HR.out, HK.out⟩
def txtN (xs : List UInt8) (p : Nat) : Nat := highN ((xs.drop p).take 4)
def txtE (xs : List UInt8) (p : Nat) (er most : Int) : Int :=
 if er ≠ 0 then er else if xs.length < p + 4 then 12 else if max most 0 < (txtN xs p : Int) then 14 else if xs.length < p + 4 + txtN xs p then 12 else 0
def txtOk (xs : List UInt8) (p : Nat) (er most : Int) : Prop := er = 0 ∧ p + 4 ≤ xs.length ∧ ¬ max most 0 < (txtN xs p : Int) ∧ p + 4 + txtN xs p ≤ xs.length
def txtV (xs : List UInt8) (p : Nat) (er most : Int) : List UInt8 := if txtE xs p er most = 0 then (xs.drop (p + 4)).take (txtN xs p) else []
def txtP (xs : List UInt8) (p : Nat) (er most : Int) : Nat := if txtE xs p er most = 0 then p + 4 + txtN xs p else p
theorem rText_any (b g p : Nat) (er most : Int) (xs : List UInt8) (w : World) (hRd : Rd w b g xs p er) :
  Calls Tryz.prog 147 #[.pointer (some ⟨b, 0, none⟩), .int .i64 most] w fun e w' => e = .returned (.string ⟨(txtV xs p er most).toArray⟩) ∧ Rd w' b g xs (txtP xs p er most) (txtE xs p er most) ∧ Keeps (· = b) w w' := by
 by_cases he : er ≠ 0
 ·
  have e1 : txtE xs p er most = er := by unfold txtE; rw [if_pos he]
  have e2 : txtV xs p er most = [] := by unfold txtV; rw [e1, if_neg he]
  have e3 : txtP xs p er most = p := by unfold txtP; rw [e1, if_neg he]
  have n1 : numE xs p er 4 = er := by unfold numE; rw [if_pos he]
  have n2 : numP xs p er 4 = p := by unfold numP; rw [if_pos he]
  have := rText_fault b g p er most xs w hRd (by rw [n1]; simpa using he)
  rw [n1, n2] at this
  rw [e1, e2, e3]
  exact this
 ·
  obtain rfl : er = 0 := by omega
  by_cases h4 : xs.length < p + 4
  ·
   have e1 : txtE xs p 0 most = 12 := by unfold txtE; rw [if_neg he, if_pos h4]
   have e2 : txtV xs p 0 most = [] := by unfold txtV; rw [e1, if_neg (by decide)]
   have e3 : txtP xs p 0 most = p := by unfold txtP; rw [e1, if_neg (by decide)]
   have n1 : numE xs p 0 4 = 12 := by unfold numE; rw [if_neg he, if_pos h4]
   have n2 : numP xs p 0 4 = p := by unfold numP; rw [if_neg he, if_pos h4]
   have := rText_fault b g p 0 most xs w hRd (by rw [n1]; decide)
   rw [n1, n2] at this
   rw [e1, e2, e3]
   exact this
  ·
   by_cases hm : max most 0 < (txtN xs p : Int)
   ·
    have e1 : txtE xs p 0 most = 14 := by unfold txtE; rw [if_neg he, if_neg h4, if_pos hm]
    have e2 : txtV xs p 0 most = [] := by unfold txtV; rw [e1, if_neg (by decide)]
    have e3 : txtP xs p 0 most = p := by unfold txtP; rw [e1, if_neg (by decide)]
    rw [e1, e2, e3]
    exact rText_most b g p (txtN xs p) most xs w hRd (by omega) rfl hm
   ·
    by_cases hs : xs.length < p + 4 + txtN xs p
    ·
     have e1 : txtE xs p 0 most = 12 := by unfold txtE; rw [if_neg he, if_neg h4, if_neg hm, if_pos hs]
     have e2 : txtV xs p 0 most = [] := by unfold txtV; rw [e1, if_neg (by decide)]
     have e3 : txtP xs p 0 most = p := by unfold txtP; rw [e1, if_neg (by decide)]
     rw [e1, e2, e3]
     exact rText_short b g p (txtN xs p) most xs w hRd (by omega) rfl hm hs
    ·
     have e1 : txtE xs p 0 most = 0 := by unfold txtE; rw [if_neg he, if_neg h4, if_neg hm, if_neg hs]
     have e2 : txtV xs p 0 most = (xs.drop (p + 4)).take (txtN xs p) := by unfold txtV; rw [e1, if_pos rfl]
     have e3 : txtP xs p 0 most = p + 4 + txtN xs p := by unfold txtP; rw [e1, if_pos rfl]
     rw [e1, e2, e3]
     exact rText_ok b g p (txtN xs p) most xs w hRd (by omega) rfl hm
def endE (xs : List UInt8) (p : Nat) (er : Int) : Int := if er ≠ 0 then er else if p < xs.length then 13 else 0
end Go.Proofs.YthegceijlfflfaaGreat
