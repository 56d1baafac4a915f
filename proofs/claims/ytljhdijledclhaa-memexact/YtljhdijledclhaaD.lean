import Derived.Test.YtljhdijledclhaaC
namespace Go.Proofs.Ytljhdijledclhaa
open Go.RowKit
set_option linter.unusedVariables false

theorem fill_step (xs : List UInt32) (p j : Nat) (x : UInt32) (h : p + j < xs.length) :
    (wvs (lay xs p (List.replicate j x))).set (p + j) (.int .u32 (x.toNat : Int)) = wvs (lay xs p (List.replicate (j + 1) x)) := by
  have e : (lay xs p (List.replicate j x)).set (p + j) x = lay xs p (List.replicate (j + 1) x) := by
    have hl : (List.take p xs ++ List.replicate j x).length = p + j := by simp; omega
    unfold lay
    rw [List.set_append_right _ _ (by omega), hl, Nat.sub_self, List.length_replicate, List.length_replicate, List.drop_eq_getElem_cons h, List.set_cons_zero, List.replicate_succ']
    simp [Nat.add_assoc]
  rw [← e]
  unfold wvs
  rw [List.map_set]

theorem lay_none (xs : List UInt32) (p : Nat) : lay xs p [] = xs := by simp [lay]

set_option maxHeartbeats 400000 in
theorem fill_zero (b g : Nat) (xs : List UInt32) (p n : Nat) (w : World) (h : Mm w b g xs) (hf : p + n ≤ xs.length) :
    Calls Try.prog 41 #[.pointer (some ⟨b, 0, none⟩), .int .i64 p, .int .i64 n, .int .u32 0] w fun e w' => e = .returned (.int .i64 0) ∧ Mm w' b g (lay xs p (List.replicate n 0)) ∧ Keeps (· = g) w w' := by
  have HC : Hid (Calls _ _ _ _ _) := run_in b g xs p n w h hf
  have hfit := at0_fit hf
  have hM := h.laid (at0 xs.length p) (List.replicate n 0) (by rw [List.length_replicate]; exact hfit)
  rw [lay_at0 xs p _ (by rw [List.length_replicate]; exact hf), ← rep_wvs] at hM
  have hcl := fun ty => run_clear_wb (w := w) ty g (at0 xs.length p) n (xs.length - p) _ 26 h.row (by rw [wvs_length]; exact hfit)
  obtain ⟨W1, hW1⟩ : ∃ W1, W1 = w.setRow g (List.take (at0 xs.length p) (wvs xs) ++ List.replicate n (Value.int .u32 0) ++ List.drop (at0 xs.length p + n) (wvs xs)).toArray := ⟨_, rfl⟩
  have hK : Keeps (· = g) w W1 := by rw [hW1]; exact setRow_keeps w g _
  rw [← hW1] at hcl
  have hM : Mm W1 b g (lay xs p (List.replicate n 0)) := by rw [hW1]; exact hM
  have HM : Hid (Mm _ _ _ _) := hM
  have HK : Hid (Keeps _ _ _) := hK
  obtain ⟨L, hL⟩ : ∃ L, L = xs.length - p := ⟨_, rfl⟩
  obtain ⟨o, ho⟩ : ∃ o, o = at0 xs.length p := ⟨_, rfl⟩
  rw [← hL, ← ho] at HC hcl
  have HCL : Hid (∀ ty, _) := hcl
  clear hcl hM hK h hf hL ho hW1 hfit
  go_enter Try.func41, Try.ntmps41
  go_wp2_with fail
  refine HC.out.mono ?_
  rintro e w1 ⟨rfl, hw⟩
  obtain rfl := hw.symm
  clear hw HC
  go_wp2_with (refine isClear (.tmp 24) 27 rfl ?_; go_must (refine wpList_clear_run rfl (.tmp 24) 27 rfl (.slice (some ⟨g, o, none⟩) n L) (.tuple #[]) W1 rfl HCL.out ?_))
  go_ret
  exact ⟨rfl, HM.out, HK.out⟩

set_option maxHeartbeats 400000 in
theorem fill_some (b g : Nat) (xs : List UInt32) (p n : Nat) (x : UInt32) (w : World) (h : Mm w b g xs) (hf : p + n ≤ xs.length) (hx : 0 < x.toNat) :
    Calls Try.prog 41 #[.pointer (some ⟨b, 0, none⟩), .int .i64 p, .int .i64 n, .int .u32 (x.toNat : Int)] w fun e w' => e = .returned (.int .i64 0) ∧ Mm w' b g (lay xs p (List.replicate n x)) ∧ Keeps (· = g) w w' := by
  have HC : Hid (Calls _ _ _ _ _) := run_in b g xs p n w h hf
  have hs := h.small
  have HF : Hid (p + n ≤ xs.length) := hf
  obtain ⟨y, hy⟩ : ∃ y : Nat, y = x.toNat := ⟨_, rfl⟩
  have HY : Hid (y = x.toNat) := hy
  obtain ⟨L, hL⟩ : ∃ L, L = xs.length - p := ⟨_, rfl⟩
  obtain ⟨o, ho⟩ : ∃ o, o = at0 xs.length p := ⟨_, rfl⟩
  have HO : Hid (0 < n → o = p) := fun h0 => by rw [ho]; exact at0_in hf h0
  rw [← hL, ← ho] at HC
  have hn : n ≤ L := by omega
  have hn1 : (n : Int) ≤ 16384 := by omega
  have hp1 : (p : Int) ≤ 16384 := by omega
  rw [← hy] at hx ⊢
  have hx0 : ¬ (y = 0) := by omega
  have hx0 : ((y : Int) == 0) = false := by simp; omega
  have HH : Hid (Mm w b g xs) := h
  clear h hf hL ho hy hs hx
  go_enter Try.func41, Try.ntmps41
  go_wp2_with fail
  refine HC.out.mono ?_
  rintro e w1 ⟨rfl, hw⟩
  obtain rfl := hw.symm
  clear hw HC
  go_wp2
  go_loopw [27] (fun i wr => ∃ j : Nat, j ≤ n ∧ i = .int .i64 j ∧ Mm wr b g (lay xs p (List.replicate j x)) ∧ Keeps (· = g) w wr)
    (fun i _ => n - (intOf i).toNat)
  case atStart => exact ⟨0, by omega, rfl, by rw [List.replicate_zero, lay_none]; exact HH.out, Keeps.refl _ _⟩
  case round =>
    obtain ⟨j, hj, rfl, hBr, hKr⟩ := hrel
    have HB : Hid (Mm wr _ _ _) := hBr
    have HK : Hid (Keeps (· = g) w wr) := hKr
    clear hBr hKr
    by_cases hlt : j < n
    · have hll : (lay xs p (List.replicate j x)).length = xs.length := lay_length _ _ _ (by have := HF.out; rw [List.length_replicate]; omega)
      have hpj : p + j < (lay xs p (List.replicate j x)).length := by have := HF.out; omega
      have hc := HB.out.row.cell (wvs_get _ (p + j) hpj)
      have hz := HB.out.row.frozen (p + j)
      obtain ⟨v, hv⟩ : ∃ v : Nat, v = ((lay xs p (List.replicate j x))[p + j]).toNat := ⟨_, rfl⟩
      rw [← hv] at hc
      obtain rfl := HO.out (by omega)
      have hM : Mm (wr.setCell ⟨g, o + j, none⟩ (.int .u32 (y : Int))) b g (lay xs o (List.replicate (j + 1) x)) := by
        have h0 := HB.out
        have hl2 : (lay xs o (List.replicate (j + 1) x)).length = xs.length := lay_length _ _ _ (by have := HF.out; rw [List.length_replicate]; omega)
        refine ⟨h0.ne, ?_, ?_, by rw [hl2, ← hll]; exact h0.small⟩
        · rw [hl2, ← hll]; exact h0.blk.setCell_ne h0.ne _
        · rw [HY.out, ← fill_step xs o j x (by omega)]; exact h0.row.setCell _ _
      have hK2 : Keeps (· = g) w (wr.setCell ⟨g, o + j, none⟩ (.int .u32 (y : Int))) := HK.out.setCell _ _ fun _ => rfl
      have HM : Hid (Mm _ _ _ _) := hM
      have HK2 : Hid (Keeps _ _ _) := hK2
      clear hM hK2 hll hpj hv
      go_wp2
      go_roundw
      case rel => exact ⟨j + 1, by omega, by go_num, HM.out, HK2.out⟩
      case measure => simp [intOf]; omega
    · obtain rfl : j = n := by omega
      go_wp2
      go_ret
      exact ⟨rfl, HB.out, HK.out⟩

set_option maxHeartbeats 400000 in
theorem fill_out (b g : Nat) (xs : List UInt32) (p n : Int) (x : Nat) (w : World) (h : Mm w b g xs) (hf : ¬ (0 ≤ p ∧ 0 ≤ n ∧ p + n ≤ xs.length)) (hp : p ≤ 9223372036854775807) :
    Calls Try.prog 41 #[.pointer (some ⟨b, 0, none⟩), .int .i64 p, .int .i64 n, .int .u32 x] w fun e w' => e = .returned (.int .i64 51) ∧ w' = w := by
  have HC : Hid (Calls _ _ _ _ _) := run_out b g xs p n w h hf hp
  clear h hf hp
  go_enter Try.func41, Try.ntmps41
  go_wp2_with fail
  refine HC.out.mono ?_
  rintro e w1 ⟨rfl, hw⟩
  obtain rfl := hw.symm
  clear hw HC
  go_wp2
  go_ret
  exact ⟨rfl, rfl⟩

set_option maxHeartbeats 400000 in
theorem move_in (b g : Nat) (xs : List UInt32) (p q n : Nat) (w : World) (h : Mm w b g xs) (hf : p + n ≤ xs.length) (hq : q + n ≤ xs.length) :
    Calls Try.prog 42 #[.pointer (some ⟨b, 0, none⟩), .int .i64 p, .int .i64 q, .int .i64 n] w fun e w' => e = .returned (.int .i64 0) ∧ Mm w' b g (lay xs p ((xs.drop q).take n)) ∧ Keeps (· = g) w w' := by
  have HC : Hid (Calls _ _ _ _ _) := run_in b g xs p n w h hf
  have HD : Hid (Calls _ _ _ _ _) := run_in b g xs q n w h hq
  have hlen : ((xs.drop q).take n).length = n := by simp; omega
  have hfit := at0_fit hf
  have hM := h.laid (at0 xs.length p) ((xs.drop q).take n) (by rw [hlen]; exact hfit)
  rw [lay_at0 xs p _ (by rw [hlen]; exact hf)] at hM
  have hseg : SegW w (some ⟨g, at0 xs.length q, none⟩) ((xs.drop q).take n) := by
    by_cases h0 : 0 < n
    · rw [at0_in hq h0]; exact segW_part h.row q n hq
    · obtain rfl : n = 0 := by omega
      exact .inl (by simp)
  have hcp := fun ty => run_copy_wb (w := w) ty g (at0 xs.length p) (xs.length - p) _ 26 h.row (some ⟨g, at0 xs.length q, none⟩) (xs.length - q) _ hseg (by rw [wvs_length, hlen]; exact hfit)
  obtain ⟨W1, hW1⟩ : ∃ W1, W1 = w.setRow g (List.take (at0 xs.length p) (wvs xs) ++ wvs ((xs.drop q).take n) ++ List.drop (at0 xs.length p + ((xs.drop q).take n).length) (wvs xs)).toArray := ⟨_, rfl⟩
  have hK : Keeps (· = g) w W1 := by rw [hW1]; exact setRow_keeps w g _
  rw [← hW1] at hM hcp
  rw [hlen] at hcp
  have HM : Hid (Mm _ _ _ _) := hM
  have HK : Hid (Keeps _ _ _) := hK
  obtain ⟨L, hL⟩ : ∃ L, L = xs.length - p := ⟨_, rfl⟩
  obtain ⟨M, hM'⟩ : ∃ M, M = xs.length - q := ⟨_, rfl⟩
  obtain ⟨o, ho⟩ : ∃ o, o = at0 xs.length p := ⟨_, rfl⟩
  obtain ⟨r, hr⟩ : ∃ r, r = at0 xs.length q := ⟨_, rfl⟩
  rw [← hL, ← ho] at HC
  rw [← hM', ← hr] at HD
  rw [← hL, ← ho, ← hM', ← hr] at hcp
  have HCP : Hid (∀ ty, _) := hcp
  clear hcp hM hK h hf hL ho hW1 hfit hr hM' hseg hq hlen
  go_enter Try.func42, Try.ntmps42
  go_wp2_with fail
  refine HC.out.mono ?_
  rintro e w1 ⟨rfl, hw⟩
  obtain rfl := hw.symm
  clear hw HC
  go_wp2_with fail
  refine HD.out.mono ?_
  rintro e w1 ⟨rfl, hw⟩
  obtain rfl := hw.symm
  clear hw HD
  go_wp2_with (refine isCopy (.tmp 32) (.tmp 33) 27 27 rfl ?_; go_must (refine wpList_copy_run rfl (.tmp 32) (.tmp 33) 27 27 rfl (.slice (some ⟨g, o, none⟩) n L) (.slice (some ⟨g, r, none⟩) n M) (goInt n) W1 rfl rfl HCP.out ?_))
  go_ret
  exact ⟨rfl, HM.out, HK.out⟩

set_option maxHeartbeats 400000 in
theorem move_out (b g : Nat) (xs : List UInt32) (p q n : Int) (w : World) (h : Mm w b g xs) (hf : ¬ (0 ≤ p ∧ 0 ≤ n ∧ p + n ≤ xs.length)) (hp : p ≤ 9223372036854775807) :
    Calls Try.prog 42 #[.pointer (some ⟨b, 0, none⟩), .int .i64 p, .int .i64 q, .int .i64 n] w fun e w' => e = .returned (.int .i64 51) ∧ w' = w := by
  have HC : Hid (Calls _ _ _ _ _) := run_out b g xs p n w h hf hp
  clear h hf hp
  go_enter Try.func42, Try.ntmps42
  go_wp2_with fail
  refine HC.out.mono ?_
  rintro e w1 ⟨rfl, hw⟩
  obtain rfl := hw.symm
  clear hw HC
  go_wp2
  go_ret
  exact ⟨rfl, rfl⟩

set_option maxHeartbeats 400000 in
theorem move_out2 (b g : Nat) (xs : List UInt32) (p n : Nat) (q : Int) (w : World) (h : Mm w b g xs) (hf : p + n ≤ xs.length) (hq : ¬ (0 ≤ q ∧ 0 ≤ (n : Int) ∧ q + n ≤ xs.length)) (hp : q ≤ 9223372036854775807) :
    Calls Try.prog 42 #[.pointer (some ⟨b, 0, none⟩), .int .i64 p, .int .i64 q, .int .i64 n] w fun e w' => e = .returned (.int .i64 51) ∧ w' = w := by
  have HC : Hid (Calls _ _ _ _ _) := run_in b g xs p n w h hf
  have HD : Hid (Calls _ _ _ _ _) := run_out b g xs q n w h hq hp
  obtain ⟨L, hL⟩ : ∃ L, L = xs.length - p := ⟨_, rfl⟩
  obtain ⟨o, ho⟩ : ∃ o, o = at0 xs.length p := ⟨_, rfl⟩
  rw [← hL, ← ho] at HC
  clear h hf hp hq ho hL
  go_enter Try.func42, Try.ntmps42
  go_wp2_with fail
  refine HC.out.mono ?_
  rintro e w1 ⟨rfl, hw⟩
  obtain rfl := hw.symm
  clear hw HC
  go_wp2_with fail
  refine HD.out.mono ?_
  rintro e w1 ⟨rfl, hw⟩
  obtain rfl := hw.symm
  clear hw HD
  go_wp2
  go_ret
  exact ⟨rfl, rfl⟩

set_option maxHeartbeats 400000 in
theorem sameWords_any (g h : Nat) (xs : List UInt32) (c d : Nat) (w : World) (h1 : Blk w g (wvs xs) 26) (h2 : Blk w h (wvs xs) 26) (hl : xs.length ≤ 16384) :
    Calls Try.prog 20 #[.slice (some ⟨g, 0, none⟩) xs.length c, .slice (some ⟨h, 0, none⟩) xs.length d] w fun e w' => e = .returned (.bool true) ∧ Keeps (fun _ => False) w w' := by
  obtain ⟨n, hn⟩ : ∃ n, n = xs.length := ⟨_, rfl⟩
  have HN : Hid (n = xs.length) := hn
  rw [← hn] at hl ⊢
  have H1 : Hid (Blk _ _ _ _) := h1
  have H2 : Hid (Blk _ _ _ _) := h2
  have hn1 : (n : Int) ≤ 16384 := by omega
  clear hn h1 h2 hl
  go_enter Try.func20, Try.ntmps20
  go_wp2
  go_loopw [5] (fun i wr => ∃ j : Nat, j ≤ n ∧ i = .int .i64 j ∧ Keeps (fun _ => False) w wr)
    (fun i _ => n - (intOf i).toNat)
  case atStart => exact ⟨0, by omega, rfl, Keeps.refl _ _⟩
  case round =>
    obtain ⟨j, hj, rfl, hKr⟩ := hrel
    have HK : Hid (Keeps (fun _ => False) w wr) := hKr
    clear hKr
    by_cases hlt : j < n
    · have hjx : j < xs.length := by have := HN.out; omega
      have c1 := (H1.out.kept HK.out (fun e => e)).cell (wvs_get xs j hjx)
      have c2 := (H2.out.kept HK.out (fun e => e)).cell (wvs_get xs j hjx)
      obtain ⟨v, hv⟩ : ∃ v : Nat, v = (xs[j]).toNat := ⟨_, rfl⟩
      rw [← hv] at c1 c2
      clear hv
      go_wp2
      go_quiet (fail)
      go_wp2
      go_roundw
      case rel => exact ⟨j + 1, by omega, by go_num, HK.out.drewN _⟩
      case measure => simp [intOf]; omega
    · obtain rfl : j = n := by omega
      go_wp2
      go_ret
      exact ⟨rfl, HK.out⟩

end Go.Proofs.Ytljhdijledclhaa
