import Derived.Test.YtpccdhoaicabcaaRd
namespace Go.Proofs.Ytpccdhoaicabcaa
open Go.RowKit
set_option linter.unusedVariables false

set_option maxHeartbeats 400000 in
theorem rrun_any (b g n : Nat) (xs : List UInt32) (p : Int) (w : World) (h : Rn w b g n xs) (hp1 : -9223372036854775808 ≤ p) (hp2 : p ≤ 9223372036854775807) :
    Calls Try.prog 55 #[.pointer (some ⟨b, 0, none⟩), .int .i64 p, .int .i64 1] w fun e w' => e = .returned (.bool (inR p (n * 16 : Nat))) ∧ w' = w := by
  have cb := h.blk.cell (i := 0) rfl
  have hs := h.small
  rw [h.len] at cb
  obtain ⟨N, hN⟩ : ∃ N, N = n * 16 := ⟨_, rfl⟩
  rw [← hN] at cb ⊢
  have hN2 : (N : Int) ≤ 16384 := by omega
  clear h hs hN
  by_cases h0 : 0 ≤ p
  · by_cases h1 : p ≤ N
    · have h3 : IntKind.i64.wrap ((N : Int) - p) = N - p := by rw [IntKind.wrap_i64]; omega
      by_cases h2 : p < N
      · have h4 : (1 : Int) ≤ N - p := by omega
        go_enter Try.func55, Try.ntmps55
        go_wp2
        go_ret
        exact ⟨ret_bool (by rw [inR_true h0 h2]), rfl⟩
      · have h4 : ¬ (1 : Int) ≤ N - p := by omega
        go_enter Try.func55, Try.ntmps55
        go_wp2
        go_ret
        exact ⟨ret_bool (by rw [inR_false (by omega)]), rfl⟩
    · go_enter Try.func55, Try.ntmps55
      go_wp2
      go_ret
      exact ⟨ret_bool ((inR_false (by omega)).symm), rfl⟩
  · go_enter Try.func55, Try.ntmps55
    go_wp2
    go_ret
    exact ⟨ret_bool ((inR_false (by omega)).symm), rfl⟩

set_option maxHeartbeats 400000 in
theorem rwrite_in (b g n : Nat) (xs : List UInt32) (p : Nat) (x : UInt32) (w : World) (h : Rn w b g n xs) (hp : p < xs.length) :
    Calls Try.prog 30 #[.pointer (some ⟨b, 0, none⟩), .int .i64 p, .int .u32 (x.toNat : Int)] w fun e w' => e = .returned (.int .i64 0) ∧ Rn w' b g n (lay xs p [x]) ∧ Keeps (· = g) w w' := by
  have H1 := rrun_any b g n xs p w h (by omega) (by have := h.small; have := h.len; omega)
  rw [inR_true (by omega) (by rw [← h.len]; omega)] at H1
  have H1 : Hid (Calls _ _ _ _ _) := H1
  have cb := h.blk.cell (i := 0) rfl
  have cw := h.row.cell (wvs_get xs p hp)
  have zw := h.row.frozen p
  have HR : Hid (Rn (w.setCell ⟨g, p, none⟩ (.int .u32 (x.toNat : Int))) b g n (lay xs p [x])) := h.set p x hp
  obtain ⟨v, hv⟩ : ∃ v : Nat, v = (xs[p]'hp).toNat := ⟨_, rfl⟩
  rw [← hv] at cw
  obtain ⟨N, hN⟩ : ∃ N, N = xs.length := ⟨_, rfl⟩
  rw [← hN] at cb hp
  obtain ⟨X, hX⟩ : ∃ X : Nat, X = x.toNat := ⟨_, rfl⟩
  rw [← hX] at HR ⊢
  have hp' : (p : Int) < N := by omega
  clear h hv hN hX
  go_enter Try.func30, Try.ntmps30
  go_wp2_with fail
  refine H1.out.mono ?_
  rintro e w1 ⟨rfl, hw⟩
  obtain rfl := hw.symm
  clear hw
  go_wp2
  go_ret
  exact ⟨rfl, HR.out, (Keeps.refl (· = g) w).setCell _ _ fun _ => rfl⟩

set_option maxHeartbeats 400000 in
theorem rwrite_out (b g n : Nat) (xs : List UInt32) (p : Int) (x : Nat) (w : World) (h : Rn w b g n xs) (hp1 : -9223372036854775808 ≤ p) (hp2 : p ≤ 9223372036854775807) (hp : ¬ (0 ≤ p ∧ p < xs.length)) :
    Calls Try.prog 30 #[.pointer (some ⟨b, 0, none⟩), .int .i64 p, .int .u32 x] w fun e w' => e = .returned (.int .i64 51) ∧ w' = w := by
  have H1 := rrun_any b g n xs p w h hp1 hp2
  rw [inR_false (by rw [← h.len]; exact hp)] at H1
  have H1 : Hid (Calls _ _ _ _ _) := H1
  clear h hp hp1 hp2
  go_enter Try.func30, Try.ntmps30
  go_wp2_with fail
  refine H1.out.mono ?_
  rintro e w1 ⟨rfl, hw⟩
  obtain rfl := hw.symm
  clear hw
  go_wp2
  go_ret
  exact ⟨rfl, rfl⟩

set_option maxRecDepth 20000 in
set_option maxHeartbeats 400000 in
theorem rnew_in (n : Nat) (w : World) (h1 : 1 ≤ n) (h2 : n ≤ 1024) :
    Calls Try.prog 23 #[.int .i64 n] w fun e w' => e = .returned (.tuple #[.pointer (some ⟨w.heap.size + 1, 0, none⟩), .int .i64 0]) ∧ Rn w' (w.heap.size + 1) w.heap.size n (List.replicate (n * 16) 0) ∧ Keeps (fun _ => False) w w' := by
  have hmk := run_make_words (w := w) (n * 16) (by omega)
  obtain ⟨W1, hW⟩ : ∃ W1, W1 = w.alloc (.cells (wvs (List.replicate (n * 16) 0)).toArray 27) := ⟨_, rfl⟩
  rw [← hW] at hmk
  have hK1 : Keeps (fun _ => False) w W1 := by rw [hW]; exact (Keeps.refl _ w).alloc _
  have hB1 : Blk W1 w.heap.size (wvs (List.replicate (n * 16) 0)) 27 := by rw [hW]; exact Blk.new w _ 27
  have hsz : W1.heap.size = w.heap.size + 1 := by rw [hW]; simp
  have e1 : ((n * 16 : Nat) : Int) = 16 * (n : Int) := by omega
  rw [e1] at hmk
  have HM : Hid (_ = _) := hmk
  have HH : Hid (Keeps (fun _ => False) w W1 ∧ Blk W1 w.heap.size (wvs (List.replicate (n * 16) 0)) 27 ∧ W1.heap.size = w.heap.size + 1 ∧ n ≤ 1024) := ⟨hK1, hB1, hsz, h2⟩
  have hn1 : (1 : Int) ≤ n := by omega
  have hn2 : (n : Int) ≤ 1024 := by omega
  obtain ⟨N, hN⟩ : ∃ N, N = n * 16 := ⟨_, rfl⟩
  rw [← hN] at HM HH ⊢
  have HN : Hid (N = n * 16) := hN
  clear hmk hW hK1 hB1 hsz e1 h1 h2 hN
  go_enter Try.func23, Try.ntmps23
  go_wp2_with (at_make; refine wpList_make_run rfl (.tmp 11) (.tmp 11) 33 rfl (.int .i64 ((16 : Int) * n)) (.int .i64 ((16 : Int) * n)) (.slice (some ⟨w.heap.size, 0, none⟩) N N) W1 rfl rfl HM.out ?_; refine Hid.out ?_)
  unfold Hid
  go_wp2
  go_ret2
  have hB := Blk.new W1 #[.slice (some ⟨w.heap.size, 0, none⟩) N N] 40
  rw [HH.out.2.2.1] at hB
  have e2 : (List.replicate N (0 : UInt32)).length = N := List.length_replicate
  refine ⟨by rw [← HH.out.2.2.1]; rfl, ⟨by omega, ?_, HH.out.2.1.alloc _, HH.out.2.2.2, by rw [e2]; exact HN.out⟩, HH.out.1.alloc _⟩
  rw [e2]; exact hB

end Go.Proofs.Ytpccdhoaicabcaa
