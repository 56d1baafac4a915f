import Derived.Test.YtekijhhpldnmnaaCa
namespace Go.Proofs.Ytekijhhpldnmnaa
open Go.RowKit
set_option linter.unusedVariables false
set_option linter.unusedSimpArgs false

def A0 : List UInt32 := List.replicate 16 0
def A1 : List UInt32 := ptX false A0 0 1 1 [7]
def A2 : List UInt32 := dlF false A1 0 1 1 [5]
theorem a_put : ptB false A0 0 1 1 1 = true ∧ ptE false A0 0 1 1 1 = 0 := ⟨by kernel_rfl, by kernel_rfl⟩
theorem a_dlv : dlE false A1 0 1 1 [5] = 0 := by kernel_rfl
theorem a_look : hdB false A2 5 1 1 = true ∧ lkE false A2 5 3 1 1 = 0 ∧ hdM false A2 5 1 1 = [7] := ⟨by kernel_rfl, by kernel_rfl, by kernel_rfl⟩

theorem Keeps.none {S : Nat → Prop} {w w' : World} (h : Keeps (fun _ => False) w w') : Keeps S w w' := h.mono fun _ _ e => e.elim

theorem SegW.low {w w' : World} {a : Option Addr} {ws : List UInt32} (h : SegW w a ws) (k : Keeps (fun k => w.heap.size ≤ k) w w') : SegW w' a ws := by
  rcases h with h | ⟨g, o, ha, hc⟩
  · exact .inl h
  · refine .inr ⟨g, o, ha, fun j hj => ?_⟩
    have h1 := hc j hj
    have hlt : g < w.heap.size := World.block_lt_of_cell? w _ h1
    exact cell_kept h1 k (by omega)
theorem SegI.low {w w' : World} {a : Option Addr} {ws : List Int} (h : SegI w a ws) (k : Keeps (fun k => w.heap.size ≤ k) w w') : SegI w' a ws := by
  rcases h with h | ⟨g, o, ha, hc⟩
  · exact .inl h
  · refine .inr ⟨g, o, ha, fun j hj => ?_⟩
    have h1 := hc j hj
    have hlt : g < w.heap.size := World.block_lt_of_cell? w _ h1
    exact cell_kept h1 k (by omega)

set_option maxRecDepth 20000 in
set_option maxHeartbeats 2000000 in
theorem awake_any (w : World) : Calls Try.prog 22 #[] w fun e w' => e = .returned (.bool true) ∧ Keeps (fun _ => False) w w' := by
  have HN : Hid (Calls Try.prog 15 #[.int .i64 1] w fun e w' => e = .returned (.tuple #[.pointer (some ⟨w.heap.size + 1, 0, none⟩), .int .i64 0]) ∧ Mm w' (w.heap.size + 1) w.heap.size A0 ∧ Keeps (fun _ => False) w w') := new_in 1 w (by omega) (by omega)
  obtain ⟨g, hg⟩ : ∃ g, g = w.heap.size := ⟨_, rfl⟩
  rw [← hg] at HN
  have HG : Hid (g = w.heap.size) := hg
  clear hg
  go_enter Try.func22, Try.ntmps22
  go_wp2_with fail
  refine HN.out.mono ?_
  rintro e w1 ⟨rfl, hm1, hk1⟩
  obtain ⟨W2, hW2⟩ : ∃ W2, W2 = w1.alloc (.cells #[.int .u32 7] 52) := ⟨_, rfl⟩
  have hk2 : Keeps (fun _ => False) w1 W2 := by rw [hW2]; exact (Keeps.refl _ w1).alloc _
  have hb2 : Blk W2 w1.heap.size (wvs [7]) 52 := by rw [hW2]; exact Blk.new w1 _ 52
  have hP := put_any false (g + 1) g A0 0 1 1 W2 (hm1.kept hk2 (fun e => e) (fun e => e)) (by omega) (some ⟨w1.heap.size, 0, none⟩) 1 [7] (segW_of_blk hb2)
  have HP : Hid (Calls Try.prog 16 #[.pointer (some ⟨g + 1, 0, none⟩), .int .i64 0, .int .i64 1, .int .i64 1, .slice (some ⟨w1.heap.size, 0, none⟩) 1 1] W2 fun e w' => e = .returned (.tuple #[.bool true, .int .i64 0]) ∧ Mm w' (g + 1) g A1 ∧ Keeps (· = g) W2 w') := by
    have := hP
    show Calls _ _ _ _ _
    rw [show ptB false A0 0 1 1 ([7] : List UInt32).length = true from a_put.1, show ptE false A0 0 1 1 ([7] : List UInt32).length = 0 from a_put.2] at this
    exact this
  have HK2 : Hid (Keeps (fun k => w.heap.size ≤ k) w W2 ∧ W2 = w1.alloc (.cells #[.int .u32 7] 52)) := ⟨(hk1.trans hk2 fun _ _ e => e).none, hW2⟩
  clear hP hb2 hk2 hW2 hm1 hk1 HN
  go_wp2_with fail
  rw [← HK2.out.2]
  refine HP.out.mono ?_
  rintro e w3 ⟨rfl, hm3, hk3⟩
  obtain ⟨W4, hW4⟩ : ∃ W4, W4 = w3.alloc (.cells #[.int .i64 5] 3) := ⟨_, rfl⟩
  have hk4 : Keeps (fun _ => False) w3 W4 := by rw [hW4]; exact (Keeps.refl _ w3).alloc _
  have hb4 : Blk W4 w3.heap.size [.int .i64 5] 3 := by rw [hW4]; exact Blk.new w3 _ 3
  have hs4 : SegI W4 (some ⟨w3.heap.size, 0, none⟩) [5] := .inr ⟨_, 0, rfl, fun j hj => by
    obtain rfl : j = 0 := by simp at hj; omega
    exact hb4.cell rfl⟩
  have hD := deliver_any false (g + 1) g A1 0 1 1 W4 (hm3.kept hk4 (fun e => e) (fun e => e)) (by omega) (some ⟨w3.heap.size, 0, none⟩) 1 [5] hs4 (by simp)
  rw [a_dlv] at hD
  have HD : Hid (Calls Try.prog 17 #[.pointer (some ⟨g + 1, 0, none⟩), .int .i64 0, .int .i64 1, .int .i64 1, .slice (some ⟨w3.heap.size, 0, none⟩) 1 1] W4 fun e w' => e = .returned (.int .i64 0) ∧ Mm w' (g + 1) g A2 ∧ Keeps (· = g) W4 w') := hD
  have HK4 : Hid (Keeps (fun k => w.heap.size ≤ k) w W4 ∧ W4 = w3.alloc (.cells #[.int .i64 5] 3)) := ⟨(HK2.out.1.trans hk3 fun b hb e => by have := HG.out; omega).trans hk4 fun _ _ e => e.elim, hW4⟩
  clear hD hs4 hb4 hk4 hW4 hm3 hk3 HP HK2
  go_wp2_with fail
  rw [← HK4.out.2]
  refine HD.out.mono ?_
  rintro e w5 ⟨rfl, hm5, hk5⟩
  have hL := look3_any false (g + 1) g A2 5 1 1 w5 hm5 (by omega)
  rw [a_look.1, a_look.2.1, a_look.2.2] at hL
  have HL : Hid (Calls Try.prog 18 #[.pointer (some ⟨g + 1, 0, none⟩), .int .i64 5, .int .i64 1, .int .i64 1] w5 fun e w' => LookP w5 [7] true 0 e w') := hL
  have HK5 : Hid (Keeps (fun k => w.heap.size ≤ k) w w5 ∧ Mm w5 (g + 1) g A2) := ⟨HK4.out.1.trans hk5 fun b hb e => by have := HG.out; omega, hm5⟩
  clear hL hm5 hk5 HD HK4
  go_wp2_with fail
  refine HL.out.mono ?_
  rintro e w6 ⟨a, rfl, ha, hk6⟩
  obtain ⟨G, hGs, rfl, hbG⟩ : ∃ G, w5.heap.size ≤ G ∧ a = some ⟨G, 0, none⟩ ∧ Blk w6 G (wvs [7]) 52 := by
    rcases ha with ⟨_, h⟩ | h
    · cases h
    · exact h
  have hT := tak_any false (g + 1) g A2 5 1 1 w6 (HK5.out.2.kept hk6 (fun e => e) (fun e => e)) (by omega)
  rw [a_look.1, a_look.2.1] at hT
  have HT : Hid (Calls Try.prog 19 #[.pointer (some ⟨g + 1, 0, none⟩), .int .i64 5, .int .i64 1, .int .i64 1] w6 fun e w' => e = .returned (.tuple #[.bool true, .int .i64 0]) ∧ Mm w' (g + 1) g (tkX false A2 5 1 1) ∧ Keeps (· = g) w6 w') := hT
  have HK6 : Hid (Keeps (fun k => w.heap.size ≤ k) w w6 ∧ Blk w6 G (wvs [7]) 52 ∧ G ≠ g) := ⟨HK5.out.1.trans hk6 fun _ _ e => e.elim, hbG, by have := HK5.out.2.row.lt; omega⟩
  clear hT hbG hGs hk6 ha HL HK5
  go_wp2_with fail
  refine HT.out.mono ?_
  rintro e w7 ⟨rfl, hm7, hk7⟩
  have c7 : w7.cell? ⟨G, 0, none⟩ = some (.int .u32 7) := (HK6.out.2.1.kept hk7 HK6.out.2.2).cell rfl
  have HK7 : Hid (Keeps (fun k => w.heap.size ≤ k) w w7) := HK6.out.1.trans hk7 fun b hb e => by have := HG.out; omega
  clear hm7 hk7 HT HK6
  go_wp2
  go_ret
  exact ⟨rfl, HK7.out.mono fun b hb e => by omega⟩

/-! ### Which words a call changes -/
structure OwnP (xs ys : List UInt32) (D : Bool) (p T : Int) : Prop where
  len : ys.length = xs.length
  no : D = false → ys = xs
  yes : D = true → ∃ k, k < xs.length ∧ wd xs k ≠ wd ys k
  inn : D = true → ∀ k : Nat, k < xs.length → wd xs k ≠ wd ys k → p ≤ (k : Int) ∧ (k : Int) < T

theorem lay_own (xs : List UInt32) (p : Nat) (l : List UInt32) (i : Nat) (hi : i < l.length) (hf : p + l.length ≤ xs.length) (hd : wd xs (p + i) ≠ wd l i) : OwnP xs (lay xs p l) true p (p + l.length : Nat) where
  len := lay_length _ _ _ hf
  no := fun h => by cases h
  yes := fun _ => ⟨p + i, by omega, by
    have : wd (lay xs p l) (p + i) = wd l i := by
      unfold wd
      rw [List.getD_eq_getElem?_getD, List.getD_eq_getElem?_getD, lay_get? _ _ _ hf, if_pos ⟨by omega, by omega⟩, Nat.add_sub_cancel_left]
    rw [this]; exact hd⟩
  inn := fun _ k hk hne => by
    by_cases hin : p ≤ k ∧ k < p + l.length
    · omega
    · exact absurd (by unfold wd; rw [List.getD_eq_getElem?_getD, List.getD_eq_getElem?_getD, lay_get? _ _ _ hf, if_neg hin]) hne
theorem same_own (xs : List UInt32) (p T : Int) : OwnP xs xs false p T := ⟨rfl, fun _ => rfl, fun h => (by cases h), fun h => (by cases h)⟩

theorem wd_win {xs : List UInt32} {p m i : Nat} (hi : i < m) : wd (win xs p m) i = wd xs (p + i) := by
  unfold wd
  rw [List.getD_eq_getElem?_getD, List.getD_eq_getElem?_getD, win_get?, if_pos hi]

theorem ofNat_ne {a b : Nat} (ha : a ≤ 100) (hb : b ≤ 100) (h : a ≠ b) : UInt32.ofNat a ≠ UInt32.ofNat b := fun e => h (by
  have := congrArg UInt32.toNat e
  rw [ofNat_small ha, ofNat_small hb] at this
  exact this)

theorem put_own (xs : List UInt32) (p n d : Int) (m : List UInt32) (T : Int) (hT : 0 ≤ p → p + (rsz 1 n d : Int) ≤ xs.length → T = p + (rsz 1 n d : Int)) : OwnP xs (ptX false xs p n d m) (ptB false xs p n d m.length) p T := by
  cases hB : ptB false xs p n d m.length with
  | false =>
    have : ptX false xs p n d m = xs := by unfold ptX; rw [hB]; rfl
    rw [this]; exact same_own _ _ _
  | true =>
    have hX : ptX false xs p n d m = lay xs p.toNat (enc 1 n.toNat d.toNat ((rdA xs p 1 n d).push m)) := by unfold ptX; rw [hB]; rfl
    rw [hX]
    unfold ptB at hB
    simp only [Bool.and_eq_true, decide_eq_true_iff, Bool.not_eq_true', decide_eq_false_iff_not] at hB
    obtain ⟨hE, hfull⟩ := hB
    unfold ptE at hE
    by_cases hf : fitE false n d ≠ 0
    · rw [if_pos hf] at hE; exact absurd hE hf
    · rw [if_neg hf] at hE
      by_cases hk : m.length < 1 ∨ n < (m.length : Int)
      · rw [if_pos hk] at hE; omega
      · rw [if_neg hk] at hE
        obtain ⟨_, p', n', d', rfl, rfl, rfl, L⟩ := lkE_ok (.inl rfl) hE
        have hrl : (rdA xs p' 1 n' d').ms.length < d' := by have := L.ok.m; have : ¬ (rdA xs p' 1 n' d').ms.length = d' := hfull; omega
        have hok := L.ok.push hrl (m := m) ⟨by omega, by omega⟩
        have hlen := enc_length (.inl rfl) hok
        have hfit := L.fit
        have hrz := rsz_nat 1 n' d'
        have ho := lay_own xs p' (enc 1 n' d' ((rdA xs p' 1 n' d').push m)) 0 (by rw [hlen]; omega) (by rw [hlen]; omega) (by
          rw [← wd_win (m := rsz 1 n' d') (by omega), L.enc, enc_head (.inl rfl) 0 (by omega), enc_head (.inl rfl) 0 (by omega)]
          show UInt32.ofNat _ ≠ UInt32.ofNat ((rdA xs p' 1 n' d').ms ++ [m]).length
          rw [List.length_append]
          have := L.d2
          exact ofNat_ne (by omega) (by simp; omega) (by simp))
        rw [hT (by omega) (by omega)]
        rw [hlen, ← hrz] at ho
        exact ho

theorem tak_own (xs : List UInt32) (p n d : Int) (T : Int) (hT : 0 ≤ p → p + (rsz 3 n d : Int) ≤ xs.length → T = p + (rsz 3 n d : Int)) : OwnP xs (tkX false xs p n d) (hdB false xs p n d) p T := by
  cases hB : hdB false xs p n d with
  | false =>
    have : tkX false xs p n d = xs := by unfold tkX; rw [hB]; rfl
    rw [this]; exact same_own _ _ _
  | true =>
    have hX : tkX false xs p n d = lay xs p.toNat (enc 3 n.toNat d.toNat ((rdA xs p 3 n d).pop d.toNat)) := by unfold tkX; rw [hB]; rfl
    rw [hX]
    unfold hdB at hB
    simp only [Bool.and_eq_true, decide_eq_true_iff, Bool.not_eq_true', List.isEmpty_eq_false_iff] at hB
    obtain ⟨hE, hne⟩ := hB
    obtain ⟨_, p', n', d', rfl, rfl, rfl, L⟩ := lkE_ok (.inr rfl) hE
    have hok := L.ok.pop
    have hlen := enc_length (.inr rfl) hok
    have hfit := L.fit
    have hrz := rsz_nat 3 n' d'
    have hl0 : (rdA xs p' 3 n' d').ms.length ≠ 0 := fun e => hne (List.eq_nil_of_length_eq_zero e)
    have ho := lay_own xs p' (enc 3 n' d' ((rdA xs p' 3 n' d').pop d')) 1 (by rw [hlen]; omega) (by rw [hlen]; omega) (by
      rw [← wd_win (m := rsz 3 n' d') (by omega), L.enc, enc_head (.inr rfl) 1 (by omega), enc_head (.inr rfl) 1 (by omega)]
      show UInt32.ofNat _ ≠ UInt32.ofNat (rdA xs p' 3 n' d').ms.tail.length
      rw [List.length_tail]
      have := L.d2
      have := L.ok.m
      exact ofNat_ne (by omega) (by omega) (by omega))
    rw [hT (by omega) (by omega)]
    rw [hlen, ← hrz] at ho
    exact ho

end Go.Proofs.Ytekijhhpldnmnaa
