import Derived.Test.YtekijhhpldnmnaaR
namespace Go.Proofs.Ytekijhhpldnmnaa
open Go.RowKit
set_option linter.unusedVariables false
set_option linter.unusedSimpArgs false

set_option maxRecDepth 20000 in
set_option maxHeartbeats 1000000 in
theorem count_no (nil : Bool) (b g : Nat) (xs : List UInt32) (p : Int) (n d : Int) (w : World) (hm : nil = false → Mm w b g xs) (hp : p ≤ 9223372036854775807) (he : lkE nil xs p 3 n d ≠ 0) :
    Calls Try.prog 20 #[mpv nil b, .int .i64 p, .int .i64 n, .int .i64 d] w fun e w' => e = .returned (.tuple #[.int .i64 0, .int .u32 0, .int .i64 (lkE nil xs p 3 n d)]) ∧ Keeps (fun _ => False) w w' := by
  have HC : Hid (Calls Try.prog 39 #[mpv nil b, .int .i64 p, .int .i64 3, .int .i64 n, .int .i64 d] w fun e w' => e = .returned (.tuple #[rw0, .int .i64 (lkE nil xs p 3 n d)]) ∧ Keeps (fun _ => False) w w') := look_no nil b g xs p 3 n d w hm (by omega) hp he
  obtain ⟨E, hE⟩ : ∃ E, E = lkE nil xs p 3 n d := ⟨_, rfl⟩
  rw [← hE] at HC he ⊢
  have hE0 : (E != 0) = true := bne_iff_ne.2 he
  obtain ⟨v, hv⟩ : ∃ v, v = (if nil then (none : Option Addr) else some ⟨b, 0, none⟩) := ⟨_, rfl⟩
  unfold mpv at HC ⊢
  rw [← hv] at HC ⊢
  clear hE he hv hm hp
  go_enter Try.func20, Try.ntmps20
  go_wp2_with fail
  refine HC.out.mono ?_
  rintro e w2 ⟨rfl, hk2⟩
  have HK2 : Hid (Keeps _ _ _) := hk2
  clear hk2 HC
  go_wp2
  go_returns
  exact ⟨rfl, HK2.out.alloc _⟩

set_option maxRecDepth 20000 in
set_option maxHeartbeats 1000000 in
theorem count_yes (b g : Nat) (xs : List UInt32) (p n d : Nat) (r : Rw) (w : World) (hm : Mm w b g xs) (L : Lies xs p 3 n d r) :
    Calls Try.prog 20 #[.pointer (some ⟨b, 0, none⟩), .int .i64 p, .int .i64 n, .int .i64 d] w fun e w' => e = .returned (.tuple #[.int .i64 (r.ms.length : Nat), .int .u32 (r.lost.toNat : Nat), .int .i64 0]) ∧ Keeps (fun _ => False) w w' := by
  have hcnt := cnt_enc (h := 3) (by omega) L.ok L.d2
  obtain ⟨C, hC⟩ : ∃ C, C = r.ms.length := ⟨_, rfl⟩
  rw [← hC] at hcnt
  have HCN : Hid (cntW 3 (enc 3 n d r) = C) := hcnt
  rw [← hC]
  have hlo : wd (enc 3 n d r) 2 = r.lost := enc_head (.inr rfl) 2 (by decide)
  obtain ⟨X, hX⟩ : ∃ X, X = r.lost.toNat := ⟨_, rfl⟩
  rw [← hX]
  have HLO : Hid ((wd (enc 3 n d r) 2).toNat = X) := by rw [hlo]; exact hX.symm
  have HC : Hid (Calls Try.prog 39 #[.pointer (some ⟨b, 0, none⟩), .int .i64 p, .int .i64 3, .int .i64 n, .int .i64 d] w fun e w' => ∃ G, w.heap.size ≤ G ∧ e = .returned (.tuple #[.agg #[.int .i64 p, .int .i64 3, .int .i64 n, .int .i64 d, .slice (some ⟨G, 0, none⟩) (rsz 3 n d) (rsz 3 n d)], .int .i64 0]) ∧ Rb w' G 3 n d (enc 3 n d r) ∧ Keeps (fun _ => False) w w') := look_yes b g xs p 3 n d r w hm (by omega) L
  have HL : Hid (Mm w b g xs ∧ Lies xs p 3 n d r) := ⟨hm, L⟩
  have hlen := enc_length (h := 3) (by omega) L.ok
  have hML : rsz 3 n d = (enc 3 n d r).length := by rw [hlen, rsz_nat]
  have hM2 := L.fit
  obtain ⟨M, hM⟩ : ∃ M, M = rsz 3 n d := ⟨_, rfl⟩
  rw [← hM] at HC hML hM2
  have HM : Hid (M = (enc 3 n d r).length ∧ p + M ≤ xs.length) := ⟨hML, hM2⟩
  clear hM hML hM2 hlen hm L hC hcnt hlo hX
  go_enter Try.func20, Try.ntmps20
  go_wp2_with fail
  refine HC.out.mono ?_
  rintro e w2 ⟨G, hG, rfl, hR, hk2⟩
  obtain ⟨W3, hW3⟩ : ∃ W3, W3 = w2.alloc (.cells #[.int .i64 p, .int .i64 3, .int .i64 n, .int .i64 d, .slice (some ⟨G, 0, none⟩) M M] 75) := ⟨_, rfl⟩
  have hk3 : Keeps (fun _ => False) w2 W3 := by rw [hW3]; exact (Keeps.refl _ w2).alloc _
  have hR3 := hR.grown hk3
  have HG2 : Hid (G < w2.heap.size) := hR.blk.lt
  have HB3 : Hid (W3 = w2.alloc (.cells #[.int .i64 p, .int .i64 3, .int .i64 n, .int .i64 d, .slice (some ⟨G, 0, none⟩) M M] 75) ∧ Keeps (fun _ => False) w W3 ∧ Rb W3 G 3 n d (enc 3 n d r) ∧ w.heap.size ≤ G ∧ Blk W3 w2.heap.size (#[.int .i64 p, .int .i64 3, .int .i64 n, .int .i64 d, .slice (some ⟨G, 0, none⟩) M M] : Array Value).toList 75) := ⟨hW3, hk2.trans hk3 fun _ _ e => e, hR3, hG, by rw [hW3]; exact Blk.new w2 _ 75⟩
  have HZ : Hid (∀ W1, Keeps (fun _ => False) W3 W1 → Calls Try.prog 47 #[.agg #[.int .i64 p, .int .i64 3, .int .i64 n, .int .i64 d, .slice (some ⟨G, 0, none⟩) M M]] W1 fun e w' => e = .returned (.int .i64 C) ∧ Keeps (fun _ => False) W3 w') := fun W1 k => by
    have q := size_on p G 3 n d M _ hR3 HM.out.1 W1 k
    rw [HCN.out] at q
    exact q
  obtain ⟨Q, hQ⟩ : ∃ Q, Q = w2.heap.size := ⟨_, rfl⟩
  have hcl : ∀ W1, Keeps (fun _ => False) W3 W1 → W1.cell? ⟨Q, 0, none⟩ = some (.int .i64 p) ∧ W1.cell? ⟨Q, 1, none⟩ = some (.int .i64 3) ∧ W1.cell? ⟨Q, 2, none⟩ = some (.int .i64 n) ∧ W1.cell? ⟨Q, 3, none⟩ = some (.int .i64 d) ∧ W1.cell? ⟨Q, 4, none⟩ = some (.slice (some ⟨G, 0, none⟩) M M) ∧ W1.cell? ⟨G, 2, none⟩ = some (.int .u32 X) := fun W1 k => by
    have hb := HB3.out.2.2.2.2.kept k fun e => e
    rw [← hQ] at hb
    refine ⟨hb.cell rfl, hb.cell rfl, hb.cell rfl, hb.cell rfl, hb.cell rfl, ?_⟩
    rw [(hR3.grown k).blk.cell (wvs_wd (by have := hR3.big; omega)), HLO.out]
  have hS := hcl W3 (Keeps.refl _ _)
  have HS : Hid (∀ W1, Keeps (fun _ => False) W3 W1 → _) := hcl
  have HQ : Hid (Q = w2.heap.size) := hQ
  have z1 : 2 < (M : Int) := by have := hR3.big; have := HM.out.1; omega
  clear hcl hQ
  clear hk2 hk3 hR hR3 hW3 hG HC
  go_wp2
  rw [← HB3.out.1, ← HQ.out]
  go_region_held3 (fun w' => w'.cell? ⟨Q, 0, none⟩ = some (.int .i64 p) ∧ w'.cell? ⟨Q, 1, none⟩ = some (.int .i64 3) ∧ w'.cell? ⟨Q, 2, none⟩ = some (.int .i64 n) ∧ w'.cell? ⟨Q, 3, none⟩ = some (.int .i64 d) ∧ w'.cell? ⟨Q, 4, none⟩ = some (.slice (some ⟨G, 0, none⟩) M M) ∧ w'.cell? ⟨G, 2, none⟩ = some (.int .u32 X)) (first | exact hS1 | exact hS | go_keep)
    (first | (go_at_call 47; refine (HZ.out _ ((Keeps.refl _ W3).drewN _)).mono ?_; rintro e w1 ⟨rfl, hk1⟩; have hS1 := HS.out w1 hk1))
  go_wp2
  go_returns
  exact ⟨rfl, HB3.out.2.1.trans hk1 fun _ _ e => e⟩

set_option maxRecDepth 20000 in
set_option maxHeartbeats 1000000 in
theorem tak_no (nil : Bool) (b g : Nat) (xs : List UInt32) (p : Int) (n d : Int) (w : World) (hm : nil = false → Mm w b g xs) (hp : p ≤ 9223372036854775807) (he : lkE nil xs p 3 n d ≠ 0) :
    Calls Try.prog 19 #[mpv nil b, .int .i64 p, .int .i64 n, .int .i64 d] w fun e w' => e = .returned (.tuple #[.bool false, .int .i64 (lkE nil xs p 3 n d)]) ∧ Keeps (fun _ => False) w w' := by
  have HC : Hid (Calls Try.prog 39 #[mpv nil b, .int .i64 p, .int .i64 3, .int .i64 n, .int .i64 d] w fun e w' => e = .returned (.tuple #[rw0, .int .i64 (lkE nil xs p 3 n d)]) ∧ Keeps (fun _ => False) w w') := look_no nil b g xs p 3 n d w hm (by omega) hp he
  obtain ⟨E, hE⟩ : ∃ E, E = lkE nil xs p 3 n d := ⟨_, rfl⟩
  rw [← hE] at HC he ⊢
  have hE0 : (E != 0) = true := bne_iff_ne.2 he
  obtain ⟨v, hv⟩ : ∃ v, v = (if nil then (none : Option Addr) else some ⟨b, 0, none⟩) := ⟨_, rfl⟩
  unfold mpv at HC ⊢
  rw [← hv] at HC ⊢
  clear hE he hv hm hp
  go_enter Try.func19, Try.ntmps19
  go_wp2_with fail
  refine HC.out.mono ?_
  rintro e w2 ⟨rfl, hk2⟩
  have HK2 : Hid (Keeps _ _ _) := hk2
  clear hk2 HC
  go_wp2
  go_ret2
  exact ⟨rfl, HK2.out.alloc _⟩

set_option maxRecDepth 20000 in
set_option maxHeartbeats 1000000 in
theorem tak_none (b g : Nat) (xs : List UInt32) (p n d : Nat) (r : Rw) (w : World) (hm : Mm w b g xs) (L : Lies xs p 3 n d r) (h0 : r.ms = []) :
    Calls Try.prog 19 #[.pointer (some ⟨b, 0, none⟩), .int .i64 p, .int .i64 n, .int .i64 d] w fun e w' => e = .returned (.tuple #[.bool false, .int .i64 0]) ∧ Keeps (fun _ => False) w w' := by
  have hcnt := cnt_enc (h := 3) (by omega) L.ok L.d2
  obtain ⟨C, hC⟩ : ∃ C, C = r.ms.length := ⟨_, rfl⟩
  rw [← hC] at hcnt
  have HCN : Hid (cntW 3 (enc 3 n d r) = C) := hcnt
  rw [h0] at hC
  obtain rfl : C = 0 := hC
  have HC : Hid (Calls Try.prog 39 #[.pointer (some ⟨b, 0, none⟩), .int .i64 p, .int .i64 3, .int .i64 n, .int .i64 d] w fun e w' => ∃ G, w.heap.size ≤ G ∧ e = .returned (.tuple #[.agg #[.int .i64 p, .int .i64 3, .int .i64 n, .int .i64 d, .slice (some ⟨G, 0, none⟩) (rsz 3 n d) (rsz 3 n d)], .int .i64 0]) ∧ Rb w' G 3 n d (enc 3 n d r) ∧ Keeps (fun _ => False) w w') := look_yes b g xs p 3 n d r w hm (by omega) L
  have HL : Hid (Mm w b g xs ∧ Lies xs p 3 n d r) := ⟨hm, L⟩
  have hlen := enc_length (h := 3) (by omega) L.ok
  have hML : rsz 3 n d = (enc 3 n d r).length := by rw [hlen, rsz_nat]
  have hM2 := L.fit
  obtain ⟨M, hM⟩ : ∃ M, M = rsz 3 n d := ⟨_, rfl⟩
  rw [← hM] at HC hML hM2
  have HM : Hid (M = (enc 3 n d r).length ∧ p + M ≤ xs.length) := ⟨hML, hM2⟩
  clear hM hML hM2 hlen hm L h0 hcnt
  go_enter Try.func19, Try.ntmps19
  go_wp2_with fail
  refine HC.out.mono ?_
  rintro e w2 ⟨G, hG, rfl, hR, hk2⟩
  obtain ⟨W3, hW3⟩ : ∃ W3, W3 = w2.alloc (.cells #[.int .i64 p, .int .i64 3, .int .i64 n, .int .i64 d, .slice (some ⟨G, 0, none⟩) M M] 75) := ⟨_, rfl⟩
  have hk3 : Keeps (fun _ => False) w2 W3 := by rw [hW3]; exact (Keeps.refl _ w2).alloc _
  have hR3 := hR.grown hk3
  have HG2 : Hid (G < w2.heap.size) := hR.blk.lt
  have HB3 : Hid (W3 = w2.alloc (.cells #[.int .i64 p, .int .i64 3, .int .i64 n, .int .i64 d, .slice (some ⟨G, 0, none⟩) M M] 75) ∧ Keeps (fun _ => False) w W3 ∧ Rb W3 G 3 n d (enc 3 n d r) ∧ w.heap.size ≤ G ∧ Blk W3 w2.heap.size (#[.int .i64 p, .int .i64 3, .int .i64 n, .int .i64 d, .slice (some ⟨G, 0, none⟩) M M] : Array Value).toList 75) := ⟨hW3, hk2.trans hk3 fun _ _ e => e, hR3, hG, by rw [hW3]; exact Blk.new w2 _ 75⟩
  have HZ : Hid (Calls Try.prog 47 #[.agg #[.int .i64 p, .int .i64 3, .int .i64 n, .int .i64 d, .slice (some ⟨G, 0, none⟩) M M]] W3 fun e w' => e = .returned (.int .i64 0) ∧ Keeps (fun _ => False) W3 w') := by
    have q := size_any p G 3 n d M _ W3 hR3 HM.out.1
    rw [HCN.out] at q
    exact q
  clear hk2 hk3 hR hR3 hW3 hG HC
  go_wp2_with fail
  rw [← HB3.out.1]
  refine HZ.out.mono ?_
  rintro e w4 ⟨rfl, hk4⟩
  have HK4 : Hid (Keeps _ _ _) := hk4
  clear hk4 HZ
  go_wp2
  go_ret2
  exact ⟨rfl, HB3.out.2.1.trans HK4.out fun _ _ e => e⟩

set_option maxRecDepth 20000 in
set_option maxHeartbeats 1000000 in
theorem tak_some (b g : Nat) (xs : List UInt32) (p n d : Nat) (r : Rw) (w : World) (hm : Mm w b g xs) (L : Lies xs p 3 n d r) (h0 : r.ms ≠ []) :
    Calls Try.prog 19 #[.pointer (some ⟨b, 0, none⟩), .int .i64 p, .int .i64 n, .int .i64 d] w fun e w' => e = .returned (.tuple #[.bool true, .int .i64 0]) ∧ Mm w' b g (lay xs p (enc 3 n d (r.pop d))) ∧ Keeps (· = g) w w' := by
  have hcnt := cnt_enc (h := 3) (by omega) L.ok L.d2
  obtain ⟨C, hC⟩ : ∃ C, C = r.ms.length := ⟨_, rfl⟩
  rw [← hC] at hcnt
  have HCN : Hid (cntW 3 (enc 3 n d r) = C) := hcnt
  have hl0 : r.ms.length ≠ 0 := fun e => h0 (List.eq_nil_of_length_eq_zero e)
  have hC1 : ((C : Int) == 0) = false := beq_eq_false_iff_ne.2 (by omega)
  have HP : Hid (popL n d (enc 3 n d r) = enc 3 n d (r.pop d) ∧ fstW 3 (enc 3 n d r) < d ∧ cntW 3 (enc 3 n d r) ≤ d ∧ 1 ≤ cntW 3 (enc 3 n d r) ∧ (enc 3 n d (r.pop d)).length = rsz 3 n d) :=
    ⟨popL_enc L.ok L.d2 h0, by rw [fst_enc (by omega) L.ok L.d2]; exact L.ok.f, by rw [hcnt, hC]; exact L.ok.m, by rw [hcnt]; omega, by rw [enc_length (by omega) L.ok.pop, rsz_nat]⟩
  have HC : Hid (Calls Try.prog 39 #[.pointer (some ⟨b, 0, none⟩), .int .i64 p, .int .i64 3, .int .i64 n, .int .i64 d] w fun e w' => ∃ G, w.heap.size ≤ G ∧ e = .returned (.tuple #[.agg #[.int .i64 p, .int .i64 3, .int .i64 n, .int .i64 d, .slice (some ⟨G, 0, none⟩) (rsz 3 n d) (rsz 3 n d)], .int .i64 0]) ∧ Rb w' G 3 n d (enc 3 n d r) ∧ Keeps (fun _ => False) w w') := look_yes b g xs p 3 n d r w hm (by omega) L
  have HL : Hid (Mm w b g xs ∧ Lies xs p 3 n d r) := ⟨hm, L⟩
  have hlen := enc_length (h := 3) (by omega) L.ok
  have hML : rsz 3 n d = (enc 3 n d r).length := by rw [hlen, rsz_nat]
  have hM2 := L.fit
  obtain ⟨M, hM⟩ : ∃ M, M = rsz 3 n d := ⟨_, rfl⟩
  rw [← hM] at HC hML hM2
  have HM : Hid (M = (enc 3 n d r).length ∧ p + M ≤ xs.length) := ⟨hML, hM2⟩
  have hME : Hid (M = rsz 3 n d) := hM
  clear hM hML hM2 hlen hm L h0 hC hcnt hl0
  go_enter Try.func19, Try.ntmps19
  go_wp2_with fail
  refine HC.out.mono ?_
  rintro e w2 ⟨G, hG, rfl, hR, hk2⟩
  obtain ⟨W3, hW3⟩ : ∃ W3, W3 = w2.alloc (.cells #[.int .i64 p, .int .i64 3, .int .i64 n, .int .i64 d, .slice (some ⟨G, 0, none⟩) M M] 75) := ⟨_, rfl⟩
  have hk3 : Keeps (fun _ => False) w2 W3 := by rw [hW3]; exact (Keeps.refl _ w2).alloc _
  have hR3 := hR.grown hk3
  have HG2 : Hid (G < w2.heap.size) := hR.blk.lt
  have HB3 : Hid (W3 = w2.alloc (.cells #[.int .i64 p, .int .i64 3, .int .i64 n, .int .i64 d, .slice (some ⟨G, 0, none⟩) M M] 75) ∧ Keeps (fun _ => False) w W3 ∧ Rb W3 G 3 n d (enc 3 n d r) ∧ w.heap.size ≤ G ∧ Blk W3 w2.heap.size (#[.int .i64 p, .int .i64 3, .int .i64 n, .int .i64 d, .slice (some ⟨G, 0, none⟩) M M] : Array Value).toList 75) := ⟨hW3, hk2.trans hk3 fun _ _ e => e, hR3, hG, by rw [hW3]; exact Blk.new w2 _ 75⟩
  have HZ : Hid (Calls Try.prog 47 #[.agg #[.int .i64 p, .int .i64 3, .int .i64 n, .int .i64 d, .slice (some ⟨G, 0, none⟩) M M]] W3 fun e w' => e = .returned (.int .i64 C) ∧ Keeps (fun _ => False) W3 w') := by
    have q := size_any p G 3 n d M _ W3 hR3 HM.out.1
    rw [HCN.out] at q
    exact q
  have HPP : Hid (∀ w4, Keeps (fun _ => False) W3 w4 → Calls Try.prog 51 #[.agg #[.int .i64 p, .int .i64 3, .int .i64 n, .int .i64 d, .slice (some ⟨G, 0, none⟩) M M]] w4 fun e w' => e = .returned (.tuple #[]) ∧ Blk w' G (wvs (enc 3 n d (r.pop d))) 52 ∧ Keeps (· = G) w4 w') := fun w4 k4 => by
    have q := pop_any p G 3 n d M _ w4 rfl (hR3.grown k4) HM.out.1 HP.out.2.1 HP.out.2.2.1 HP.out.2.2.2.1
    rw [HP.out.1] at q
    exact q
  have HLY : Hid (∀ w5, Keeps (· = G) w w5 → Blk w5 G (wvs (enc 3 n d (r.pop d))) 52 → Calls Try.prog 43 #[.agg #[.int .i64 p, .int .i64 3, .int .i64 n, .int .i64 d, .slice (some ⟨G, 0, none⟩) M M], .pointer (some ⟨b, 0, none⟩)] w5 fun e w' => e = .returned (.int .i64 0) ∧ Mm w' b g (lay xs p (enc 3 n d (r.pop d))) ∧ Keeps (· = g) w w') := fun w5 k5 hB5 => by
    have hbl := HL.out.1.blk.lt
    have hgl := HL.out.1.row.lt
    refine (rlay_any b g xs p 3 n d G M _ w5 (HL.out.1.kept k5 (by have := HB3.out.2.2.2.1; omega) (by have := HB3.out.2.2.2.1; omega)) hB5 (by rw [HP.out.2.2.2.2]; exact hME.out) HM.out.2).mono fun e w' ⟨q1, q2, q3⟩ => ⟨q1, q2, ?_⟩
    exact (k5.mono (T := (· = g)) fun b hb e => by have := HB3.out.2.2.2.1; omega).trans q3 fun _ _ e => e
  clear hk2 hk3 hR hR3 hW3 hG HC
  go_wp2_with fail
  rw [← HB3.out.1]
  refine HZ.out.mono ?_
  rintro e w4 ⟨rfl, hk4⟩
  have HPP4 : Hid (Calls _ _ _ _ _) := HPP.out w4 hk4
  obtain ⟨Q, hQ⟩ : ∃ Q, Q = w2.heap.size := ⟨_, rfl⟩
  have hb4 := HB3.out.2.2.2.2.kept hk4 fun e => e
  rw [← hQ] at hb4 ⊢
  have e0 : w4.cell? ⟨Q, 0, none⟩ = some (.int .i64 p) := hb4.cell rfl
  have e1 : w4.cell? ⟨Q, 1, none⟩ = some (.int .i64 3) := hb4.cell rfl
  have e2 : w4.cell? ⟨Q, 2, none⟩ = some (.int .i64 n) := hb4.cell rfl
  have e3 : w4.cell? ⟨Q, 3, none⟩ = some (.int .i64 d) := hb4.cell rfl
  have e4 : w4.cell? ⟨Q, 4, none⟩ = some (.slice (some ⟨G, 0, none⟩) M M) := hb4.cell rfl
  have HQ4 : Hid (Q = w2.heap.size ∧ Blk w4 Q (#[.int .i64 p, .int .i64 3, .int .i64 n, .int .i64 d, .slice (some ⟨G, 0, none⟩) M M] : Array Value).toList 75) := ⟨hQ, hb4⟩
  clear hQ hb4
  have HK4 : Hid (Keeps _ _ _) := hk4
  clear hk4 HZ HPP
  go_wp2_with fail
  refine HPP4.out.mono ?_
  rintro e w5 ⟨rfl, hB5, hk5⟩
  have hk5w : Keeps (· = G) w w5 := ((HB3.out.2.1.trans HK4.out fun _ _ e => e).mono fun _ _ e => e.elim).trans hk5 fun _ _ e => e
  have HLY5 : Hid (Calls _ _ _ _ _) := HLY.out w5 hk5w hB5
  have hb5 := HQ4.out.2.kept hk5 (by have := HQ4.out.1; have := HB3.out.2.2.1.blk.lt; have := HB3.out; have h6 : G < w2.heap.size := HG2.out; omega)
  clear e0 e1 e2 e3 e4
  have e0 : w5.cell? ⟨Q, 0, none⟩ = some (.int .i64 p) := hb5.cell rfl
  have e1 : w5.cell? ⟨Q, 1, none⟩ = some (.int .i64 3) := hb5.cell rfl
  have e2 : w5.cell? ⟨Q, 2, none⟩ = some (.int .i64 n) := hb5.cell rfl
  have e3 : w5.cell? ⟨Q, 3, none⟩ = some (.int .i64 d) := hb5.cell rfl
  have e4 : w5.cell? ⟨Q, 4, none⟩ = some (.slice (some ⟨G, 0, none⟩) M M) := hb5.cell rfl
  clear hb5 hk5w hk5 hB5 HPP4 HLY
  go_wp2_with fail
  refine HLY5.out.mono ?_
  rintro e w6 ⟨rfl, hm6, hk6⟩
  have H6 : Hid (Mm _ _ _ _ ∧ Keeps _ _ _) := ⟨hm6, hk6⟩
  have HDN : Hid (Calls _ _ _ _ _) := done_ok w6
  clear hm6 hk6 HLY5 e0 e1 e2 e3 e4
  go_wp2_with fail
  refine HDN.out.mono ?_
  rintro e w7 ⟨rfl, hw⟩
  obtain rfl := hw.symm
  clear hw HDN
  go_wp2
  go_ret2
  exact ⟨rfl, H6.out⟩

end Go.Proofs.Ytekijhhpldnmnaa
