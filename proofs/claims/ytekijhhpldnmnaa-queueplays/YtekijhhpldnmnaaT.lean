import Derived.Test.YtekijhhpldnmnaaS
namespace Go.Proofs.Ytekijhhpldnmnaa
open Go.RowKit
set_option linter.unusedVariables false
set_option linter.unusedSimpArgs false

set_option maxRecDepth 20000 in
set_option maxHeartbeats 1000000 in
theorem put_fit (nil : Bool) (b : Nat) (p n d : Int) (mv : Value) (w : World) (he : fitE nil n d ≠ 0) :
    Calls Try.prog 16 #[mpv nil b, .int .i64 p, .int .i64 n, .int .i64 d, mv] w fun e w' => e = .returned (.tuple #[.bool false, .int .i64 (fitE nil n d)]) ∧ w' = w := by
  have HC : Hid (Calls _ _ _ _ _) := fits_any nil b n d w
  obtain ⟨E, hE⟩ : ∃ E, E = fitE nil n d := ⟨_, rfl⟩
  rw [← hE] at HC he ⊢
  have hE0 : (E != 0) = true := bne_iff_ne.2 he
  obtain ⟨v, hv⟩ : ∃ v, v = (if nil then (none : Option Addr) else some ⟨b, 0, none⟩) := ⟨_, rfl⟩
  unfold mpv at HC ⊢
  rw [← hv] at HC ⊢
  clear hE he hv
  go_enter Try.func16, Try.ntmps16
  go_wp2_with fail
  refine HC.out.mono ?_
  rintro e w1 ⟨rfl, hw⟩
  obtain rfl := hw.symm
  clear hw HC
  go_wp2
  go_ret2
  exact ⟨rfl, rfl⟩

set_option maxRecDepth 20000 in
set_option maxHeartbeats 1000000 in
theorem put_words (b : Nat) (p : Int) (n d : Int) (a : Option Addr) (k c : Nat) (w : World) (he : fitE false n d = 0) (hk : k < 1 ∨ n < k) :
    Calls Try.prog 16 #[.pointer (some ⟨b, 0, none⟩), .int .i64 p, .int .i64 n, .int .i64 d, .slice a k c] w fun e w' => e = .returned (.tuple #[.bool false, .int .i64 200]) ∧ w' = w := by
  have HC := fits_any false b n d w
  rw [he] at HC
  have HC : Hid (Calls Try.prog 38 #[.pointer (some ⟨b, 0, none⟩), .int .i64 n, .int .i64 d] w fun e w' => e = .returned (.int .i64 0) ∧ w' = w) := HC
  have hkk : (k : Int) < 1 ∨ (¬ (k : Int) < 1 ∧ n < (k : Int)) := by omega
  clear he hk
  rcases hkk with g1 | ⟨g1, g2⟩
  all_goals
    go_enter Try.func16, Try.ntmps16
    go_wp2_with fail
    refine HC.out.mono ?_
    rintro e w1 ⟨rfl, hw⟩
    obtain rfl := hw.symm
    clear hw HC
    go_wp2
    go_ret2
    exact ⟨rfl, rfl⟩

set_option maxRecDepth 20000 in
set_option maxHeartbeats 1000000 in
theorem put_no (b g : Nat) (xs : List UInt32) (p : Int) (n d : Int) (a : Option Addr) (k c : Nat) (w : World) (hm : Mm w b g xs) (hp : p ≤ 9223372036854775807) (hf : fitE false n d = 0) (hk1 : 1 ≤ k) (hk2 : (k : Int) ≤ n) (he : lkE false xs p 1 n d ≠ 0) :
    Calls Try.prog 16 #[.pointer (some ⟨b, 0, none⟩), .int .i64 p, .int .i64 n, .int .i64 d, .slice a k c] w fun e w' => e = .returned (.tuple #[.bool false, .int .i64 (lkE false xs p 1 n d)]) ∧ Keeps (fun _ => False) w w' := by
  have HFT : Hid (Calls Try.prog 38 #[.pointer (some ⟨b, 0, none⟩), .int .i64 n, .int .i64 d] w fun e w' => e = .returned (.int .i64 0) ∧ w' = w) := by
    have q := fits_any false b n d w
    rw [hf] at q
    exact q
  have HC : Hid (Calls Try.prog 39 #[mpv false b, .int .i64 p, .int .i64 1, .int .i64 n, .int .i64 d] w fun e w' => e = .returned (.tuple #[rw0, .int .i64 (lkE false xs p 1 n d)]) ∧ Keeps (fun _ => False) w w') := look_no false b g xs p 1 n d w (fun _ => hm) (by omega) hp he
  obtain ⟨E, hE⟩ : ∃ E, E = lkE false xs p 1 n d := ⟨_, rfl⟩
  rw [← hE] at HC he ⊢
  have hE0 : (E != 0) = true := bne_iff_ne.2 he
  have HC : Hid (Calls Try.prog 39 #[.pointer (some ⟨b, 0, none⟩), .int .i64 p, .int .i64 1, .int .i64 n, .int .i64 d] w fun e w' => e = .returned (.tuple #[rw0, .int .i64 E]) ∧ Keeps (fun _ => False) w w') := HC
  have y1 : ¬ (k : Int) < 1 := by omega
  have y2 : ¬ n < (k : Int) := by omega
  clear hE he hm hp hf hk1 hk2
  go_enter Try.func16, Try.ntmps16
  go_wp2_with fail
  refine HFT.out.mono ?_
  rintro e w1 ⟨rfl, hw⟩
  obtain rfl := hw.symm
  clear hw HFT
  go_wp2_with fail
  refine HC.out.mono ?_
  rintro e w2 ⟨rfl, hk2⟩
  have HK2 : Hid (Keeps _ _ _) := hk2
  clear hk2 HC
  go_wp2
  go_ret2
  exact ⟨rfl, HK2.out.alloc _⟩

set_option maxRecDepth 20000 in
set_option maxHeartbeats 1000000 in
theorem put_full (b g : Nat) (xs : List UInt32) (p n d : Nat) (r : Rw) (a : Option Addr) (k c : Nat) (w : World) (hm : Mm w b g xs) (L : Lies xs p 1 n d r) (hk1 : 1 ≤ k) (hk2 : k ≤ n) (hd : r.ms.length = d) :
    Calls Try.prog 16 #[.pointer (some ⟨b, 0, none⟩), .int .i64 p, .int .i64 n, .int .i64 d, .slice a k c] w fun e w' => e = .returned (.tuple #[.bool false, .int .i64 0]) ∧ Keeps (fun _ => False) w w' := by
  have hcnt := cnt_enc (h := 1) (by omega) L.ok L.d2
  have HCN : Hid (decide (cntW 1 (enc 1 n d r) = d) = true) := by rw [hcnt]; exact decide_eq_true hd
  have HFT : Hid (Calls Try.prog 38 #[.pointer (some ⟨b, 0, none⟩), .int .i64 n, .int .i64 d] w fun e w' => e = .returned (.int .i64 0) ∧ w' = w) := by
    have q := fits_any false b n d w
    rw [fitE_nat L.n1 L.n2 L.d1 L.d2] at q
    exact q
  have y1 : ¬ (k : Int) < 1 := by omega
  have y2 : ¬ (n : Int) < (k : Int) := by omega
  have HC : Hid (Calls Try.prog 39 #[.pointer (some ⟨b, 0, none⟩), .int .i64 p, .int .i64 1, .int .i64 n, .int .i64 d] w fun e w' => ∃ G, w.heap.size ≤ G ∧ e = .returned (.tuple #[.agg #[.int .i64 p, .int .i64 1, .int .i64 n, .int .i64 d, .slice (some ⟨G, 0, none⟩) (rsz 1 n d) (rsz 1 n d)], .int .i64 0]) ∧ Rb w' G 1 n d (enc 1 n d r) ∧ Keeps (fun _ => False) w w') := look_yes b g xs p 1 n d r w hm (by omega) L
  have HL : Hid (Mm w b g xs ∧ Lies xs p 1 n d r) := ⟨hm, L⟩
  have hlen := enc_length (h := 1) (by omega) L.ok
  have hML : rsz 1 n d = (enc 1 n d r).length := by rw [hlen, rsz_nat]
  have hM2 := L.fit
  obtain ⟨M, hM⟩ : ∃ M, M = rsz 1 n d := ⟨_, rfl⟩
  rw [← hM] at HC hML hM2
  have HM : Hid (M = (enc 1 n d r).length ∧ p + M ≤ xs.length) := ⟨hML, hM2⟩
  clear hM hML hM2 hlen hm L hcnt hd hk1 hk2
  go_enter Try.func16, Try.ntmps16
  go_wp2_with fail
  refine HFT.out.mono ?_
  rintro e w1 ⟨rfl, hw⟩
  obtain rfl := hw.symm
  clear hw HFT
  go_wp2_with fail
  refine HC.out.mono ?_
  rintro e w2 ⟨G, hG, rfl, hR, hk2⟩
  obtain ⟨W3, hW3⟩ : ∃ W3, W3 = w2.alloc (.cells #[.int .i64 p, .int .i64 1, .int .i64 n, .int .i64 d, .slice (some ⟨G, 0, none⟩) M M] 75) := ⟨_, rfl⟩
  have hk3 : Keeps (fun _ => False) w2 W3 := by rw [hW3]; exact (Keeps.refl _ w2).alloc _
  have hR3 := hR.grown hk3
  have HB3 : Hid (W3 = w2.alloc (.cells #[.int .i64 p, .int .i64 1, .int .i64 n, .int .i64 d, .slice (some ⟨G, 0, none⟩) M M] 75) ∧ Keeps (fun _ => False) w W3 ∧ Rb W3 G 1 n d (enc 1 n d r) ∧ w.heap.size ≤ G ∧ Blk W3 w2.heap.size (#[.int .i64 p, .int .i64 1, .int .i64 n, .int .i64 d, .slice (some ⟨G, 0, none⟩) M M] : Array Value).toList 75) := ⟨hW3, hk2.trans hk3 fun _ _ e => e, hR3, hG, by rw [hW3]; exact Blk.new w2 _ 75⟩
  have HZ : Hid (Calls Try.prog 40 #[.agg #[.int .i64 p, .int .i64 1, .int .i64 n, .int .i64 d, .slice (some ⟨G, 0, none⟩) M M]] W3 fun e w' => e = .returned (.bool true) ∧ Keeps (fun _ => False) W3 w') := by
    have q := full_any p G 1 n d M _ W3 hR3 HM.out.1
    rw [HCN.out] at q
    exact q
  clear hk2 hk3 hR hR3 hW3 hG HC
  go_wp2_with fail
  rw [← HB3.out.1]
  refine HZ.out.mono ?_
  rintro e w4 ⟨rfl, hk4⟩
  have HK4 : Hid (Keeps _ _ _) := hk4
  clear hk4 HZ
  go_wp2
  go_ret2
  exact ⟨rfl, HB3.out.2.1.trans HK4.out fun _ _ e => e⟩

set_option maxRecDepth 20000 in
set_option maxHeartbeats 1000000 in
theorem put_some (b g : Nat) (xs : List UInt32) (p n d : Nat) (r : Rw) (b0 o0 c : Nat) (m : List UInt32) (w : World) (hm : Mm w b g xs) (L : Lies xs p 1 n d r) (hms : SegW w (some ⟨b0, o0, none⟩) m) (hk1 : 1 ≤ m.length) (hk2 : m.length ≤ n) (hd : ¬ r.ms.length = d) :
    Calls Try.prog 16 #[.pointer (some ⟨b, 0, none⟩), .int .i64 p, .int .i64 n, .int .i64 d, .slice (some ⟨b0, o0, none⟩) m.length c] w fun e w' => e = .returned (.tuple #[.bool true, .int .i64 0]) ∧ Mm w' b g (lay xs p (enc 1 n d (r.push m))) ∧ Keeps (· = g) w w' := by
  have hb0 : b0 < w.heap.size := by
    have := hms.wd (j := 0) (by omega)
    exact World.block_lt_of_cell? w _ this
  have hcnt := cnt_enc (h := 1) (by omega) L.ok L.d2
  have HCN : Hid (decide (cntW 1 (enc 1 n d r) = d) = false) := by rw [hcnt]; exact decide_eq_false hd
  have HFT : Hid (Calls Try.prog 38 #[.pointer (some ⟨b, 0, none⟩), .int .i64 n, .int .i64 d] w fun e w' => e = .returned (.int .i64 0) ∧ w' = w) := by
    have q := fits_any false b n d w
    rw [fitE_nat L.n1 L.n2 L.d1 L.d2] at q
    exact q
  have hrl : r.ms.length < d := by have := L.ok.m; omega
  have HP : Hid (pushL 1 n d (enc 1 n d r) m = enc 1 n d (r.push m) ∧ fstW 1 (enc 1 n d r) < d ∧ cntW 1 (enc 1 n d r) < d ∧ (enc 1 n d (r.push m)).length = rsz 1 n d ∧ 1 ≤ m.length ∧ m.length ≤ n ∧ SegW w (some ⟨b0, o0, none⟩) m ∧ b0 < w.heap.size) :=
    ⟨pushL_enc (by omega) L.ok L.d2 hrl hk2, by rw [fst_enc (by omega) L.ok L.d2]; exact L.ok.f, by rw [hcnt]; exact hrl, by rw [enc_length (by omega) (L.ok.push hrl ⟨hk1, hk2⟩), rsz_nat], hk1, hk2, hms, hb0⟩
  obtain ⟨k, hkm⟩ : ∃ k, k = m.length := ⟨_, rfl⟩
  have HKM : Hid (k = m.length) := hkm
  rw [← hkm] at hk1 hk2 ⊢
  have y1 : ¬ (k : Int) < 1 := by omega
  have y2 : ¬ (n : Int) < (k : Int) := by omega
  have HC : Hid (Calls Try.prog 39 #[.pointer (some ⟨b, 0, none⟩), .int .i64 p, .int .i64 1, .int .i64 n, .int .i64 d] w fun e w' => ∃ G, w.heap.size ≤ G ∧ e = .returned (.tuple #[.agg #[.int .i64 p, .int .i64 1, .int .i64 n, .int .i64 d, .slice (some ⟨G, 0, none⟩) (rsz 1 n d) (rsz 1 n d)], .int .i64 0]) ∧ Rb w' G 1 n d (enc 1 n d r) ∧ Keeps (fun _ => False) w w') := look_yes b g xs p 1 n d r w hm (by omega) L
  have HL : Hid (Mm w b g xs ∧ Lies xs p 1 n d r) := ⟨hm, L⟩
  have hlen := enc_length (h := 1) (by omega) L.ok
  have hML : rsz 1 n d = (enc 1 n d r).length := by rw [hlen, rsz_nat]
  have hM2 := L.fit
  obtain ⟨M, hM⟩ : ∃ M, M = rsz 1 n d := ⟨_, rfl⟩
  rw [← hM] at HC hML hM2
  have HM : Hid (M = (enc 1 n d r).length ∧ p + M ≤ xs.length) := ⟨hML, hM2⟩
  have hME : Hid (M = rsz 1 n d) := hM
  clear hM hML hM2 hlen hm L hcnt hd hk1 hk2 hrl hkm hms hb0
  go_enter Try.func16, Try.ntmps16
  go_wp2_with fail
  refine HFT.out.mono ?_
  rintro e w1 ⟨rfl, hw⟩
  obtain rfl := hw.symm
  clear hw HFT
  go_wp2_with fail
  refine HC.out.mono ?_
  rintro e w2 ⟨G, hG, rfl, hR, hk2q⟩
  have hk2 := hk2q
  have HG2 : Hid (G < w2.heap.size) := hR.blk.lt
  obtain ⟨W3, hW3⟩ : ∃ W3, W3 = w2.alloc (.cells #[.int .i64 p, .int .i64 1, .int .i64 n, .int .i64 d, .slice (some ⟨G, 0, none⟩) M M] 75) := ⟨_, rfl⟩
  have hk3 : Keeps (fun _ => False) w2 W3 := by rw [hW3]; exact (Keeps.refl _ w2).alloc _
  have hR3 := hR.grown hk3
  have HB3 : Hid (W3 = w2.alloc (.cells #[.int .i64 p, .int .i64 1, .int .i64 n, .int .i64 d, .slice (some ⟨G, 0, none⟩) M M] 75) ∧ Keeps (fun _ => False) w W3 ∧ Rb W3 G 1 n d (enc 1 n d r) ∧ w.heap.size ≤ G ∧ Blk W3 w2.heap.size (#[.int .i64 p, .int .i64 1, .int .i64 n, .int .i64 d, .slice (some ⟨G, 0, none⟩) M M] : Array Value).toList 75) := ⟨hW3, hk2.trans hk3 fun _ _ e => e, hR3, hG, by rw [hW3]; exact Blk.new w2 _ 75⟩
  have HZ : Hid (Calls Try.prog 40 #[.agg #[.int .i64 p, .int .i64 1, .int .i64 n, .int .i64 d, .slice (some ⟨G, 0, none⟩) M M]] W3 fun e w' => e = .returned (.bool false) ∧ Keeps (fun _ => False) W3 w') := by
    have q := full_any p G 1 n d M _ W3 hR3 HM.out.1
    rw [HCN.out] at q
    exact q
  have HPP : Hid (∀ w4, Keeps (fun _ => False) W3 w4 → Calls Try.prog 41 #[.agg #[.int .i64 p, .int .i64 1, .int .i64 n, .int .i64 d, .slice (some ⟨G, 0, none⟩) M M], .slice (some ⟨b0, o0, none⟩) k c] w4 fun e w' => e = .returned (.tuple #[]) ∧ Blk w' G (wvs (enc 1 n d (r.push m))) 52 ∧ Keeps (· = G) w4 w') := fun w4 k4 => by
    have q := push_any p G 1 n d M _ w4 b0 o0 c m (hR3.grown k4) HM.out.1 HP.out.2.1 HP.out.2.2.1 (HP.out.2.2.2.2.2.2.1.kept ((hk2q.trans hk3 fun _ _ e => e).trans k4 fun _ _ e => e) fun _ _ e => e) (by have := HP.out.2.2.2.2.2.2.2; omega) HP.out.2.2.2.2.1 HP.out.2.2.2.2.2.1
    rw [HP.out.1, ← HKM.out] at q
    exact q
  have HLY : Hid (∀ w5, Keeps (· = G) w w5 → Blk w5 G (wvs (enc 1 n d (r.push m))) 52 → Calls Try.prog 43 #[.agg #[.int .i64 p, .int .i64 1, .int .i64 n, .int .i64 d, .slice (some ⟨G, 0, none⟩) M M], .pointer (some ⟨b, 0, none⟩)] w5 fun e w' => e = .returned (.int .i64 0) ∧ Mm w' b g (lay xs p (enc 1 n d (r.push m))) ∧ Keeps (· = g) w w') := fun w5 k5 hB5 => by
    have hbl := HL.out.1.blk.lt
    have hgl := HL.out.1.row.lt
    refine (rlay_any b g xs p 1 n d G M _ w5 (HL.out.1.kept k5 (by have := HB3.out.2.2.2.1; omega) (by have := HB3.out.2.2.2.1; omega)) hB5 (by rw [HP.out.2.2.2.1]; exact hME.out) HM.out.2).mono fun e w' ⟨q1, q2, q3⟩ => ⟨q1, q2, ?_⟩
    exact (k5.mono (T := (· = g)) fun b hb e => by have := HB3.out.2.2.2.1; omega).trans q3 fun _ _ e => e
  clear hk2q hk2 hk3 hR hR3 hW3 hG HC
  go_wp2_with fail
  rw [← HB3.out.1]
  refine HZ.out.mono ?_
  rintro e w4 ⟨rfl, hk4⟩
  have HPP4 : Hid (Calls _ _ _ _ _) := HPP.out w4 hk4
  obtain ⟨Q, hQ⟩ : ∃ Q, Q = w2.heap.size := ⟨_, rfl⟩
  have hb4 := HB3.out.2.2.2.2.kept hk4 fun e => e
  rw [← hQ] at hb4 ⊢
  have e0 : w4.cell? ⟨Q, 0, none⟩ = some (.int .i64 p) := hb4.cell rfl
  have e1 : w4.cell? ⟨Q, 1, none⟩ = some (.int .i64 1) := hb4.cell rfl
  have e2 : w4.cell? ⟨Q, 2, none⟩ = some (.int .i64 n) := hb4.cell rfl
  have e3 : w4.cell? ⟨Q, 3, none⟩ = some (.int .i64 d) := hb4.cell rfl
  have e4 : w4.cell? ⟨Q, 4, none⟩ = some (.slice (some ⟨G, 0, none⟩) M M) := hb4.cell rfl
  have HQ4 : Hid (Q = w2.heap.size ∧ Blk w4 Q (#[.int .i64 p, .int .i64 1, .int .i64 n, .int .i64 d, .slice (some ⟨G, 0, none⟩) M M] : Array Value).toList 75) := ⟨hQ, hb4⟩
  clear hQ hb4
  have HK4 : Hid (Keeps _ _ _) := hk4
  clear hk4 HZ HPP
  go_wp2_with fail
  refine HPP4.out.mono ?_
  rintro e w5 ⟨rfl, hB5, hk5⟩
  have hk5w : Keeps (· = G) w w5 := ((HB3.out.2.1.trans HK4.out fun _ _ e => e).mono fun _ _ e => e.elim).trans hk5 fun _ _ e => e
  have HLY5 : Hid (Calls _ _ _ _ _) := HLY.out w5 hk5w hB5
  have hb5 := HQ4.out.2.kept hk5 (by have := HQ4.out.1; have h6 : G < w2.heap.size := HG2.out; omega)
  clear e0 e1 e2 e3 e4
  have e0 : w5.cell? ⟨Q, 0, none⟩ = some (.int .i64 p) := hb5.cell rfl
  have e1 : w5.cell? ⟨Q, 1, none⟩ = some (.int .i64 1) := hb5.cell rfl
  have e2 : w5.cell? ⟨Q, 2, none⟩ = some (.int .i64 n) := hb5.cell rfl
  have e3 : w5.cell? ⟨Q, 3, none⟩ = some (.int .i64 d) := hb5.cell rfl
  have e4 : w5.cell? ⟨Q, 4, none⟩ = some (.slice (some ⟨G, 0, none⟩) M M) := hb5.cell rfl
  clear hb5 hk5w hk5 hB5 HPP4 HLY
  go_wp2_with fail
  refine HLY5.out.mono ?_
  rintro e w6 ⟨rfl, hm6, hk6⟩
  have H6 : Hid (Mm _ _ _ _ ∧ Keeps _ _ _) := ⟨hm6, hk6⟩
  have HDN : Hid (Calls _ _ _ _ _) := done_ok w6
  clear hm6 hk6 HLY5 e0 e1 e2 e3 e4
  go_wp2_with fail
  refine HDN.out.mono ?_
  rintro e w7 ⟨rfl, hw⟩
  obtain rfl := hw.symm
  clear hw HDN
  go_wp2
  go_ret2
  exact ⟨rfl, H6.out⟩

end Go.Proofs.Ytekijhhpldnmnaa
