import Derived.Test.YtekijhhpldnmnaaQ
namespace Go.Proofs.Ytekijhhpldnmnaa
open Go.RowKit
set_option linter.unusedVariables false
set_option linter.unusedSimpArgs false

set_option maxRecDepth 20000 in
set_option maxHeartbeats 1000000 in
theorem staged_no (nil : Bool) (b g : Nat) (xs : List UInt32) (p : Int) (n d : Int) (w : World) (hm : nil = false → Mm w b g xs) (hp : p ≤ 9223372036854775807) (he : lkE nil xs p 1 n d ≠ 0) :
    Calls Try.prog 21 #[mpv nil b, .int .i64 p, .int .i64 n, .int .i64 d] w fun e w' => e = .returned (.tuple #[.int .i64 0, .int .i64 (lkE nil xs p 1 n d)]) ∧ Keeps (fun _ => False) w w' := by
  have HC : Hid (Calls Try.prog 39 #[mpv nil b, .int .i64 p, .int .i64 1, .int .i64 n, .int .i64 d] w fun e w' => e = .returned (.tuple #[rw0, .int .i64 (lkE nil xs p 1 n d)]) ∧ Keeps (fun _ => False) w w') := look_no nil b g xs p 1 n d w hm (by omega) hp he
  obtain ⟨E, hE⟩ : ∃ E, E = lkE nil xs p 1 n d := ⟨_, rfl⟩
  rw [← hE] at HC he ⊢
  have hE0 : (E != 0) = true := bne_iff_ne.2 he
  obtain ⟨v, hv⟩ : ∃ v, v = (if nil then (none : Option Addr) else some ⟨b, 0, none⟩) := ⟨_, rfl⟩
  unfold mpv at HC ⊢
  rw [← hv] at HC ⊢
  clear hE he hv hm hp
  go_enter Try.func21, Try.ntmps21
  go_wp2_with fail
  refine HC.out.mono ?_
  rintro e w2 ⟨rfl, hk2⟩
  have HK2 : Hid (Keeps _ _ _) := hk2
  clear hk2 HC
  go_wp2
  go_ret2
  exact ⟨rfl, HK2.out.alloc _⟩

set_option maxRecDepth 20000 in
set_option maxHeartbeats 1000000 in
theorem staged_yes (b g : Nat) (xs : List UInt32) (p n d : Nat) (r : Rw) (w : World) (hm : Mm w b g xs) (L : Lies xs p 1 n d r) :
    Calls Try.prog 21 #[.pointer (some ⟨b, 0, none⟩), .int .i64 p, .int .i64 n, .int .i64 d] w fun e w' => e = .returned (.tuple #[.int .i64 (r.ms.length : Nat), .int .i64 0]) ∧ Keeps (fun _ => False) w w' := by
  have hcnt := cnt_enc (h := 1) (by omega) L.ok L.d2
  obtain ⟨C, hC⟩ : ∃ C, C = r.ms.length := ⟨_, rfl⟩
  rw [← hC] at hcnt ⊢
  have HCN : Hid (cntW 1 (enc 1 n d r) = C) := hcnt
  have HC : Hid (Calls Try.prog 39 #[.pointer (some ⟨b, 0, none⟩), .int .i64 p, .int .i64 1, .int .i64 n, .int .i64 d] w fun e w' => ∃ G, w.heap.size ≤ G ∧ e = .returned (.tuple #[.agg #[.int .i64 p, .int .i64 1, .int .i64 n, .int .i64 d, .slice (some ⟨G, 0, none⟩) (rsz 1 n d) (rsz 1 n d)], .int .i64 0]) ∧ Rb w' G 1 n d (enc 1 n d r) ∧ Keeps (fun _ => False) w w') := look_yes b g xs p 1 n d r w hm (by omega) L
  have HL : Hid (Mm w b g xs ∧ Lies xs p 1 n d r) := ⟨hm, L⟩
  have hlen := enc_length (h := 1) (by omega) L.ok
  have hML : rsz 1 n d = (enc 1 n d r).length := by rw [hlen, rsz_nat]
  have hM2 := L.fit
  obtain ⟨M, hM⟩ : ∃ M, M = rsz 1 n d := ⟨_, rfl⟩
  rw [← hM] at HC hML hM2
  have HM : Hid (M = (enc 1 n d r).length ∧ p + M ≤ xs.length) := ⟨hML, hM2⟩
  clear hM hML hM2 hlen hm L  hC hcnt
  go_enter Try.func21, Try.ntmps21
  go_wp2_with fail
  refine HC.out.mono ?_
  rintro e w2 ⟨G, hG, rfl, hR, hk2⟩
  obtain ⟨W3, hW3⟩ : ∃ W3, W3 = w2.alloc (.cells #[.int .i64 p, .int .i64 1, .int .i64 n, .int .i64 d, .slice (some ⟨G, 0, none⟩) M M] 75) := ⟨_, rfl⟩
  have hk3 : Keeps (fun _ => False) w2 W3 := by rw [hW3]; exact (Keeps.refl _ w2).alloc _
  have hR3 := hR.grown hk3
  have HB3 : Hid (W3 = w2.alloc (.cells #[.int .i64 p, .int .i64 1, .int .i64 n, .int .i64 d, .slice (some ⟨G, 0, none⟩) M M] 75) ∧ Keeps (fun _ => False) w W3 ∧ Rb W3 G 1 n d (enc 1 n d r) ∧ w.heap.size ≤ G ∧ Blk W3 w2.heap.size (#[.int .i64 p, .int .i64 1, .int .i64 n, .int .i64 d, .slice (some ⟨G, 0, none⟩) M M] : Array Value).toList 75) := ⟨hW3, hk2.trans hk3 fun _ _ e => e, hR3, hG, by rw [hW3]; exact Blk.new w2 _ 75⟩
  have HZ : Hid (Calls Try.prog 47 #[.agg #[.int .i64 p, .int .i64 1, .int .i64 n, .int .i64 d, .slice (some ⟨G, 0, none⟩) M M]] W3 fun e w' => e = .returned (.int .i64 C) ∧ Keeps (fun _ => False) W3 w') := by
    have q := size_any p G 1 n d M _ W3 hR3 HM.out.1
    rw [HCN.out] at q
    exact q
  clear hk2 hk3 hR hR3 hW3 hG HC
  go_wp2_with fail
  rw [← HB3.out.1]
  refine HZ.out.mono ?_
  rintro e w4 ⟨rfl, hk4⟩
  have HK4 : Hid (Keeps _ _ _) := hk4
  clear hk4 HZ
  go_wp2
  go_ret2
  exact ⟨rfl, HB3.out.2.1.trans HK4.out fun _ _ e => e⟩

theorem ret3 {a b c x y z : Value} (h1 : a = x) (h2 : b = y) (h3 : c = z) : Ending.returned (.tuple #[a, b, c]) = .returned (.tuple #[x, y, z]) := by rw [h1, h2, h3]

set_option maxRecDepth 20000 in
set_option maxHeartbeats 1000000 in
theorem look3_no (nil : Bool) (b g : Nat) (xs : List UInt32) (p : Int) (n d : Int) (w : World) (hm : nil = false → Mm w b g xs) (hp : p ≤ 9223372036854775807) (he : lkE nil xs p 3 n d ≠ 0) :
    Calls Try.prog 18 #[mpv nil b, .int .i64 p, .int .i64 n, .int .i64 d] w fun e w' => e = .returned (.tuple #[.slice none 0 0, .bool false, .int .i64 (lkE nil xs p 3 n d)]) ∧ Keeps (fun _ => False) w w' := by
  have HC : Hid (Calls Try.prog 39 #[mpv nil b, .int .i64 p, .int .i64 3, .int .i64 n, .int .i64 d] w fun e w' => e = .returned (.tuple #[rw0, .int .i64 (lkE nil xs p 3 n d)]) ∧ Keeps (fun _ => False) w w') := look_no nil b g xs p 3 n d w hm (by omega) hp he
  obtain ⟨E, hE⟩ : ∃ E, E = lkE nil xs p 3 n d := ⟨_, rfl⟩
  rw [← hE] at HC he ⊢
  have hE0 : (E != 0) = true := bne_iff_ne.2 he
  obtain ⟨v, hv⟩ : ∃ v, v = (if nil then (none : Option Addr) else some ⟨b, 0, none⟩) := ⟨_, rfl⟩
  unfold mpv at HC ⊢
  rw [← hv] at HC ⊢
  clear hE he hv hm hp
  go_enter Try.func18, Try.ntmps18
  go_wp2_with fail
  refine HC.out.mono ?_
  rintro e w2 ⟨rfl, hk2⟩
  have HK2 : Hid (Keeps _ _ _) := hk2
  clear hk2 HC
  go_wp2
  go_returns
  exact ⟨rfl, HK2.out.alloc _⟩

set_option maxRecDepth 20000 in
set_option maxHeartbeats 1000000 in
theorem look3_none (b g : Nat) (xs : List UInt32) (p n d : Nat) (r : Rw) (w : World) (hm : Mm w b g xs) (L : Lies xs p 3 n d r) (h0 : r.ms = []) :
    Calls Try.prog 18 #[.pointer (some ⟨b, 0, none⟩), .int .i64 p, .int .i64 n, .int .i64 d] w fun e w' => e = .returned (.tuple #[.slice none 0 0, .bool false, .int .i64 0]) ∧ Keeps (fun _ => False) w w' := by
  have hcnt := cnt_enc (h := 3) (by omega) L.ok L.d2
  obtain ⟨C, hC⟩ : ∃ C, C = r.ms.length := ⟨_, rfl⟩
  rw [← hC] at hcnt
  have HCN : Hid (cntW 3 (enc 3 n d r) = C) := hcnt
  rw [h0] at hC
  obtain rfl : C = 0 := hC
  have HC : Hid (Calls Try.prog 39 #[.pointer (some ⟨b, 0, none⟩), .int .i64 p, .int .i64 3, .int .i64 n, .int .i64 d] w fun e w' => ∃ G, w.heap.size ≤ G ∧ e = .returned (.tuple #[.agg #[.int .i64 p, .int .i64 3, .int .i64 n, .int .i64 d, .slice (some ⟨G, 0, none⟩) (rsz 3 n d) (rsz 3 n d)], .int .i64 0]) ∧ Rb w' G 3 n d (enc 3 n d r) ∧ Keeps (fun _ => False) w w') := look_yes b g xs p 3 n d r w hm (by omega) L
  have HL : Hid (Mm w b g xs ∧ Lies xs p 3 n d r) := ⟨hm, L⟩
  have hlen := enc_length (h := 3) (by omega) L.ok
  have hML : rsz 3 n d = (enc 3 n d r).length := by rw [hlen, rsz_nat]
  have hM2 := L.fit
  obtain ⟨M, hM⟩ : ∃ M, M = rsz 3 n d := ⟨_, rfl⟩
  rw [← hM] at HC hML hM2
  have HM : Hid (M = (enc 3 n d r).length ∧ p + M ≤ xs.length) := ⟨hML, hM2⟩
  clear hM hML hM2 hlen hm L h0 hcnt
  go_enter Try.func18, Try.ntmps18
  go_wp2_with fail
  refine HC.out.mono ?_
  rintro e w2 ⟨G, hG, rfl, hR, hk2⟩
  obtain ⟨W3, hW3⟩ : ∃ W3, W3 = w2.alloc (.cells #[.int .i64 p, .int .i64 3, .int .i64 n, .int .i64 d, .slice (some ⟨G, 0, none⟩) M M] 75) := ⟨_, rfl⟩
  have hk3 : Keeps (fun _ => False) w2 W3 := by rw [hW3]; exact (Keeps.refl _ w2).alloc _
  have hR3 := hR.grown hk3
  have HB3 : Hid (W3 = w2.alloc (.cells #[.int .i64 p, .int .i64 3, .int .i64 n, .int .i64 d, .slice (some ⟨G, 0, none⟩) M M] 75) ∧ Keeps (fun _ => False) w W3 ∧ Rb W3 G 3 n d (enc 3 n d r) ∧ w.heap.size ≤ G ∧ Blk W3 w2.heap.size (#[.int .i64 p, .int .i64 3, .int .i64 n, .int .i64 d, .slice (some ⟨G, 0, none⟩) M M] : Array Value).toList 75) := ⟨hW3, hk2.trans hk3 fun _ _ e => e, hR3, hG, by rw [hW3]; exact Blk.new w2 _ 75⟩
  have HZ : Hid (Calls Try.prog 47 #[.agg #[.int .i64 p, .int .i64 3, .int .i64 n, .int .i64 d, .slice (some ⟨G, 0, none⟩) M M]] W3 fun e w' => e = .returned (.int .i64 0) ∧ Keeps (fun _ => False) W3 w') := by
    have q := size_any p G 3 n d M _ W3 hR3 HM.out.1
    rw [HCN.out] at q
    exact q
  clear hk2 hk3 hR hR3 hW3 hG HC
  go_wp2_with fail
  rw [← HB3.out.1]
  refine HZ.out.mono ?_
  rintro e w4 ⟨rfl, hk4⟩
  have HK4 : Hid (Keeps _ _ _) := hk4
  clear hk4 HZ
  go_wp2
  go_returns
  exact ⟨rfl, HB3.out.2.1.trans HK4.out fun _ _ e => e⟩

set_option maxRecDepth 20000 in
set_option maxHeartbeats 1000000 in
theorem look3_some (b g : Nat) (xs : List UInt32) (p n d : Nat) (r : Rw) (w : World) (hm : Mm w b g xs) (L : Lies xs p 3 n d r) (m : List UInt32) (t : List (List UInt32)) (h0 : r.ms = m :: t) :
    Calls Try.prog 18 #[.pointer (some ⟨b, 0, none⟩), .int .i64 p, .int .i64 n, .int .i64 d] w fun e w' => ∃ B, w.heap.size ≤ B ∧ e = .returned (.tuple #[.slice (some ⟨B, 0, none⟩) m.length m.length, .bool true, .int .i64 0]) ∧ Blk w' B (wvs m) 52 ∧ Keeps (fun _ => False) w w' := by
  have hcnt := cnt_enc (h := 3) (by omega) L.ok L.d2
  obtain ⟨C, hC⟩ : ∃ C, C = r.ms.length := ⟨_, rfl⟩
  rw [← hC] at hcnt
  have HCN : Hid (cntW 3 (enc 3 n d r) = C) := hcnt
  have hC1 : ((C : Int) == 0) = false := beq_eq_false_iff_ne.2 (by rw [hC, h0]; simp; omega)
  have hpl : plc 3 n d (enc 3 n d r) 0 = plW n m := by
    have := plc_enc (h := 3) (by omega) L.ok L.d2 (i := 0) (by have := L.d1; omega)
    rw [h0] at this
    exact this
  have hml := L.ok.l m (by rw [h0]; simp)
  have hmsg : msgO (plW n m) = m := msg_plW hml.2 L.n2
  have hw0 : (wd (plW n m) 0).toNat ≤ n := by
    show (UInt32.ofNat m.length).toNat ≤ n
    rw [ofNat_len (by have := L.n2; omega)]; exact hml.2
  have HP : Hid (plc 3 n d (enc 3 n d r) 0 = plW n m ∧ msgO (plW n m) = m ∧ (wd (plW n m) 0).toNat ≤ n ∧ fstW 3 (enc 3 n d r) < d ∧ 0 < d) := ⟨hpl, hmsg, hw0, by rw [fst_enc (by omega) L.ok L.d2]; exact L.ok.f, by have := L.d1; omega⟩
  have HC : Hid (Calls Try.prog 39 #[.pointer (some ⟨b, 0, none⟩), .int .i64 p, .int .i64 3, .int .i64 n, .int .i64 d] w fun e w' => ∃ G, w.heap.size ≤ G ∧ e = .returned (.tuple #[.agg #[.int .i64 p, .int .i64 3, .int .i64 n, .int .i64 d, .slice (some ⟨G, 0, none⟩) (rsz 3 n d) (rsz 3 n d)], .int .i64 0]) ∧ Rb w' G 3 n d (enc 3 n d r) ∧ Keeps (fun _ => False) w w') := look_yes b g xs p 3 n d r w hm (by omega) L
  have HL : Hid (Mm w b g xs ∧ Lies xs p 3 n d r) := ⟨hm, L⟩
  have hlen := enc_length (h := 3) (by omega) L.ok
  have hML : rsz 3 n d = (enc 3 n d r).length := by rw [hlen, rsz_nat]
  have hM2 := L.fit
  obtain ⟨M, hM⟩ : ∃ M, M = rsz 3 n d := ⟨_, rfl⟩
  rw [← hM] at HC hML hM2
  have HM : Hid (M = (enc 3 n d r).length ∧ p + M ≤ xs.length) := ⟨hML, hM2⟩
  clear hM hML hM2 hlen hm L h0 hC hcnt hpl hml hmsg hw0
  go_enter Try.func18, Try.ntmps18
  go_wp2_with fail
  refine HC.out.mono ?_
  rintro e w2 ⟨G, hG, rfl, hR, hk2⟩
  obtain ⟨W3, hW3⟩ : ∃ W3, W3 = w2.alloc (.cells #[.int .i64 p, .int .i64 3, .int .i64 n, .int .i64 d, .slice (some ⟨G, 0, none⟩) M M] 75) := ⟨_, rfl⟩
  have hk3 : Keeps (fun _ => False) w2 W3 := by rw [hW3]; exact (Keeps.refl _ w2).alloc _
  have hR3 := hR.grown hk3
  have HB3 : Hid (W3 = w2.alloc (.cells #[.int .i64 p, .int .i64 3, .int .i64 n, .int .i64 d, .slice (some ⟨G, 0, none⟩) M M] 75) ∧ Keeps (fun _ => False) w W3 ∧ Rb W3 G 3 n d (enc 3 n d r) ∧ w.heap.size ≤ G ∧ Blk W3 w2.heap.size (#[.int .i64 p, .int .i64 3, .int .i64 n, .int .i64 d, .slice (some ⟨G, 0, none⟩) M M] : Array Value).toList 75) := ⟨hW3, hk2.trans hk3 fun _ _ e => e, hR3, hG, by rw [hW3]; exact Blk.new w2 _ 75⟩
  have HZ : Hid (Calls Try.prog 47 #[.agg #[.int .i64 p, .int .i64 3, .int .i64 n, .int .i64 d, .slice (some ⟨G, 0, none⟩) M M]] W3 fun e w' => e = .returned (.int .i64 C) ∧ Keeps (fun _ => False) W3 w') := by
    have q := size_any p G 3 n d M _ W3 hR3 HM.out.1
    rw [HCN.out] at q
    exact q
  have HMS : Hid (∀ w4, Keeps (fun _ => False) W3 w4 → Calls Try.prog 49 #[.agg #[.int .i64 p, .int .i64 3, .int .i64 n, .int .i64 d, .slice (some ⟨G, 0, none⟩) M M], .int .i64 0] w4 fun e w' => ∃ B, w4.heap.size ≤ B ∧ e = .returned (.slice (some ⟨B, 0, none⟩) m.length m.length) ∧ Blk w' B (wvs m) 52 ∧ Keeps (fun _ => False) w4 w') := fun w4 k4 => by
    have q := message_any p G 3 n d M _ w4 0 (hR3.grown k4) HM.out.1 HP.out.2.2.2.1 HP.out.2.2.2.2 (by rw [HP.out.1]; exact HP.out.2.2.1)
    rw [HP.out.1, HP.out.2.1] at q
    exact q
  clear hk2 hk3 hR hR3 hW3 hG HC
  go_wp2_with fail
  rw [← HB3.out.1]
  refine HZ.out.mono ?_
  rintro e w4 ⟨rfl, hk4⟩
  have HMS4 : Hid (Calls _ _ _ _ _) := HMS.out w4 hk4
  obtain ⟨Q, hQ⟩ : ∃ Q, Q = w2.heap.size := ⟨_, rfl⟩
  have hb4 := HB3.out.2.2.2.2.kept hk4 fun e => e
  rw [← hQ] at hb4 ⊢
  have e0 : w4.cell? ⟨Q, 0, none⟩ = some (.int .i64 p) := hb4.cell rfl
  have e1 : w4.cell? ⟨Q, 1, none⟩ = some (.int .i64 3) := hb4.cell rfl
  have e2 : w4.cell? ⟨Q, 2, none⟩ = some (.int .i64 n) := hb4.cell rfl
  have e3 : w4.cell? ⟨Q, 3, none⟩ = some (.int .i64 d) := hb4.cell rfl
  have e4 : w4.cell? ⟨Q, 4, none⟩ = some (.slice (some ⟨G, 0, none⟩) M M) := hb4.cell rfl
  have HQ4 : Hid (Q = w2.heap.size ∧ Blk w4 Q (#[.int .i64 p, .int .i64 3, .int .i64 n, .int .i64 d, .slice (some ⟨G, 0, none⟩) M M] : Array Value).toList 75) := ⟨hQ, hb4⟩
  clear hQ hb4
  have HK4 : Hid (Keeps _ _ _) := hk4
  clear hk4 HZ HMS
  go_wp2_with fail
  refine HMS4.out.mono ?_
  rintro e w5 ⟨B, hB, rfl, hB5, hk5⟩
  have HK5 : Hid (Blk _ _ _ _ ∧ Keeps _ _ _ ∧ w4.heap.size ≤ B) := ⟨hB5, hk5, hB⟩
  clear hB hB5 hk5 HMS4 e0 e1 e2 e3 e4
  go_wp2
  go_returns
  have hk := HB3.out.2.1.trans HK4.out fun _ _ e => e
  exact ⟨B, by have := hk.size; have := HK5.out.2.2; omega, rfl, HK5.out.1, hk.trans HK5.out.2.1 fun _ _ e => e⟩

end Go.Proofs.Ytekijhhpldnmnaa
