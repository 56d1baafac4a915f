import Derived.Test.YtfcgpjojjehkiaaK
namespace Go.Proofs.Ytfcgpjojjehkiaa
open Go.RowKit
set_option linter.unusedVariables false

def stN (nil : Bool) (xs : List UInt32) (p n : Int) : Nat := if lkE nil xs p 2 n = 0 then (wd xs p.toNat).toNat else 0

theorem win_wd (xs : List UInt32) (p m i : Nat) (h : i < m) : wd (win xs p m) i = wd xs (p + i) := by
  unfold wd win
  rw [List.getD_eq_getElem?_getD, List.getD_eq_getElem?_getD, List.getElem?_take, if_pos h, List.getElem?_drop]

set_option maxHeartbeats 400000 in
theorem staged_ok (nil : Bool) (b g : Nat) (xs : List UInt32) (p n : Int) (w : World) (hm : Mm w b g xs) (he : lkE nil xs p 2 n = 0) :
    Calls Try.prog 18 #[mpv nil b, .int .i64 p, .int .i64 n] w fun e w' => e = .returned (.tuple #[.int .i64 ((wd xs p.toNat).toNat : Int), .int .i64 0]) ∧ Keeps (fun _ => False) w w' := by
  obtain ⟨he1, he2⟩ := lkE_ok he
  obtain ⟨rfl, t1, t2, t3, t4⟩ := tkE_ok he1
  have HA : Hid (Calls _ _ _ _ _) := stageAt_any p n w
  have HT := fun W (k : Keeps (fun _ => False) w W) => look_ok false b g xs p 2 n W (hm.kept k (fun e => e) (fun e => e)) (by omega) he
  unfold TkP at HT
  obtain ⟨l, hl⟩ : ∃ l, l = win xs p.toNat (2 + n.toNat) := ⟨_, rfl⟩
  have hw0 : wd l 0 = wd xs p.toNat := by rw [hl, win_wd _ _ _ _ (by omega), Nat.add_zero]
  have hlen : l.length = 2 + n.toNat := by rw [hl]; exact win_length _ _ _ (by omega)
  rw [← hl] at HT
  rw [← hw0]
  have HC : Hid (∀ W B, Blk W B (wvs l) 34 → W.cell? ⟨B, 0, none⟩ = some (.int .u32 ((wd l 0).toNat : Int))) := fun W B h => h.cell (wvs_wd (by omega))
  obtain ⟨L, hL⟩ : ∃ L, L = l.length := ⟨_, rfl⟩
  rw [← hL] at HT hlen
  obtain ⟨v, hv⟩ : ∃ v : Nat, v = (wd l 0).toNat := ⟨_, rfl⟩
  have HT : Hid (∀ W, Keeps (fun _ => False) w W → Calls Try.prog 44 #[bxv p 2 n, .pointer (some ⟨b, 0, none⟩)] W fun e w' => ∃ B, W.heap.size ≤ B ∧ e = .returned (.tuple #[.slice (some ⟨B, 0, none⟩) L L, .int .i64 0]) ∧ Blk w' B (wvs l) 34 ∧ Keeps (fun _ => False) W w') := HT
  rw [← hv] at HC ⊢
  have HV : Hid (v < 4294967296) := by rw [hv]; exact (wd l 0).toNat_lt
  have g1 : 0 < (L : Int) := by omega
  clear hm he he1 he2 t1 t2 t3 t4 hl hw0 hlen hL hv
  go_enter Try.func18, Try.ntmps18
  go_wp2_with fail
  refine HA.out.mono ?_
  rintro e w1 ⟨rfl, hk⟩
  have HT2 : Hid (Calls _ _ _ _ _) := HT.out w1 hk
  have HK1 : Hid (Keeps (fun _ => False) w w1) := hk
  clear hk HA HT
  go_wp2_with fail
  refine HT2.out.mono ?_
  rintro e w2 ⟨B, -, rfl, hB, hk⟩
  have c0 := HC.out w2 B hB
  have HK2 : Hid (Keeps (fun _ => False) w w2) := HK1.out.trans hk fun _ _ e => e
  have hw : IntKind.i64.wrap (v : Int) = (v : Int) := by rw [IntKind.wrap_i64]; have := HV.out; omega
  clear hk HT2 HK1 hB HC
  go_wp2
  go_ret2
  exact ⟨by first | rfl | simp only [hw], HK2.out⟩

set_option maxHeartbeats 400000 in
theorem staged_no (nil : Bool) (b g : Nat) (xs : List UInt32) (p n : Int) (w : World) (hm : Mm w b g xs) (hp : p ≤ 9223372036854775807) (he : lkE nil xs p 2 n ≠ 0) :
    Calls Try.prog 18 #[mpv nil b, .int .i64 p, .int .i64 n] w fun e w' => e = .returned (.tuple #[.int .i64 0, .int .i64 (lkE nil xs p 2 n)]) ∧ Keeps (fun _ => False) w w' := by
  have HA : Hid (Calls _ _ _ _ _) := stageAt_any p n w
  have HT := fun W (k : Keeps (fun _ => False) w W) => look_no nil b g xs p 2 n W (hm.kept k (fun e => e) (fun e => e)) (by omega) hp he
  obtain ⟨E, hE⟩ : ∃ E, E = lkE nil xs p 2 n := ⟨_, rfl⟩
  rw [← hE] at HT he ⊢
  have hE2 : (E != 0) = true := bne_iff_ne.2 he
  unfold mpv at HT ⊢
  obtain ⟨pv, hpv⟩ : ∃ pv : Option Addr, pv = if nil then none else some ⟨b, 0, none⟩ := ⟨_, rfl⟩
  rw [← hpv] at HT ⊢
  have HT : Hid (∀ W, Keeps (fun _ => False) w W → Calls Try.prog 44 #[bxv p 2 n, .pointer pv] W fun e w' => e = .returned (.tuple #[.slice none 0 0, .int .i64 E]) ∧ Keeps (fun _ => False) W w') := HT
  clear hm hp he hE hpv
  go_enter Try.func18, Try.ntmps18
  go_wp2_with fail
  refine HA.out.mono ?_
  rintro e w1 ⟨rfl, hk⟩
  have HT2 : Hid (Calls _ _ _ _ _) := HT.out w1 hk
  have HK1 : Hid (Keeps (fun _ => False) w w1) := hk
  clear hk HA HT
  go_wp2_with fail
  refine HT2.out.mono ?_
  rintro e w2 ⟨rfl, hk⟩
  have HK2 : Hid (Keeps (fun _ => False) w w2) := HK1.out.trans hk fun _ _ e => e
  clear hk HT2 HK1
  go_wp2
  go_ret2
  exact ⟨rfl, HK2.out⟩

theorem staged_any (nil : Bool) (b g : Nat) (xs : List UInt32) (p n : Int) (w : World) (hm : Mm w b g xs) (hp : p ≤ 9223372036854775807) :
    Calls Try.prog 18 #[mpv nil b, .int .i64 p, .int .i64 n] w fun e w' => e = .returned (.tuple #[.int .i64 (stN nil xs p n : Int), .int .i64 (lkE nil xs p 2 n)]) ∧ Keeps (fun _ => False) w w' := by
  unfold stN
  by_cases he : lkE nil xs p 2 n = 0
  · rw [if_pos he, he]; exact staged_ok nil b g xs p n w hm he
  · rw [if_neg he]; exact staged_no nil b g xs p n w hm hp he

/-- What Read tells. -/
def rdT (nil : Bool) (xs : List UInt32) (p n : Int) : Bool := decide (lkE nil xs p 3 n = 0) && decide (wd xs p.toNat ≠ 0)
def rdF (nil : Bool) (xs : List UInt32) (p n : Int) : Bool := rdT nil xs p n && decide (wd xs (p.toNat + 1) = 1)
def rdM (nil : Bool) (xs : List UInt32) (p n : Int) : List UInt32 := if rdT nil xs p n then win xs (p.toNat + 3) (wd xs (p.toNat + 2)).toNat else []

/-- Words that a call told: in a block of their own. -/
def Told (w w' : World) (v : Value) (ms : List UInt32) : Prop :=
  (ms = [] ∧ v = .slice none 0 0) ∨ ∃ G, w.heap.size ≤ G ∧ v = .slice (some ⟨G, 0, none⟩) ms.length ms.length ∧ Blk w' G (wvs ms) 34

def RdP (w : World) (ms : List UInt32) (F T : Bool) (E : Int) (e : Ending) (w' : World) : Prop :=
  ∃ v, e = .returned (.tuple #[v, .bool F, .bool T, .int .i64 E]) ∧ Told w w' v ms ∧ Keeps (fun _ => False) w w'

theorem right_len {h n : Nat} {l : List UInt32} (hr : rightB h n l = true) (h0 : wd l 0 ≠ 0) : wd l 0 = 1 ∧ 1 ≤ (wd l (h - 1)).toNat ∧ (wd l (h - 1)).toNat ≤ n := by
  unfold rightB at hr
  rw [if_neg h0] at hr
  by_cases h1 : h = 3 ∧ 1 < (wd l 1).toNat
  · rw [if_pos h1] at hr; cases hr
  · rw [if_neg h1] at hr
    by_cases h2 : wd l 0 ≠ 1 ∨ (wd l (h - 1)).toNat < 1 ∨ n < (wd l (h - 1)).toNat
    · rw [if_pos h2] at hr; cases hr
    · by_cases h3 : wd l 0 = 1
      · exact ⟨h3, by omega, by omega⟩
      · exact absurd (.inl h3) h2

set_option maxHeartbeats 400000 in
theorem read_no (nil : Bool) (b g : Nat) (xs : List UInt32) (p n : Int) (w : World) (hm : Mm w b g xs) (hp : p ≤ 9223372036854775807) (he : lkE nil xs p 3 n ≠ 0) :
    Calls Try.prog 26 #[mpv nil b, .int .i64 p, .int .i64 n] w (RdP w [] false false (lkE nil xs p 3 n)) := by
  have HA : Hid (Calls _ _ _ _ _) := portAt_any p n w
  have HT := fun W (k : Keeps (fun _ => False) w W) => look_no nil b g xs p 3 n W (hm.kept k (fun e => e) (fun e => e)) (by omega) hp he
  obtain ⟨E, hE⟩ : ∃ E, E = lkE nil xs p 3 n := ⟨_, rfl⟩
  rw [← hE] at HT he ⊢
  have hE2 : (E != 0) = true := bne_iff_ne.2 he
  unfold mpv at HT ⊢
  obtain ⟨pv, hpv⟩ : ∃ pv : Option Addr, pv = if nil then none else some ⟨b, 0, none⟩ := ⟨_, rfl⟩
  rw [← hpv] at HT ⊢
  have HT : Hid (∀ W, Keeps (fun _ => False) w W → Calls Try.prog 44 #[bxv p 3 n, .pointer pv] W fun e w' => e = .returned (.tuple #[.slice none 0 0, .int .i64 E]) ∧ Keeps (fun _ => False) W w') := HT
  clear hm hp he hE hpv
  go_enter Try.func26, Try.ntmps26
  go_wp2_with fail
  refine HA.out.mono ?_
  rintro e w1 ⟨rfl, hk⟩
  have HT2 : Hid (Calls _ _ _ _ _) := HT.out _ (hk.alloc (.cells #[.int .i64 p, .int .i64 3, .int .i64 n] 69))
  have HK1 : Hid (Keeps (fun _ => False) w (w1.alloc (.cells #[.int .i64 p, .int .i64 3, .int .i64 n] 69))) := hk.alloc _
  clear hk HA HT
  go_wp2_with fail
  refine HT2.out.mono ?_
  rintro e w2 ⟨rfl, hk⟩
  have HK2 : Hid (Keeps (fun _ => False) w w2) := HK1.out.trans hk fun _ _ e => e
  clear hk HT2 HK1
  go_wp2
  go_returns
  exact ⟨_, rfl, .inl ⟨rfl, rfl⟩, HK2.out⟩

set_option maxHeartbeats 1000000 in
theorem read_ok (nil : Bool) (b g : Nat) (xs : List UInt32) (p n : Int) (w : World) (hm : Mm w b g xs) (he : lkE nil xs p 3 n = 0) :
    Calls Try.prog 26 #[mpv nil b, .int .i64 p, .int .i64 n] w (RdP w (rdM nil xs p n) (rdF nil xs p n) (rdT nil xs p n) 0) := by
  obtain ⟨he1, he2⟩ := lkE_ok he
  obtain ⟨rfl, t1, t2, t3, t4⟩ := tkE_ok he1
  have HA : Hid (Calls _ _ _ _ _) := portAt_any p n w
  have HT := fun W (k : Keeps (fun _ => False) w W) => look_ok false b g xs p 3 n W (hm.kept k (fun e => e) (fun e => e)) (by omega) he
  unfold TkP at HT
  obtain ⟨l, hl⟩ : ∃ l, l = win xs p.toNat (3 + n.toNat) := ⟨_, rfl⟩
  have hw0 : wd l 0 = wd xs p.toNat := by rw [hl, win_wd _ _ _ _ (by omega), Nat.add_zero]
  have hw1 : wd l 1 = wd xs (p.toNat + 1) := by rw [hl, win_wd _ _ _ _ (by omega)]
  have hw2 : wd l 2 = wd xs (p.toNat + 2) := by rw [hl, win_wd _ _ _ _ (by omega)]
  have hlen : l.length = 3 + n.toNat := by rw [hl]; exact win_length _ _ _ (by omega)
  rw [← hl] at HT he2
  have eM : wd l 0 ≠ 0 → rdM false xs p n = (l.drop 3).take (wd l 2).toNat := by
    intro h0
    obtain ⟨-, k1, k2⟩ := right_len he2 h0
    unfold rdM rdT
    rw [he, ← hw0, ← hw2]
    simp only [decide_true, Bool.true_and, decide_eq_true_eq]
    rw [if_pos h0, hl]
    have hk2 : (wd (win xs p.toNat (3 + n.toNat)) 2).toNat ≤ n.toNat := by rw [← hl]; exact k2
    unfold win at hk2 ⊢
    rw [List.drop_take, List.drop_drop, List.take_take, show 3 + n.toNat - 3 = n.toNat by omega, Nat.min_eq_left hk2]
  have eT : rdT false xs p n = decide (wd l 0 ≠ 0) := by unfold rdT; rw [he, hw0]; simp
  have eF : rdF false xs p n = (decide (wd l 0 ≠ 0) && decide (wd l 1 = 1)) := by unfold rdF; rw [eT, hw1]
  have HC : Hid (∀ W B, Blk W B (wvs l) 34 → W.cell? ⟨B, 0, none⟩ = some (.int .u32 ((wd l 0).toNat : Int)) ∧ W.cell? ⟨B, 1, none⟩ = some (.int .u32 ((wd l 1).toNat : Int))) := fun W B h => ⟨h.cell (wvs_wd (by omega)), h.cell (wvs_wd (by omega))⟩
  have HMs : wd l 0 ≠ 0 → ∀ W B, Blk W B (wvs l) 34 → Calls Try.prog 39 #[bxv p 3 n, .slice (some ⟨B, 0, none⟩) l.length l.length] W fun e w' => ∃ G, W.heap.size ≤ G ∧ e = .returned (.slice (some ⟨G, 0, none⟩) (wd l 2).toNat (wd l 2).toNat) ∧ Blk w' G (wvs ((l.drop 3).take (wd l 2).toNat)) 34 ∧ Keeps (fun _ => False) W w' := by
    intro h0 W B hB
    obtain ⟨-, k1, k2⟩ := right_len he2 h0
    have := message_any p 3 n.toNat (wd l 2).toNat B l W (segW_of_blk hB) hlen (by omega) rfl k1 k2 (by omega)
    rw [show ((n.toNat : Nat) : Int) = n by omega] at this
    exact this
  have hml : wd l 0 ≠ 0 → ((l.drop 3).take (wd l 2).toNat).length = (wd l 2).toNat := by
    intro h0
    obtain ⟨-, k1, k2⟩ := right_len he2 h0
    have k2' : (wd l 2).toNat ≤ n.toNat := k2
    simp; omega
  have h10 : (((wd l 1).toNat : Int) == 1) = decide (wd l 1 = 1) := by
    by_cases h : wd l 1 = 1
    · rw [h]; rfl
    · have : (wd l 1).toNat ≠ 1 := fun e => h (UInt32.toNat_inj.1 (by simpa using e))
      rw [beq_eq_false_iff_ne.2 (by omega), decide_eq_false h]
  obtain ⟨L, hL⟩ : ∃ L, L = l.length := ⟨_, rfl⟩
  rw [← hL] at HT hlen HMs
  have HT : Hid (∀ W, Keeps (fun _ => False) w W → Calls Try.prog 44 #[bxv p 3 n, .pointer (some ⟨b, 0, none⟩)] W fun e w' => ∃ B, W.heap.size ≤ B ∧ e = .returned (.tuple #[.slice (some ⟨B, 0, none⟩) L L, .int .i64 0]) ∧ Blk w' B (wvs l) 34 ∧ Keeps (fun _ => False) W w') := HT
  have g1 : 2 < (L : Int) := by omega
  by_cases h0 : wd l 0 = 0
  · have e1 : rdT false xs p n = false := by rw [eT, h0]; rfl
    have e2 : rdF false xs p n = false := by rw [eF, h0]; rfl
    have e3 : rdM false xs p n = [] := by unfold rdM; rw [e1]; rfl
    rw [e1, e2, e3]
    rw [h0] at HC
    have e0 : ((0 : UInt32).toNat : Int) = 0 := rfl
    rw [e0] at HC
    clear hm he he1 he2 t1 t2 t3 t4 hl hw0 hw1 hw2 hlen hL eM eT eF HMs hml h10 e1 e2 e3 h0 e0
    go_enter Try.func26, Try.ntmps26
    go_wp2_with fail
    refine HA.out.mono ?_
    rintro e w1 ⟨rfl, hk⟩
    have HT2 : Hid (Calls _ _ _ _ _) := HT.out _ (hk.alloc (.cells #[.int .i64 p, .int .i64 3, .int .i64 n] 69))
    have HK1 : Hid (Keeps (fun _ => False) w (w1.alloc (.cells #[.int .i64 p, .int .i64 3, .int .i64 n] 69))) := hk.alloc _
    clear hk HA HT
    go_wp2_with fail
    refine HT2.out.mono ?_
    rintro e w2 ⟨B, -, rfl, hB, hk⟩
    have c0 := (HC.out w2 B hB).1
    have HK2 : Hid (Keeps (fun _ => False) w w2) := HK1.out.trans hk fun _ _ e => e
    clear hk HT2 HK1 hB HC
    go_wp2
    go_returns
    exact ⟨_, rfl, .inl ⟨rfl, rfl⟩, HK2.out⟩
  · have e1 : rdT false xs p n = true := by rw [eT]; simpa using h0
    have e2 : rdF false xs p n = decide (wd l 1 = 1) := by rw [eF]; simp [h0]
    rw [e1, e2, eM h0, ← h10]
    have HMs2 := HMs h0
    have hv0 : (((wd l 0).toNat : Int) == 0) = false := by
      have : (wd l 0).toNat ≠ 0 := fun e => h0 (UInt32.toNat_inj.1 (by simpa using e))
      exact beq_eq_false_iff_ne.2 (by omega)
    have HLen : Hid (((l.drop 3).take (wd l 2).toNat).length = (wd l 2).toNat) := hml h0
    obtain ⟨v0, hv⟩ : ∃ v : Nat, v = (wd l 0).toNat := ⟨_, rfl⟩
    obtain ⟨v1, hv1⟩ : ∃ v : Nat, v = (wd l 1).toNat := ⟨_, rfl⟩
    obtain ⟨k, hk⟩ : ∃ v : Nat, v = (wd l 2).toNat := ⟨_, rfl⟩
    rw [← hv] at HC hv0
    rw [← hv1] at HC ⊢
    rw [← hk] at HMs2 HLen ⊢
    obtain ⟨ms, hms⟩ : ∃ ms, ms = (l.drop 3).take k := ⟨_, rfl⟩
    rw [← hms] at HMs2 HLen ⊢
    have HMs2 : Hid (∀ W B, Blk W B (wvs l) 34 → Calls Try.prog 39 #[bxv p 3 n, .slice (some ⟨B, 0, none⟩) L L] W fun e w' => ∃ G, W.heap.size ≤ G ∧ e = .returned (.slice (some ⟨G, 0, none⟩) k k) ∧ Blk w' G (wvs ms) 34 ∧ Keeps (fun _ => False) W w') := HMs2
    clear hm he he1 he2 t1 t2 t3 t4 hl hw0 hw1 hw2 hlen hL eM eT eF HMs hml h10 e1 e2 h0 hv hv1 hk hms
    go_enter Try.func26, Try.ntmps26
    go_wp2_with fail
    refine HA.out.mono ?_
    rintro e w1 ⟨rfl, hk⟩
    have hBb := Blk.new w1 #[.int .i64 p, .int .i64 3, .int .i64 n] 69
    have HT2 : Hid (Calls _ _ _ _ _) := HT.out _ (hk.alloc (.cells #[.int .i64 p, .int .i64 3, .int .i64 n] 69))
    have HK1 : Hid (Keeps (fun _ => False) w (w1.alloc (.cells #[.int .i64 p, .int .i64 3, .int .i64 n] 69)) ∧ Blk (w1.alloc (.cells #[.int .i64 p, .int .i64 3, .int .i64 n] 69)) w1.heap.size [.int .i64 p, .int .i64 3, .int .i64 n] 69) := ⟨hk.alloc _, hBb⟩
    clear hk HA HT hBb
    go_wp2_with fail
    refine HT2.out.mono ?_
    rintro e w2 ⟨B, -, rfl, hB, hk⟩
    have c0 := (HC.out w2 B hB).1
    have d0 := (HK1.out.2.kept hk fun e => e).cell (i := 0) rfl
    have d1 := (HK1.out.2.kept hk fun e => e).cell (i := 1) rfl
    have d2 := (HK1.out.2.kept hk fun e => e).cell (i := 2) rfl
    have HK2 : Hid (Keeps (fun _ => False) w w2 ∧ Blk w2 B (wvs l) 34) := ⟨HK1.out.1.trans hk fun _ _ e => e, hB⟩
    have HM3 : Hid (Calls _ _ _ _ _) := HMs2.out w2 B hB
    clear hk HT2 HK1 hB HMs2
    go_wp2_with fail
    refine HM3.out.mono ?_
    rintro e w3 ⟨G, hGs, rfl, hG, hk⟩
    have c1 := (HC.out w3 B (HK2.out.2.kept hk fun e => e)).2
    have HK3 : Hid (Keeps (fun _ => False) w w3 ∧ Blk w3 G (wvs ms) 34 ∧ w.heap.size ≤ G) := ⟨HK2.out.1.trans hk fun _ _ e => e, hG, Nat.le_trans HK2.out.1.size hGs⟩
    clear hk HM3 HK2 hG hGs c0 d0 d1 d2 HC
    go_wp2
    go_returns
    exact ⟨_, rfl, .inr ⟨G, HK3.out.2.2, by rw [HLen.out], HK3.out.2.1⟩, HK3.out.1⟩

theorem read_any (nil : Bool) (b g : Nat) (xs : List UInt32) (p n : Int) (w : World) (hm : Mm w b g xs) (hp : p ≤ 9223372036854775807) :
    Calls Try.prog 26 #[mpv nil b, .int .i64 p, .int .i64 n] w (RdP w (rdM nil xs p n) (rdF nil xs p n) (rdT nil xs p n) (lkE nil xs p 3 n)) := by
  by_cases he : lkE nil xs p 3 n = 0
  · rw [he]; exact read_ok nil b g xs p n w hm he
  · have e1 : rdT nil xs p n = false := by unfold rdT; rw [decide_eq_false he]; rfl
    have e2 : rdF nil xs p n = false := by unfold rdF; rw [e1]; rfl
    have e3 : rdM nil xs p n = [] := by unfold rdM; rw [e1]; rfl
    rw [e1, e2, e3]
    exact read_no nil b g xs p n w hm hp he

end Go.Proofs.Ytfcgpjojjehkiaa
