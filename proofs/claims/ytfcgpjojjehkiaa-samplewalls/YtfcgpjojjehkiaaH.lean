import Derived.Test.YtfcgpjojjehkiaaG
namespace Go.Proofs.Ytfcgpjojjehkiaa
open Go.RowKit
set_option linter.unusedVariables false

set_option maxRecDepth 20000 in
set_option maxHeartbeats 1000000 in
theorem right_mark (p : Int) (n B : Nat) (l : List UInt32) (w : World) (hs : SegW w (some ⟨B, 0, none⟩) l) (hl : l.length = 3 + n) (h1 : 1 ≤ n) (h2 : n ≤ 16) (h0 : wd l 0 ≠ 0) (hmk : 1 < (wd l 1).toNat) :
    Calls Try.prog 41 #[bxv p 3 n, .slice (some ⟨B, 0, none⟩) l.length l.length] w fun e w' => e = .returned (.bool false) ∧ Keeps (fun _ => False) w w' := by
  obtain ⟨W, hW, hK, hB⟩ := box_new w p 3 n
  have hs2 := hs.kept hK (fun _ _ e => e)
  have c0 := hs2.wd (j := 0) (by omega)
  have c1 := hs2.wd (j := 1) (by omega)
  have d1 : W.cell? ⟨w.heap.size, 1, none⟩ = some (.int .i64 3) := hB.cell rfl
  rw [Nat.zero_add] at c0 c1
  have hv0 : ((wd l 0).toNat : Int) ≠ 0 := by
    have : (wd l 0).toNat ≠ 0 := fun e => h0 (UInt32.toNat_inj.1 (by simpa using e))
    omega
  obtain ⟨v0, hv⟩ : ∃ v : Nat, v = (wd l 0).toNat := ⟨_, rfl⟩
  obtain ⟨v1, hv1⟩ : ∃ v : Nat, v = (wd l 1).toNat := ⟨_, rfl⟩
  rw [← hv] at c0 hv0
  rw [← hv1] at c1 hmk
  have q0 : ((v0 : Int) == 0) = false := beq_eq_false_iff_ne.2 hv0
  have hmk' : (1 : Int) < (v1 : Int) := by omega
  rw [hl]
  obtain ⟨O, hO⟩ : ∃ O, O = w.heap.size := ⟨_, rfl⟩
  rw [← hO] at d1
  have HW : Hid (W = _ ∧ Keeps (fun _ => False) w W ∧ O = w.heap.size) := ⟨hW, hK, hO⟩
  have HC : Hid (W.cell? ⟨B, 1, none⟩ = some (.int .u32 (v1 : Int)) ∧ W.cell? ⟨O, 1, none⟩ = some (.int .i64 3)) := ⟨c1, d1⟩
  have c0' : (w.alloc (.cells #[.int .i64 p, .int .i64 3, .int .i64 (n : Int)] 69)).cell? ⟨B, 0, none⟩ = some (.int .u32 (v0 : Int)) := by rw [← hW]; exact c0
  have hz4 : 1 ≤ (n : Int) := by omega
  have hz5 : (n : Int) ≤ 16 := by omega
  clear hs hs2 hK hB hl h1 h2 h0 hv0 hv hv1 hO hW c0 c1 d1 hmk
  go_enter Try.func41, Try.ntmps41
  go_wp2
  rw [← HW.out.1, ← HW.out.2.2]
  go_loopw [20] (fun i wr => i = .int .i64 0 ∧ wr = W) (fun i _ => 0)
  case atStart => exact ⟨rfl, rfl⟩
  case round =>
    obtain ⟨rfl, hwr⟩ := hrel
    obtain rfl := hwr.symm
    clear hwr
    obtain ⟨c1, d1⟩ := HC.out
    clear c0'
    go_wp2
    go_ret
    exact ⟨rfl, HW.out.2.1⟩

theorem right_any (p : Int) (h n B : Nat) (l : List UInt32) (w : World) (hs : SegW w (some ⟨B, 0, none⟩) l) (hl : l.length = h + n) (hh : h = 2 ∨ h = 3) (h1 : 1 ≤ n) (h2 : n ≤ 16) :
    Calls Try.prog 41 #[bxv p h n, .slice (some ⟨B, 0, none⟩) l.length l.length] w fun e w' => e = .returned (.bool (rightB h n l)) ∧ Keeps (fun _ => False) w w' := by
  unfold rightB
  by_cases h0 : wd l 0 = 0
  · rw [if_pos h0]
    exact right_zero p h n B l w hs hl hh h1 h2 h0
  · rw [if_neg h0]
    rcases hh with rfl | rfl
    · rw [if_neg (by omega)]
      exact right_rest2 p n B l w hs hl h1 h2 h0
    · by_cases hm : 1 < (wd l 1).toNat
      · rw [if_pos ⟨rfl, hm⟩]
        exact right_mark p n B l w hs hl h1 h2 h0 hm
      · rw [if_neg (by omega)]
        exact right_rest3 p n B l w hs hl h1 h2 h0 (by omega)

def lkE (nil : Bool) (xs : List UInt32) (p : Int) (h : Nat) (n : Int) : Int :=
  if tkE nil xs.length p h n ≠ 0 then tkE nil xs.length p h n else if rightB h n.toNat (win xs p.toNat (h + n.toNat)) then 0 else 191

theorem lkE_ok {nil : Bool} {xs : List UInt32} {p : Int} {h : Nat} {n : Int} (e : lkE nil xs p h n = 0) : tkE nil xs.length p h n = 0 ∧ rightB h n.toNat (win xs p.toNat (h + n.toNat)) = true := by
  unfold lkE at e
  by_cases h1 : tkE nil xs.length p h n = 0
  · rw [if_neg (by simpa using h1)] at e
    refine ⟨h1, ?_⟩
    by_cases h2 : rightB h n.toNat (win xs p.toNat (h + n.toNat)) = true
    · exact h2
    · rw [if_neg h2] at e; omega
  · rw [if_pos h1] at e; exact absurd e h1

set_option maxHeartbeats 400000 in
theorem look_ok (nil : Bool) (b g : Nat) (xs : List UInt32) (p : Int) (h : Nat) (n : Int) (w : World) (hm : Mm w b g xs) (hh : h = 2 ∨ h = 3) (he : lkE nil xs p h n = 0) :
    Calls Try.prog 44 #[bxv p h n, mpv nil b] w (TkP w (win xs p.toNat (h + n.toNat))) := by
  obtain ⟨he1, he2⟩ := lkE_ok he
  obtain ⟨rfl, h1, h2, h3, h4⟩ := tkE_ok he1
  obtain ⟨W, hW, hK, hB⟩ := box_new w p h n
  have HT := btake_ok false b g xs p h n W (hm.kept hK (fun e => e) (fun e => e)) (by omega) he1
  obtain ⟨l, hl⟩ : ∃ l, l = win xs p.toNat (h + n.toNat) := ⟨_, rfl⟩
  rw [← hl] at HT he2 ⊢
  have hlen : l.length = h + n.toNat := by rw [hl]; exact win_length _ _ _ (by omega)
  have HR : Hid (∀ B W', SegW W' (some ⟨B, 0, none⟩) l → Calls Try.prog 41 #[bxv p h n, .slice (some ⟨B, 0, none⟩) l.length l.length] W' fun e w' => e = .returned (.bool true) ∧ Keeps (fun _ => False) W' w') := by
    intro B W' hs
    have := right_any p h n.toNat B l W' hs hlen hh (by omega) (by omega)
    rw [he2, show ((n.toNat : Nat) : Int) = n by omega] at this
    exact this
  obtain ⟨L, hL⟩ : ∃ L, L = l.length := ⟨_, rfl⟩
  unfold TkP at HT ⊢
  rw [← hL] at HT HR ⊢
  have HT : Hid (Calls _ _ _ _ _) := HT
  obtain ⟨O, hO⟩ : ∃ O, O = w.heap.size := ⟨_, rfl⟩
  rw [← hO] at hB
  have HW : Hid (W = _ ∧ Keeps (fun _ => False) w W ∧ O = w.heap.size ∧ Blk W O [.int .i64 p, .int .i64 h, .int .i64 n] 69) := ⟨hW, hK, hO, hB⟩
  clear hm he he1 he2 h1 h2 h3 h4 hW hK hB hl hlen hL hO hh
  go_enter Try.func44, Try.ntmps44
  go_wp2_with fail
  rw [← HW.out.1, ← HW.out.2.2.1]
  refine HT.out.mono ?_
  rintro e w1 ⟨B, hBs, rfl, hBl, hk⟩
  have HH : Hid (Blk w1 B (wvs l) 34 ∧ Keeps (fun _ => False) W w1 ∧ W.heap.size ≤ B) := ⟨hBl, hk, hBs⟩
  have d0 := (HW.out.2.2.2.kept hk fun e => e).cell (i := 0) rfl
  have d1 := (HW.out.2.2.2.kept hk fun e => e).cell (i := 1) rfl
  have d2 := (HW.out.2.2.2.kept hk fun e => e).cell (i := 2) rfl
  have HR1 : Hid (Calls _ _ _ _ _) := HR.out B w1 (segW_of_blk hBl)
  clear hBs hBl hk HT HR
  go_wp2_with fail
  refine HR1.out.mono ?_
  rintro e w2 ⟨rfl, hk⟩
  have H2 : Hid (Keeps (fun _ => False) w1 w2) := hk
  clear hk HR1 d0 d1 d2
  go_wp2
  go_ret2
  exact ⟨B, Nat.le_trans HW.out.2.1.size HH.out.2.2, rfl, HH.out.1.kept H2.out fun e => e, (HW.out.2.1.trans HH.out.2.1 fun _ _ e => e).trans H2.out fun _ _ e => e⟩

set_option maxHeartbeats 400000 in
theorem look_no (nil : Bool) (b g : Nat) (xs : List UInt32) (p : Int) (h : Nat) (n : Int) (w : World) (hm : Mm w b g xs) (hh : h = 2 ∨ h = 3) (hp : p ≤ 9223372036854775807) (he : lkE nil xs p h n ≠ 0) :
    Calls Try.prog 44 #[bxv p h n, mpv nil b] w fun e w' => e = .returned (.tuple #[.slice none 0 0, .int .i64 (lkE nil xs p h n)]) ∧ Keeps (fun _ => False) w w' := by
  obtain ⟨W, hW, hK, hB⟩ := box_new w p h n
  by_cases h0 : tkE nil xs.length p h n = 0
  · obtain ⟨rfl, h1, h2, h3, h4⟩ := tkE_ok h0
    unfold lkE at he ⊢
    rw [if_neg (by simpa using h0)] at he ⊢
    by_cases hr : rightB h n.toNat (win xs p.toNat (h + n.toNat)) = true
    · rw [if_pos hr] at he; exact absurd rfl he
    rw [if_neg hr]
    have HT := btake_ok false b g xs p h n W (hm.kept hK (fun e => e) (fun e => e)) (by omega) h0
    obtain ⟨l, hl⟩ : ∃ l, l = win xs p.toNat (h + n.toNat) := ⟨_, rfl⟩
    rw [← hl] at HT hr
    have hlen : l.length = h + n.toNat := by rw [hl]; exact win_length _ _ _ (by omega)
    have HR : Hid (∀ B W', SegW W' (some ⟨B, 0, none⟩) l → Calls Try.prog 41 #[bxv p h n, .slice (some ⟨B, 0, none⟩) l.length l.length] W' fun e w' => e = .returned (.bool false) ∧ Keeps (fun _ => False) W' w') := by
      intro B W' hs
      have := right_any p h n.toNat B l W' hs hlen hh (by omega) (by omega)
      rw [show rightB h n.toNat l = false by simpa using hr, show ((n.toNat : Nat) : Int) = n by omega] at this
      exact this
    obtain ⟨L, hL⟩ : ∃ L, L = l.length := ⟨_, rfl⟩
    unfold TkP at HT
    rw [← hL] at HT HR
    have HT : Hid (Calls _ _ _ _ _) := HT
    obtain ⟨O, hO⟩ : ∃ O, O = w.heap.size := ⟨_, rfl⟩
    rw [← hO] at hB
    have HW : Hid (W = _ ∧ Keeps (fun _ => False) w W ∧ O = w.heap.size ∧ Blk W O [.int .i64 p, .int .i64 h, .int .i64 n] 69) := ⟨hW, hK, hO, hB⟩
    clear hm he h0 hr h1 h2 h3 h4 hW hK hB hl hlen hL hO hh hp
    go_enter Try.func44, Try.ntmps44
    go_wp2_with fail
    rw [← HW.out.1, ← HW.out.2.2.1]
    refine HT.out.mono ?_
    rintro e w1 ⟨B, hBs, rfl, hBl, hk⟩
    have HH : Hid (Keeps (fun _ => False) W w1) := hk
    have d0 := (HW.out.2.2.2.kept hk fun e => e).cell (i := 0) rfl
    have d1 := (HW.out.2.2.2.kept hk fun e => e).cell (i := 1) rfl
    have d2 := (HW.out.2.2.2.kept hk fun e => e).cell (i := 2) rfl
    have HR1 : Hid (Calls _ _ _ _ _) := HR.out B w1 (segW_of_blk hBl)
    clear hBs hBl hk HT HR
    go_wp2_with fail
    refine HR1.out.mono ?_
    rintro e w2 ⟨rfl, hk⟩
    have H2 : Hid (Keeps (fun _ => False) w1 w2) := hk
    clear hk HR1 d0 d1 d2
    go_wp2
    go_ret2
    exact ⟨rfl, (HW.out.2.1.trans HH.out fun _ _ e => e).trans H2.out fun _ _ e => e⟩
  · have e1 : lkE nil xs p h n = tkE nil xs.length p h n := by unfold lkE; rw [if_pos h0]
    rw [e1]
    have HT := btake_no nil b g xs p h n W (hm.kept hK (fun e => e) (fun e => e)) (by omega) hp h0
    obtain ⟨E, hE⟩ : ∃ E, E = tkE nil xs.length p h n := ⟨_, rfl⟩
    rw [← hE] at HT h0 ⊢
    have HT : Hid (Calls _ _ _ _ _) := HT
    have hE2 : (E != 0) = true := bne_iff_ne.2 h0
    have HW : Hid (W = _ ∧ Keeps (fun _ => False) w W) := ⟨hW, hK⟩
    clear hm he h0 hW hK hB hE e1 hh hp
    unfold mpv at HT ⊢
    obtain ⟨pv, hpv⟩ : ∃ pv : Option Addr, pv = if nil then none else some ⟨b, 0, none⟩ := ⟨_, rfl⟩
    rw [← hpv] at HT ⊢
    clear hpv
    go_enter Try.func44, Try.ntmps44
    go_wp2_with fail
    rw [← HW.out.1]
    refine HT.out.mono ?_
    rintro e w1 ⟨rfl, hk⟩
    have HH : Hid (Keeps (fun _ => False) W w1) := hk
    clear hk HT
    go_wp2
    go_ret2
    exact ⟨rfl, HW.out.2.trans HH.out fun _ _ e => e⟩

end Go.Proofs.Ytfcgpjojjehkiaa
