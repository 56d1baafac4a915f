import Derived.Test.YtfcgpjojjehkiaaJ
namespace Go.Proofs.Ytfcgpjojjehkiaa
open Go.RowKit
set_option linter.unusedVariables false

def putE (nil : Bool) (xs : List UInt32) (p n : Int) (k : Nat) : Int :=
  if tkE nil xs.length p 2 n ≠ 0 then tkE nil xs.length p 2 n
  else if k < 1 ∨ n < k then 190
  else if rightB 2 n.toNat (win xs p.toNat (2 + n.toNat)) then 0 else 191
def putX (nil : Bool) (xs : List UInt32) (p n : Int) (ms : List UInt32) : List UInt32 :=
  if putE nil xs p n ms.length = 0 then lay xs p.toNat (fillW 2 n.toNat ms) else xs

/-- What Put leaves. -/
def PutP (w : World) (b g : Nat) (xs : List UInt32) (E : Int) (ys : List UInt32) (e : Ending) (w' : World) : Prop :=
  e = .returned (.int .i64 E) ∧ Mm w' b g ys ∧ Keeps (· = g) w w'

set_option maxHeartbeats 400000 in
theorem put_take (nil : Bool) (b g : Nat) (xs : List UInt32) (p n : Int) (a : Option Addr) (c k : Nat) (w : World) (hm : Mm w b g xs) (hp : p ≤ 9223372036854775807) (he : tkE nil xs.length p 2 n ≠ 0) :
    Calls Try.prog 17 #[mpv nil b, .int .i64 p, .int .i64 n, .slice a k c] w fun e w' => e = .returned (.int .i64 (tkE nil xs.length p 2 n)) ∧ Keeps (fun _ => False) w w' := by
  have HA : Hid (Calls _ _ _ _ _) := stageAt_any p n w
  have HT := fun W (k : Keeps (fun _ => False) w W) => btake_no nil b g xs p 2 n W (hm.kept k (fun e => e) (fun e => e)) (by omega) hp he
  obtain ⟨E, hE⟩ : ∃ E, E = tkE nil xs.length p 2 n := ⟨_, rfl⟩
  rw [← hE] at HT he ⊢
  have hE2 : (E != 0) = true := bne_iff_ne.2 he
  unfold mpv at HT ⊢
  obtain ⟨pv, hpv⟩ : ∃ pv : Option Addr, pv = if nil then none else some ⟨b, 0, none⟩ := ⟨_, rfl⟩
  rw [← hpv] at HT ⊢
  have HT : Hid (∀ W, Keeps (fun _ => False) w W → Calls Try.prog 40 #[bxv p 2 n, .pointer pv] W fun e w' => e = .returned (.tuple #[.slice none 0 0, .int .i64 E]) ∧ Keeps (fun _ => False) W w') := HT
  clear hm hp he hE hpv
  go_enter Try.func17, Try.ntmps17
  go_wp2_with fail
  refine HA.out.mono ?_
  rintro e w1 ⟨rfl, hk⟩
  have HT2 : Hid (Calls _ _ _ _ _) := HT.out _ (hk.alloc (.cells #[.int .i64 p, .int .i64 2, .int .i64 n] 69))
  have HK1 : Hid (Keeps (fun _ => False) w (w1.alloc (.cells #[.int .i64 p, .int .i64 2, .int .i64 n] 69))) := hk.alloc _
  clear hk HA HT
  go_wp2_with fail
  refine HT2.out.mono ?_
  rintro e w2 ⟨rfl, hk⟩
  have HK2 : Hid (Keeps (fun _ => False) w w2) := HK1.out.trans hk fun _ _ e => e
  clear hk HT2 HK1
  go_wp2
  go_ret
  exact ⟨rfl, HK2.out⟩

set_option maxHeartbeats 400000 in
theorem put_words (b g : Nat) (xs : List UInt32) (p n : Int) (a : Option Addr) (c k : Nat) (w : World) (hm : Mm w b g xs) (he : tkE false xs.length p 2 n = 0) (hk : k < 1 ∨ n < k) :
    Calls Try.prog 17 #[.pointer (some ⟨b, 0, none⟩), .int .i64 p, .int .i64 n, .slice a k c] w fun e w' => e = .returned (.int .i64 190) ∧ Keeps (fun _ => False) w w' := by
  have HA : Hid (Calls _ _ _ _ _) := stageAt_any p n w
  have HT := fun W (k : Keeps (fun _ => False) w W) => btake_ok false b g xs p 2 n W (hm.kept k (fun e => e) (fun e => e)) (by omega) he
  unfold TkP at HT
  obtain ⟨l, hl⟩ : ∃ l, l = win xs p.toNat (2 + n.toNat) := ⟨_, rfl⟩
  rw [← hl] at HT
  obtain ⟨L, hL⟩ : ∃ L, L = l.length := ⟨_, rfl⟩
  rw [← hL] at HT
  have HT : Hid (∀ W, Keeps (fun _ => False) w W → Calls Try.prog 40 #[bxv p 2 n, .pointer (some ⟨b, 0, none⟩)] W fun e w' => ∃ B, W.heap.size ≤ B ∧ e = .returned (.tuple #[.slice (some ⟨B, 0, none⟩) L L, .int .i64 0]) ∧ Blk w' B (wvs l) 34 ∧ Keeps (fun _ => False) W w') := HT
  have hkk : (k : Int) < 1 ∨ (¬ (k : Int) < 1 ∧ n < (k : Int)) := by omega
  clear hm he hl hL hk
  rcases hkk with g1 | ⟨g1, g2⟩
  all_goals
    go_enter Try.func17, Try.ntmps17
    go_wp2_with fail
    refine HA.out.mono ?_
    rintro e w1 ⟨rfl, hk⟩
    have HT2 : Hid (Calls _ _ _ _ _) := HT.out _ (hk.alloc (.cells #[.int .i64 p, .int .i64 2, .int .i64 n] 69))
    have HK1 : Hid (Keeps (fun _ => False) w (w1.alloc (.cells #[.int .i64 p, .int .i64 2, .int .i64 n] 69))) := hk.alloc _
    clear hk HA HT
    go_wp2_with fail
    refine HT2.out.mono ?_
    rintro e w2 ⟨B, -, rfl, -, hk⟩
    have HK2 : Hid (Keeps (fun _ => False) w w2) := HK1.out.trans hk fun _ _ e => e
    clear hk HT2 HK1
    go_wp2
    go_ret
    exact ⟨rfl, HK2.out⟩

set_option maxHeartbeats 400000 in
theorem put_form (b g : Nat) (xs : List UInt32) (p n : Int) (a : Option Addr) (c k : Nat) (w : World) (hm : Mm w b g xs) (he : tkE false xs.length p 2 n = 0) (hk : ¬ (k < 1 ∨ n < k)) (hr : rightB 2 n.toNat (win xs p.toNat (2 + n.toNat)) = false) :
    Calls Try.prog 17 #[.pointer (some ⟨b, 0, none⟩), .int .i64 p, .int .i64 n, .slice a k c] w fun e w' => e = .returned (.int .i64 191) ∧ Keeps (fun _ => False) w w' := by
  obtain ⟨-, t1, t2, t3, t4⟩ := tkE_ok he
  have HA : Hid (Calls _ _ _ _ _) := stageAt_any p n w
  have HT := fun W (k : Keeps (fun _ => False) w W) => btake_ok false b g xs p 2 n W (hm.kept k (fun e => e) (fun e => e)) (by omega) he
  unfold TkP at HT
  obtain ⟨l, hl⟩ : ∃ l, l = win xs p.toNat (2 + n.toNat) := ⟨_, rfl⟩
  rw [← hl] at HT hr
  have hlen : l.length = 2 + n.toNat := by rw [hl]; exact win_length _ _ _ (by omega)
  have HR : Hid (∀ B W', SegW W' (some ⟨B, 0, none⟩) l → Calls Try.prog 41 #[bxv p 2 n, .slice (some ⟨B, 0, none⟩) l.length l.length] W' fun e w' => e = .returned (.bool false) ∧ Keeps (fun _ => False) W' w') := by
    intro B W' hs
    have := right_any p 2 n.toNat B l W' hs hlen (by omega) (by omega) (by omega)
    rw [hr, show ((n.toNat : Nat) : Int) = n by omega] at this
    exact this
  obtain ⟨L, hL⟩ : ∃ L, L = l.length := ⟨_, rfl⟩
  rw [← hL] at HT HR
  have HT : Hid (∀ W, Keeps (fun _ => False) w W → Calls Try.prog 40 #[bxv p 2 n, .pointer (some ⟨b, 0, none⟩)] W fun e w' => ∃ B, W.heap.size ≤ B ∧ e = .returned (.tuple #[.slice (some ⟨B, 0, none⟩) L L, .int .i64 0]) ∧ Blk w' B (wvs l) 34 ∧ Keeps (fun _ => False) W w') := HT
  have g1 : ¬ (k : Int) < 1 := by omega
  have g2 : ¬ n < (k : Int) := by omega
  clear hm he hl hL hk hr hlen t1 t2 t3 t4
  go_enter Try.func17, Try.ntmps17
  go_wp2_with fail
  refine HA.out.mono ?_
  rintro e w1 ⟨rfl, hk⟩
  have hBb := Blk.new w1 #[.int .i64 p, .int .i64 2, .int .i64 n] 69
  have HT2 : Hid (Calls _ _ _ _ _) := HT.out _ (hk.alloc (.cells #[.int .i64 p, .int .i64 2, .int .i64 n] 69))
  have HK1 : Hid (Keeps (fun _ => False) w (w1.alloc (.cells #[.int .i64 p, .int .i64 2, .int .i64 n] 69)) ∧ Blk (w1.alloc (.cells #[.int .i64 p, .int .i64 2, .int .i64 n] 69)) w1.heap.size [.int .i64 p, .int .i64 2, .int .i64 n] 69) := ⟨hk.alloc _, hBb⟩
  clear hk HA HT hBb
  go_wp2_with fail
  refine HT2.out.mono ?_
  rintro e w2 ⟨B, hBs, rfl, hBl, hk⟩
  have d0 := (HK1.out.2.kept hk fun e => e).cell (i := 0) rfl
  have d1 := (HK1.out.2.kept hk fun e => e).cell (i := 1) rfl
  have d2 := (HK1.out.2.kept hk fun e => e).cell (i := 2) rfl
  have HR2 : Hid (Calls _ _ _ _ _) := HR.out B w2 (segW_of_blk hBl)
  have HK2 : Hid (Keeps (fun _ => False) w w2) := HK1.out.1.trans hk fun _ _ e => e
  clear hk HT2 HK1 hBs hBl HR
  go_wp2_with fail
  refine HR2.out.mono ?_
  rintro e w3 ⟨rfl, hk⟩
  have HK3 : Hid (Keeps (fun _ => False) w w3) := HK2.out.trans hk fun _ _ e => e
  clear hk HR2 HK2 d0 d1 d2
  go_wp2
  go_ret
  exact ⟨rfl, HK3.out⟩

set_option maxHeartbeats 1000000 in
theorem put_ok (b g : Nat) (xs : List UInt32) (p n : Int) (a : Option Addr) (c : Nat) (ms : List UInt32) (w : World) (hm : Mm w b g xs) (hs : SegW w a ms) (he : tkE false xs.length p 2 n = 0) (hk : ¬ (ms.length < 1 ∨ n < ms.length)) (hr : rightB 2 n.toNat (win xs p.toNat (2 + n.toNat)) = true) :
    Calls Try.prog 17 #[.pointer (some ⟨b, 0, none⟩), .int .i64 p, .int .i64 n, .slice a ms.length c] w (PutP w b g xs 0 (lay xs p.toNat (fillW 2 n.toNat ms))) := by
  obtain ⟨-, t1, t2, t3, t4⟩ := tkE_ok he
  have HA : Hid (Calls _ _ _ _ _) := stageAt_any p n w
  have HT := fun W (k : Keeps (fun _ => False) w W) => btake_ok false b g xs p 2 n W (hm.kept k (fun e => e) (fun e => e)) (by omega) he
  unfold TkP at HT
  obtain ⟨l, hl⟩ : ∃ l, l = win xs p.toNat (2 + n.toNat) := ⟨_, rfl⟩
  rw [← hl] at HT hr
  have hlen : l.length = 2 + n.toNat := by rw [hl]; exact win_length _ _ _ (by omega)
  have HR : Hid (∀ B W', SegW W' (some ⟨B, 0, none⟩) l → Calls Try.prog 41 #[bxv p 2 n, .slice (some ⟨B, 0, none⟩) l.length l.length] W' fun e w' => e = .returned (.bool true) ∧ Keeps (fun _ => False) W' w') := by
    intro B W' hs
    have := right_any p 2 n.toNat B l W' hs hlen (by omega) (by omega) (by omega)
    rw [hr, show ((n.toNat : Nat) : Int) = n by omega] at this
    exact this
  have hfl : (fillW 2 n.toNat ms).length = 2 + n.toNat := fillW_length _ _ _ (by omega) (by omega)
  have HF : ∀ W, Keeps (fun _ => False) w W → Calls Try.prog 43 #[bxv p 2 n, .slice a ms.length c] W fun e w' => ∃ G, W.heap.size ≤ G ∧ e = .returned (.slice (some ⟨G, 0, none⟩) (2 + n.toNat) (2 + n.toNat)) ∧ Blk w' G (wvs (fillW 2 n.toNat ms)) 34 ∧ Keeps (fun _ => False) W w' := by
    intro W k
    have := filled_any p 2 n.toNat a c ms W (hs.kept k (fun _ _ e => e)) (by omega) (by omega) (by omega) (by omega)
    rw [show ((n.toNat : Nat) : Int) = n by omega] at this
    exact this
  have HL : ∀ W G, Keeps (fun _ => False) w W → Blk W G (wvs (fillW 2 n.toNat ms)) 34 → Calls Try.prog 42 #[.pointer (some ⟨b, 0, none⟩), .int .i64 p, .slice (some ⟨G, 0, none⟩) (2 + n.toNat) (2 + n.toNat)] W fun e w' => e = .returned (.int .i64 0) ∧ Mm w' b g (lay xs p.toNat (fillW 2 n.toNat ms)) ∧ Keeps (· = g) W w' := by
    intro W G k hG
    have := lay_in b g xs p.toNat (some ⟨G, 0, none⟩) (2 + n.toNat) (fillW 2 n.toNat ms) W (hm.kept k (fun e => e) (fun e => e)) (segW_of_blk hG) (by rw [hfl]; omega)
    rw [hfl, show ((p.toNat : Nat) : Int) = p by omega] at this
    exact this
  obtain ⟨L, hL⟩ : ∃ L, L = l.length := ⟨_, rfl⟩
  rw [← hL] at HT HR
  obtain ⟨F, hF⟩ : ∃ F, F = fillW 2 n.toNat ms := ⟨_, rfl⟩
  obtain ⟨M, hM⟩ : ∃ M, M = 2 + n.toNat := ⟨_, rfl⟩
  rw [← hF, ← hM] at HF HL
  rw [← hF]
  obtain ⟨k, hkl⟩ : ∃ k, k = ms.length := ⟨_, rfl⟩
  rw [← hkl] at HF hk ⊢
  have HT : Hid (∀ W, Keeps (fun _ => False) w W → Calls Try.prog 40 #[bxv p 2 n, .pointer (some ⟨b, 0, none⟩)] W fun e w' => ∃ B, W.heap.size ≤ B ∧ e = .returned (.tuple #[.slice (some ⟨B, 0, none⟩) L L, .int .i64 0]) ∧ Blk w' B (wvs l) 34 ∧ Keeps (fun _ => False) W w') := HT
  have HF : Hid (∀ W, Keeps (fun _ => False) w W → Calls Try.prog 43 #[bxv p 2 n, .slice a k c] W fun e w' => ∃ G, W.heap.size ≤ G ∧ e = .returned (.slice (some ⟨G, 0, none⟩) M M) ∧ Blk w' G (wvs F) 34 ∧ Keeps (fun _ => False) W w') := HF
  have HL : Hid (∀ W G, Keeps (fun _ => False) w W → Blk W G (wvs F) 34 → Calls Try.prog 42 #[.pointer (some ⟨b, 0, none⟩), .int .i64 p, .slice (some ⟨G, 0, none⟩) M M] W fun e w' => e = .returned (.int .i64 0) ∧ Mm w' b g (lay xs p.toNat F) ∧ Keeps (· = g) W w') := HL
  have g1 : ¬ (k : Int) < 1 := by omega
  have g2 : ¬ n < (k : Int) := by omega
  have HG : Hid (g < w.heap.size) := hm.row.lt
  clear hm he hl hL hk hr hlen t1 t2 t3 t4 hs hfl hF hM hkl
  go_enter Try.func17, Try.ntmps17
  go_wp2_with fail
  refine HA.out.mono ?_
  rintro e w1 ⟨rfl, hk⟩
  have hBb := Blk.new w1 #[.int .i64 p, .int .i64 2, .int .i64 n] 69
  have HT2 : Hid (Calls _ _ _ _ _) := HT.out _ (hk.alloc (.cells #[.int .i64 p, .int .i64 2, .int .i64 n] 69))
  obtain ⟨O, hO⟩ : ∃ O, O = w1.heap.size := ⟨_, rfl⟩
  have HK1 : Hid (Keeps (fun _ => False) w (w1.alloc (.cells #[.int .i64 p, .int .i64 2, .int .i64 n] 69)) ∧ Blk (w1.alloc (.cells #[.int .i64 p, .int .i64 2, .int .i64 n] 69)) O [.int .i64 p, .int .i64 2, .int .i64 n] 69 ∧ O = w1.heap.size ∧ w.heap.size ≤ O) := ⟨hk.alloc _, by rw [hO]; exact hBb, hO, by rw [hO]; exact hk.size⟩
  clear hk HA HT hBb hO
  go_wp2_with fail
  refine HT2.out.mono ?_
  rintro e w2 ⟨B, hBs, rfl, hBl, hk⟩
  rw [← HK1.out.2.2.1]
  have hO2 := HK1.out.2.1.kept hk fun e => e
  have d0 := hO2.cell (i := 0) rfl
  have d1 := hO2.cell (i := 1) rfl
  have d2 := hO2.cell (i := 2) rfl
  have HR2 : Hid (Calls _ _ _ _ _) := HR.out B w2 (segW_of_blk hBl)
  have HK2 : Hid (Keeps (fun _ => False) w w2 ∧ Blk w2 O [.int .i64 p, .int .i64 2, .int .i64 n] 69 ∧ w.heap.size ≤ O) := ⟨HK1.out.1.trans hk fun _ _ e => e, hO2, HK1.out.2.2.2⟩
  clear hk HT2 HK1 hBs hBl HR hO2
  go_wp2_with fail
  refine HR2.out.mono ?_
  rintro e w3 ⟨rfl, hk⟩
  have hO3 := HK2.out.2.1.kept hk fun e => e
  have HK3 : Hid (Keeps (fun _ => False) w w3 ∧ w.heap.size ≤ O) := ⟨HK2.out.1.trans hk fun _ _ e => e, HK2.out.2.2⟩
  have hS : w3.cell? ⟨O, 0, none⟩ = some (.int .i64 p) ∧ w3.cell? ⟨O, 1, none⟩ = some (.int .i64 2) ∧ w3.cell? ⟨O, 2, none⟩ = some (.int .i64 n) := ⟨hO3.cell rfl, hO3.cell rfl, hO3.cell rfl⟩
  have HB0 : Hid (∀ W', Keeps (· = g) w3 W' → W'.cell? ⟨O, 0, none⟩ = some (.int .i64 p) ∧ W'.cell? ⟨O, 1, none⟩ = some (.int .i64 2) ∧ W'.cell? ⟨O, 2, none⟩ = some (.int .i64 n)) := fun W' k => by
    have hne : ¬ O = g := by have := HG.out; have := HK3.out.2; omega
    exact ⟨(hO3.kept k hne).cell rfl, (hO3.kept k hne).cell rfl, (hO3.kept k hne).cell rfl⟩
  clear hk HR2 HK2 d0 d1 d2 hO3
  go_wp2
  go_region_held3 (fun w' => w'.cell? ⟨O, 0, none⟩ = some (.int .i64 p) ∧ w'.cell? ⟨O, 1, none⟩ = some (.int .i64 2) ∧ w'.cell? ⟨O, 2, none⟩ = some (.int .i64 n)) (first | exact hS2 | exact hS1 | exact hS | go_keep)
    (first | (go_at_call 43; refine (HF.out _ (HK3.out.1.drewN _)).mono ?_; rintro e w4 ⟨G, hGs, rfl, hGB, hk4⟩; have hk5 : Keeps (fun _ => False) w3 w4 := ((Keeps.refl _ w3).drewN _).trans hk4 (fun _ _ e => e); have hS1 := HB0.out w4 (hk5.mono fun _ _ e => e.elim)) | (go_at_call 42; refine (HL.out w4 G (HK3.out.1.trans hk5 fun _ _ e => e) hGB).mono ?_; rintro e w5 ⟨rfl, hM5, hk6⟩; have hS2 := HB0.out w5 ((hk5.mono (T := (· = g)) fun _ _ e => e.elim).trans hk6 fun _ _ e => e)))
  go_wp2
  go_ret
  exact ⟨rfl, hM5, ((HK3.out.1.trans hk5 fun _ _ e => e).mono (T := (· = g)) fun _ _ e => e.elim).trans hk6 fun _ _ e => e⟩

theorem put_any (nil : Bool) (b g : Nat) (xs : List UInt32) (p n : Int) (a : Option Addr) (c : Nat) (ms : List UInt32) (w : World) (hm : Mm w b g xs) (hs : SegW w a ms) (hp : p ≤ 9223372036854775807) :
    Calls Try.prog 17 #[mpv nil b, .int .i64 p, .int .i64 n, .slice a ms.length c] w (PutP w b g xs (putE nil xs p n ms.length) (putX nil xs p n ms)) := by
  unfold putX
  have fin : ∀ E : Int, E ≠ 0 → putE nil xs p n ms.length = E → (Calls Try.prog 17 #[mpv nil b, .int .i64 p, .int .i64 n, .slice a ms.length c] w fun e w' => e = .returned (.int .i64 E) ∧ Keeps (fun _ => False) w w') → Calls Try.prog 17 #[mpv nil b, .int .i64 p, .int .i64 n, .slice a ms.length c] w (PutP w b g xs (putE nil xs p n ms.length) (if putE nil xs p n ms.length = 0 then lay xs p.toNat (fillW 2 n.toNat ms) else xs)) := by
    intro E h0 hE hC
    rw [hE, if_neg h0]
    exact hC.mono fun e w' ⟨h1, h2⟩ => ⟨h1, hm.kept h2 (fun e => e) (fun e => e), h2.mono fun _ _ e => e.elim⟩
  by_cases h1 : tkE nil xs.length p 2 n = 0
  · obtain ⟨rfl, -⟩ := tkE_ok h1
    by_cases h2 : ms.length < 1 ∨ n < ms.length
    · exact fin 190 (by omega) (by unfold putE; rw [if_neg (by simpa using h1), if_pos h2]) (put_words b g xs p n a c ms.length w hm h1 h2)
    · by_cases h3 : rightB 2 n.toNat (win xs p.toNat (2 + n.toNat)) = true
      · have hE : putE false xs p n ms.length = 0 := by unfold putE; rw [if_neg (by simpa using h1), if_neg h2, if_pos h3]
        rw [hE, if_pos rfl]
        exact put_ok b g xs p n a c ms w hm hs h1 h2 h3
      · exact fin 191 (by omega) (by unfold putE; rw [if_neg (by simpa using h1), if_neg h2, if_neg h3]) (put_form b g xs p n a c ms.length w hm h1 h2 (by simpa using h3))
  · exact fin _ h1 (by unfold putE; rw [if_pos h1]) (put_take nil b g xs p n a c ms.length w hm hp h1)

end Go.Proofs.Ytfcgpjojjehkiaa
