import Derived.Test.YtadhldpeklkcmaaD
import Derived.Deep.RegionHeld3
namespace Go.Proofs.Ytadhldpeklkcmaa
open Go.RowKit
set_option linter.unusedVariables false

/-- Take: the ticket, the error, the words behind it. -/
def tkT (xs : List UInt32) (p : Int) : UInt32 := if LkOk xs p then (if nx xs p - tu xs p = 0xffffffff then 0 else nx xs p) else 0
def tkE (xs : List UInt32) (p : Int) : Nat := if LkOk xs p then (if nx xs p - tu xs p = 0xffffffff then 170 else 0) else 51
def tkX (xs : List UInt32) (p : Int) : List UInt32 := if LkOk xs p then (if nx xs p - tu xs p = 0xffffffff then xs else lay xs p.toNat [nx xs p + 1]) else xs
/-- Mine. -/
def mnB (xs : List UInt32) (p : Int) (t : UInt32) : Bool := if LkOk xs p then tu xs p == t else false
def okE (xs : List UInt32) (p : Int) : Nat := if LkOk xs p then 0 else 51
/-- Free. -/
def frE (xs : List UInt32) (p : Int) (t : UInt32) : Nat := if LkOk xs p then (if nx xs p - tu xs p = 0 ∨ tu xs p ≠ t then 170 else 0) else 51
def frX (xs : List UInt32) (p : Int) (t : UInt32) : List UInt32 := if LkOk xs p then (if nx xs p - tu xs p = 0 ∨ tu xs p ≠ t then xs else lay xs (p.toNat + 1) [tu xs p + 1]) else xs
/-- Waiting. -/
def wtN (xs : List UInt32) (p : Int) : Nat := if LkOk xs p then (nx xs p - tu xs p).toNat else 0

theorem Mm.grown {w w' : World} {b g : Nat} {xs : List UInt32} (h : Mm w b g xs) (k : Keeps (fun _ => False) w w') : Mm w' b g xs := h.kept k (fun e => e) fun e => e
theorem Keeps.none {S : Nat → Prop} {w w' : World} (h : Keeps (fun _ => False) w w') : Keeps S w w' := h.mono fun _ _ e => e.elim

theorem Mm.drew {w : World} {b g : Nat} {xs : List UInt32} (h : Mm w b g xs) : Mm w.drew b g xs := h.kept (Keeps.refl (fun _ => False) w).drew (fun e => e) fun e => e

theorem lt32 (x : UInt32) : (x.toNat : Int) < 4294967296 := by have := x.toNat_lt; omega

theorem cell_kept {S : Nat → Prop} {w w' : World} {a : Addr} {v : Value} (h : w.cell? a = some v) (k : Keeps S w w') (hn : ¬ S a.block) : w'.cell? a = some v := by
  rw [World.cell?_of_block (w := w) (k.block a.block (World.block_lt_of_cell? w a h) hn)]; exact h

theorem succ32 (x : UInt32) : (((x + 1).toNat : Nat) : Int) = ((x.toNat : Int) + 1) % 4294967296 := by
  rw [UInt32.toNat_add]; simp


/-- What a struct of two words in a new block is behind a call that keeps all. -/
theorem pair_cells {w1 w2 : World} {x y : Value} (h : Keeps (fun _ => False) (w1.alloc (.cells #[x, y] 116)) w2) :
    w2.cell? ⟨w1.heap.size, 0, none⟩ = some x ∧ w2.cell? ⟨w1.heap.size, 1, none⟩ = some y ∧ Keeps (fun _ => False) w1 w2 := by
  have hB := (Blk.new w1 #[x, y] 116).kept h (fun e => e)
  exact ⟨hB.cell (i := 0) rfl, hB.cell (i := 1) rfl, ((Keeps.refl (fun _ => False) w1).alloc _).trans h fun _ _ e => e⟩

set_option maxHeartbeats 400000 in
theorem take_any (b g : Nat) (xs : List UInt32) (p : Int) (w : World) (h : Mm w b g xs) (hp : p ≤ 9223372036854775807) :
    Calls Try.prog 25 #[.pointer (some ⟨b, 0, none⟩), .int .i64 p] w fun e w' => e = .returned (.tuple #[.int .u32 ((tkT xs p).toNat : Int), .int .i64 (tkE xs p : Nat)]) ∧ Mm w' b g (tkX xs p) ∧ Keeps (· = g) w w' := by
  by_cases hk : LkOk xs p
  · have H1 : Hid (Calls _ _ _ _ _) := lread_in b g xs p w h hk
    have e1 := succ32 (nx xs p)
    have H2 : ∀ w', Calls _ _ _ _ _ := fun w' => out_any (nx xs p) (tu xs p) w'
    unfold tkT tkE tkX
    rw [if_pos hk, if_pos hk, if_pos hk]
    by_cases hf : nx xs p - tu xs p = 0xffffffff
    · rw [if_pos hf, if_pos hf, if_pos hf]
      rw [hf] at H2
      have H2 : ∀ w', Calls Try.prog 60 #[.agg #[.int .u32 ((nx xs p).toNat : Int), .int .u32 ((tu xs p).toNat : Int)]] w' fun e w'' => e = .returned (.int .u32 4294967295) ∧ Keeps (fun _ => False) w' w'' := H2
      have HM : Hid (Mm w b g xs) := h
      obtain ⟨n, hn'⟩ : ∃ n : Nat, n = (nx xs p).toNat := ⟨_, rfl⟩
      obtain ⟨t, ht'⟩ : ∃ t : Nat, t = (tu xs p).toNat := ⟨_, rfl⟩
      rw [← hn', ← ht'] at H1 H2
      have H2 : Hid (∀ w', Calls _ _ _ _ _) := H2
      clear h hk hf hn' ht' e1
      go_enter Try.func25, Try.ntmps25
      go_wp2_with fail
      refine H1.out.mono ?_
      rintro e w1 ⟨rfl, hw⟩
      have HW : Hid (Keeps _ _ _) := hw
      clear hw
      go_wp2_with fail
      refine (H2.out _).mono ?_
      rintro e w2 ⟨rfl, hw⟩
      obtain ⟨c0, c1, hk2⟩ := pair_cells hw
      have HK : Hid (Keeps _ _ _) := hk2
      clear hw hk2
      go_wp2
      go_ret2
      have hK := HW.out.trans HK.out fun _ _ e => e
      exact ⟨rfl, HM.out.grown hK, hK.none⟩
    · rw [if_neg hf, if_neg hf, if_neg hf]
      have hne : ¬ (((nx xs p - tu xs p).toNat : Nat) : Int) = 4294967295 := by
        intro e
        apply hf
        apply UInt32.toNat_inj.1
        have : (0xffffffff : UInt32).toNat = 4294967295 := rfl
        omega
      have HM : Hid (Mm w b g xs ∧ LkOk xs p) := ⟨h, hk⟩
      have HW3 : Hid (∀ w', Mm w' b g xs → Calls _ _ _ w' _) := fun w' hm => write_in b g xs p.toNat (nx xs p + 1) w' hm (by have := hk.1; have := hk.2; omega)
      have ep : ((p.toNat : Nat) : Int) = p := Int.toNat_of_nonneg hk.1
      rw [ep, e1] at HW3
      obtain ⟨n, hn'⟩ : ∃ n : Nat, n = (nx xs p).toNat := ⟨_, rfl⟩
      obtain ⟨t, ht'⟩ : ∃ t : Nat, t = (tu xs p).toNat := ⟨_, rfl⟩
      obtain ⟨r, hr'⟩ : ∃ r : Nat, r = (nx xs p - tu xs p).toNat := ⟨_, rfl⟩
      rw [← hn', ← ht'] at H1 H2
      rw [← hn'] at HW3 ⊢
      rw [← hr'] at H2 hne
      have H2 : Hid (∀ w', Calls _ _ _ _ _) := H2
      obtain ⟨ys, hys⟩ : ∃ ys, ys = lay xs p.toNat [nx xs p + 1] := ⟨_, rfl⟩
      rw [← hys] at HW3 ⊢
      clear h hk hf hn' ht' e1 hr' hys ep
      go_enter Try.func25, Try.ntmps25
      go_wp2_with fail
      refine H1.out.mono ?_
      rintro e w1 ⟨rfl, hw⟩
      have HW : Hid (Keeps _ _ _) := hw
      clear hw
      go_wp2_with fail
      refine (H2.out _).mono ?_
      rintro e w2 ⟨rfl, hw⟩
      obtain ⟨c0, c1, hk2⟩ := pair_cells hw
      have hK := HW.out.trans hk2 fun _ _ e => e
      have HK : Hid (Keeps (fun _ => False) w w2.drew ∧ Mm w2.drew b g xs ∧ ¬ w1.heap.size = g) := ⟨hK.drew, (HM.out.1.grown hK).drew, fun e => by have := HM.out.1.row.lt; have := HW.out.size; omega⟩
      obtain ⟨G, hG⟩ : ∃ G, G = w1.heap.size := ⟨_, rfl⟩
      rw [← hG] at HK c0 c1 ⊢
      have hS0 : w2.drew.cell? ⟨G, 0, none⟩ = some (.int .u32 (n : Int)) := c0
      clear hw hk2 HW hK hG
      go_wp2_with fail
      go_region_held3 (fun w' => w'.cell? ⟨G, 0, none⟩ = some (.int .u32 (n : Int))) (first | exact hS | exact hS0 | go_keep)
        (first | (go_at_call 37; refine (HW3.out _ HK.out.2.1).mono ?_; rintro e w3 ⟨rfl, hm, hk3⟩; have hS : w3.cell? ⟨G, 0, none⟩ = some (.int .u32 (n : Int)) := cell_kept hS0 hk3 HK.out.2.2))
      have HN : Hid (Mm w3 b g ys ∧ Keeps _ _ _) := ⟨hm, hk3⟩
      clear hm hk3
      go_wp2
      go_ret2
      exact ⟨rfl, HN.out.1, HK.out.1.none.trans HN.out.2 fun _ _ e => e⟩
  · have H1 : Hid (Calls _ _ _ _ _) := lread_out b g xs p w h hk hp
    unfold tkT tkE tkX
    rw [if_neg hk, if_neg hk, if_neg hk]
    have HM : Hid (Mm w b g xs) := h
    clear h hk
    go_enter Try.func25, Try.ntmps25
    go_wp2_with fail
    refine H1.out.mono ?_
    rintro e w1 ⟨rfl, hw⟩
    have HW : Hid (Keeps _ _ _) := hw
    clear hw
    go_wp2
    go_ret2
    have hK := HW.out.trans ((Keeps.refl (fun _ => False) w1).alloc (.cells #[.int .u32 0, .int .u32 0] 116)) fun _ _ e => e
    exact ⟨rfl, HM.out.grown hK, hK.none⟩

set_option maxHeartbeats 400000 in
theorem mine_any (b g : Nat) (xs : List UInt32) (p : Int) (k : UInt32) (w : World) (h : Mm w b g xs) (hp : p ≤ 9223372036854775807) :
    Calls Try.prog 32 #[.pointer (some ⟨b, 0, none⟩), .int .i64 p, .int .u32 (k.toNat : Int)] w fun e w' => e = .returned (.tuple #[.bool (mnB xs p k), .int .i64 (okE xs p : Nat)]) ∧ Keeps (fun _ => False) w w' := by
  by_cases hk : LkOk xs p
  · have H1 : Hid (Calls _ _ _ _ _) := lread_in b g xs p w h hk
    unfold mnB okE
    rw [if_pos hk, if_pos hk]
    have E1 : Hid (decide (((tu xs p).toNat : Int) = (k.toNat : Int)) = (tu xs p == k)) := by
      show decide _ = _
      rw [show (tu xs p == k) = decide (tu xs p = k) from rfl]
      apply decide_eq_decide.2
      constructor
      · intro e; exact UInt32.toNat_inj.1 (by omega)
      · intro e; rw [e]
    clear h hk
    go_enter Try.func32, Try.ntmps32
    go_wp2_with fail
    refine H1.out.mono ?_
    rintro e w1 ⟨rfl, hw⟩
    have HW : Hid (Keeps _ _ _) := hw
    clear hw
    go_wp2
    go_ret2
    refine ⟨?_, HW.out.trans ((Keeps.refl (fun _ => False) w1).alloc _) fun _ _ e => e⟩
    rw [← E1.out]
    first | rfl | simp
  · have H1 : Hid (Calls _ _ _ _ _) := lread_out b g xs p w h hk hp
    unfold mnB okE
    rw [if_neg hk, if_neg hk]
    clear h hk
    go_enter Try.func32, Try.ntmps32
    go_wp2_with fail
    refine H1.out.mono ?_
    rintro e w1 ⟨rfl, hw⟩
    have HW : Hid (Keeps _ _ _) := hw
    clear hw
    go_wp2
    go_ret2
    exact ⟨rfl, HW.out.trans ((Keeps.refl (fun _ => False) w1).alloc _) fun _ _ e => e⟩

set_option maxHeartbeats 400000 in
theorem waiting_any (b g : Nat) (xs : List UInt32) (p : Int) (w : World) (h : Mm w b g xs) (hp : p ≤ 9223372036854775807) :
    Calls Try.prog 23 #[.pointer (some ⟨b, 0, none⟩), .int .i64 p] w fun e w' => e = .returned (.tuple #[.int .i64 (wtN xs p : Nat), .int .i64 (okE xs p : Nat)]) ∧ Keeps (fun _ => False) w w' := by
  by_cases hk : LkOk xs p
  · have H1 : Hid (Calls _ _ _ _ _) := lread_in b g xs p w h hk
    have H2 : ∀ w', Calls _ _ _ _ _ := fun w' => out_any (nx xs p) (tu xs p) w'
    have h32 := lt32 (nx xs p - tu xs p)
    unfold wtN okE
    rw [if_pos hk, if_pos hk]
    obtain ⟨r, hr⟩ : ∃ r : Nat, r = (nx xs p - tu xs p).toNat := ⟨_, rfl⟩
    rw [← hr] at H2 h32 ⊢
    have H2 : Hid (∀ w', Calls _ _ _ _ _) := H2
    have h0 : IntKind.i64.wrap (r : Int) = r := by rw [IntKind.wrap_i64]; omega
    clear h hk hr h32
    go_enter Try.func23, Try.ntmps23
    go_wp2_with fail
    refine H1.out.mono ?_
    rintro e w1 ⟨rfl, hw⟩
    have HW : Hid (Keeps _ _ _) := hw
    clear hw
    go_wp2_with fail
    refine (H2.out _).mono ?_
    rintro e w2 ⟨rfl, hw⟩
    obtain ⟨c0, c1, hk2⟩ := pair_cells hw
    have HK : Hid (Keeps _ _ _) := hk2
    clear hw hk2
    go_wp2
    go_ret2
    exact ⟨rfl, HW.out.trans HK.out fun _ _ e => e⟩
  · have H1 : Hid (Calls _ _ _ _ _) := lread_out b g xs p w h hk hp
    unfold wtN okE
    rw [if_neg hk, if_neg hk]
    clear h hk
    go_enter Try.func23, Try.ntmps23
    go_wp2_with fail
    refine H1.out.mono ?_
    rintro e w1 ⟨rfl, hw⟩
    have HW : Hid (Keeps _ _ _) := hw
    clear hw
    go_wp2
    go_ret2
    exact ⟨rfl, HW.out.trans ((Keeps.refl (fun _ => False) w1).alloc _) fun _ _ e => e⟩

set_option maxHeartbeats 400000 in
theorem free_any (b g : Nat) (xs : List UInt32) (p : Int) (k : UInt32) (w : World) (h : Mm w b g xs) (hp : p ≤ 9223372036854775807) :
    Calls Try.prog 34 #[.pointer (some ⟨b, 0, none⟩), .int .i64 p, .int .u32 (k.toNat : Int)] w fun e w' => e = .returned (.int .i64 (frE xs p k : Nat)) ∧ Mm w' b g (frX xs p k) ∧ Keeps (· = g) w w' := by
  by_cases hk : LkOk xs p
  · have H1 : Hid (Calls _ _ _ _ _) := lread_in b g xs p w h hk
    have e1 := succ32 (tu xs p)
    have H2 : ∀ w', Calls _ _ _ _ _ := fun w' => out_any (nx xs p) (tu xs p) w'
    unfold frE frX
    rw [if_pos hk, if_pos hk]
    by_cases hf : nx xs p - tu xs p = 0 ∨ tu xs p ≠ k
    · rw [if_pos hf, if_pos hf]
      have HM : Hid (Mm w b g xs) := h
      by_cases hz : nx xs p - tu xs p = 0
      · rw [hz] at H2
        have H2 : ∀ w', Calls Try.prog 60 #[.agg #[.int .u32 ((nx xs p).toNat : Int), .int .u32 ((tu xs p).toNat : Int)]] w' fun e w'' => e = .returned (.int .u32 0) ∧ Keeps (fun _ => False) w' w'' := H2
        obtain ⟨n, hn'⟩ : ∃ n : Nat, n = (nx xs p).toNat := ⟨_, rfl⟩
        obtain ⟨t, ht'⟩ : ∃ t : Nat, t = (tu xs p).toNat := ⟨_, rfl⟩
        rw [← hn', ← ht'] at H1 H2
        have H2 : Hid (∀ w', Calls _ _ _ _ _) := H2
        clear h hk hf hn' ht' e1 hz
        go_enter Try.func34, Try.ntmps34
        go_wp2_with fail
        refine H1.out.mono ?_
        rintro e w1 ⟨rfl, hw⟩
        have HW : Hid (Keeps _ _ _) := hw
        clear hw
        go_wp2_with fail
        refine (H2.out _).mono ?_
        rintro e w2 ⟨rfl, hw⟩
        obtain ⟨c0, c1, hk2⟩ := pair_cells hw
        have HK : Hid (Keeps _ _ _) := hk2
        clear hw hk2
        go_wp2
        go_ret
        have hK := HW.out.trans HK.out fun _ _ e => e
        exact ⟨rfl, HM.out.grown hK, hK.none⟩
      · have hne : ¬ (((nx xs p - tu xs p).toNat : Nat) : Int) = 0 := by
          intro e
          apply hz
          apply UInt32.toNat_inj.1
          have : (0 : UInt32).toNat = 0 := rfl
          omega
        have hnk : ¬ (tu xs p).toNat = k.toNat := by
          intro e
          rcases hf with hf | hf
          · exact hz hf
          · exact hf (UInt32.toNat_inj.1 e)
        obtain ⟨n, hn'⟩ : ∃ n : Nat, n = (nx xs p).toNat := ⟨_, rfl⟩
        obtain ⟨t, ht'⟩ : ∃ t : Nat, t = (tu xs p).toNat := ⟨_, rfl⟩
        obtain ⟨r, hr'⟩ : ∃ r : Nat, r = (nx xs p - tu xs p).toNat := ⟨_, rfl⟩
        obtain ⟨kk, hkk⟩ : ∃ r : Nat, r = k.toNat := ⟨_, rfl⟩
        rw [← hn', ← ht'] at H1 H2
        rw [← hr'] at H2 hne
        rw [← ht', ← hkk] at hnk
        rw [← hkk]
        have hnk1 : (t != kk) = true := by simpa using hnk
        have hnk2 : ¬ ((t : Int) = (kk : Int)) := by omega
        have hnk3 : ((t : Int) != (kk : Int)) = true := bne_iff_ne.2 hnk2
        have H2 : Hid (∀ w', Calls _ _ _ _ _) := H2
        clear h hk hf hn' ht' e1 hz hr' hkk
        go_enter Try.func34, Try.ntmps34
        go_wp2_with fail
        refine H1.out.mono ?_
        rintro e w1 ⟨rfl, hw⟩
        have HW : Hid (Keeps _ _ _) := hw
        clear hw
        go_wp2_with fail
        refine (H2.out _).mono ?_
        rintro e w2 ⟨rfl, hw⟩
        obtain ⟨c0, c1, hk2⟩ := pair_cells hw
        have HK : Hid (Keeps _ _ _) := hk2
        clear hw hk2
        go_wp2
        go_ret
        have hK := HW.out.trans HK.out fun _ _ e => e
        exact ⟨rfl, HM.out.grown hK, hK.none⟩
    · rw [if_neg hf, if_neg hf]
      have hz : ¬ nx xs p - tu xs p = 0 := fun e => hf (.inl e)
      have htk : tu xs p = k := by
        by_cases e : tu xs p = k
        · exact e
        · exact absurd (.inr e) hf
      have hne : ¬ (((nx xs p - tu xs p).toNat : Nat) : Int) = 0 := by
        intro e
        apply hz
        apply UInt32.toNat_inj.1
        have : (0 : UInt32).toNat = 0 := rfl
        omega
      have HM : Hid (Mm w b g xs) := h
      have HW3 : Hid (∀ w', Mm w' b g xs → Calls _ _ _ w' _) := fun w' hm => write_in b g xs (p.toNat + 1) (tu xs p + 1) w' hm (by have := hk.1; have := hk.2; omega)
      have ep : ((p.toNat + 1 : Nat) : Int) = p + 1 := by have := hk.1; omega
      rw [ep, e1] at HW3
      have hp1 : p ≤ 16384 ∧ 0 ≤ p := by have := hk.1; have := hk.2; have := h.small; omega
      obtain ⟨hp1, hp2⟩ := hp1
      rw [← htk]
      obtain ⟨n, hn'⟩ : ∃ n : Nat, n = (nx xs p).toNat := ⟨_, rfl⟩
      obtain ⟨t, ht'⟩ : ∃ t : Nat, t = (tu xs p).toNat := ⟨_, rfl⟩
      obtain ⟨r, hr'⟩ : ∃ r : Nat, r = (nx xs p - tu xs p).toNat := ⟨_, rfl⟩
      rw [← hn', ← ht'] at H1 H2
      rw [← ht'] at HW3 ⊢
      rw [← hr'] at H2 hne
      have H2 : Hid (∀ w', Calls _ _ _ _ _) := H2
      obtain ⟨ys, hys⟩ : ∃ ys, ys = lay xs (p.toNat + 1) [tu xs p + 1] := ⟨_, rfl⟩
      rw [← hys] at HW3 ⊢
      clear h hk hf hn' ht' e1 hr' hys ep hz htk
      go_enter Try.func34, Try.ntmps34
      go_wp2_with fail
      refine H1.out.mono ?_
      rintro e w1 ⟨rfl, hw⟩
      have HW : Hid (Keeps _ _ _) := hw
      clear hw
      go_wp2_with fail
      refine (H2.out _).mono ?_
      rintro e w2 ⟨rfl, hw⟩
      obtain ⟨c0, c1, hk2⟩ := pair_cells hw
      have hK := HW.out.trans hk2 fun _ _ e => e
      have HK : Hid (Keeps _ _ _ ∧ Mm w2 b g xs) := ⟨hK, HM.out.grown hK⟩
      clear hw hk2 HW hK
      go_wp2_with fail
      refine (HW3.out _ HK.out.2).mono ?_
      rintro e w3 ⟨rfl, hm, hk3⟩
      have HN : Hid (Mm _ _ _ _ ∧ Keeps _ _ _) := ⟨hm, hk3⟩
      clear hm hk3
      go_wp2
      go_ret
      exact ⟨rfl, HN.out.1, HK.out.1.none.trans HN.out.2 fun _ _ e => e⟩
  · have H1 : Hid (Calls _ _ _ _ _) := lread_out b g xs p w h hk hp
    unfold frE frX
    rw [if_neg hk, if_neg hk]
    have HM : Hid (Mm w b g xs) := h
    clear h hk
    go_enter Try.func34, Try.ntmps34
    go_wp2_with fail
    refine H1.out.mono ?_
    rintro e w1 ⟨rfl, hw⟩
    have HW : Hid (Keeps _ _ _) := hw
    clear hw
    go_wp2
    go_ret
    have hK := HW.out.trans ((Keeps.refl (fun _ => False) w1).alloc (.cells #[.int .u32 0, .int .u32 0] 116)) fun _ _ e => e
    exact ⟨rfl, HM.out.grown hK, hK.none⟩

end Go.Proofs.Ytadhldpeklkcmaa
