import Derived.Test.YtipejahmjdamjaaGreatDoorChCa
import Derived.Deep.RegionHeld3
namespace Go.Proofs.YtipejahmjdamjaaGreatDoor.Ch
open Go.RowKit Go.Shelf
set_option linter.unusedVariables false

/-- What the sets hold behind a touch of a line. -/
def step (l : Nat) (st : Nat → List Int) : Nat → List Int := fun i => if i = l % 4 then putL 2 (l : Int) (st i) else st i
def cost (l : Nat) (st : Nat → List Int) : Int := if (l : Int) ∈ st (l % 4) then 1 else 7

theorem i64_nat {l : Nat} (h : l < 16384) : I64 (l : Int) := ⟨by omega, by omega⟩

set_option maxHeartbeats 1000000 in
theorem touch_walk (c sk a l : Nat) (hit : Bool) (w : World) (Q1 Q : World → Prop) (ha : a < 16384) (hl : l = a / 4) (hc : w.cell? ⟨c, l % 4, none⟩ = some (ptr sk))
    (HG : Hid (∀ q, Calls Tryz.prog 177 #[ptr sk, .int .i64 l] (w.drewN q) fun r w' => r = .returned (.tuple #[.agg #[], .bool hit]) ∧ Q1 w'))
    (HP : Hid (∀ w1 w2, Q1 w1 → Keeps (fun _ => False) w1 w2 → hit = false → Calls Tryz.prog 85 #[ptr sk, .int .i64 l, .agg #[]] w2 fun r w' => (∃ v b, r = .returned (.tuple #[.int .i64 v, .bool b])) ∧ Q w'))
    (HQ : Hid (∀ w1 w2, Q1 w1 → Keeps (fun _ => False) w1 w2 → hit = true → Q w2)) :
    Calls Tryz.prog 127 #[ptr c, .int .i64 a] w fun r w' => r = .returned (.tuple #[.int .i64 (if hit then 1 else 7), .int .i64 0]) ∧ Q w' := by
  have H1 : Hid (Calls _ _ _ _ _) := lineOf_in a ha w
  rw [← hl] at H1
  have H2 : Hid (∀ w, Calls _ _ _ _ _) := fun w => setOf_in l w
  obtain ⟨k, hk⟩ : ∃ k, k = l % 4 := ⟨_, rfl⟩
  have hk4 : (k : Int) < 4 := by omega
  have hk0 : (0 : Int) ≤ k := by omega
  rw [← hk] at hc
  rw [← hk] at H2
  clear ha hl hk
  go_enter Tryz.func127, Tryz.ntmps127
  go_wp2_with fail
  refine H1.out.mono ?_
  rintro r w1 ⟨rfl, rfl⟩
  clear H1
  go_wp2_with fail
  go_quiet ((go_at_call 163; exact (H2.out _).mono fun e w2 h2 => ⟨h2.1, _, h2.2⟩))
  go_wp2_with fail
  refine (HG.out _).mono ?_
  rintro r w3 ⟨rfl, hq⟩
  have HQ3 : Hid (Q1 w3) := hq
  clear hq HG hc H2
  cases hit with
  | true =>
    clear HP
    go_wp2
    go_ret2
    exact ⟨rfl, HQ.out _ _ HQ3.out ((Keeps.refl _ w3).alloc _) (by trivial)⟩
  | false =>
    have HP' : Hid (Calls _ _ _ _ _) := HP.out w3 _ HQ3.out ((Keeps.refl _ w3).alloc (.cells #[] 133)) rfl
    clear HP
    go_wp2_with fail
    refine HP'.out.mono ?_
    rintro r w4 ⟨⟨v, b, rfl⟩, hq4⟩
    have HQ4 : Hid (Q w4) := hq4
    clear hq4 HP'
    go_wp2
    go_ret2
    exact ⟨rfl, HQ4.out⟩

theorem now_trans {w w1 w2 : World} {s room : Nat} {ks : List Int} {F F1 : Nat → Prop} (hF : ∀ b, F1 b → F b ∨ w.heap.size ≤ b) (hK : Keeps F w w1) (h2 : Now w1 w2 s room ks F1) : Now w w2 s room ks F := by
  obtain ⟨⟨F2, g1, g2⟩, g3⟩ := h2
  refine ⟨⟨F2, g1, fun b hb => ?_⟩, hK.trans g3 fun b hb h => ?_⟩
  · rcases g2 b hb with h | h
    · exact hF b h
    · exact .inr (Nat.le_trans hK.size h)
  · rcases hF b h with h | h
    · exact h
    · omega

theorem touch_any (c a : Nat) (st : Nat → List Int) (F : Nat → Prop) (w : World) (h : Ca w c st F) (ha : a < 16384) :
    Calls Tryz.prog 127 #[ptr c, .int .i64 a] w fun r w' => r = .returned (.tuple #[.int .i64 (cost (a / 4) st), .int .i64 0]) ∧ NowC w w' c (step (a / 4) st) F := by
  obtain ⟨s, Fs, h1, h2, h3, h4⟩ := h
  obtain ⟨l, hl⟩ : ∃ l, l = a / 4 := ⟨_, rfl⟩
  rw [← hl]
  obtain ⟨k, hk⟩ : ∃ k, k = l % 4 := ⟨_, rfl⟩
  have hk4 : k < 4 := by omega
  have hi : I64 (l : Int) := i64_nat (by omega)
  have hc : w.cell? ⟨c, l % 4, none⟩ = some (ptr (s k)) := by
    refine h1.blk.cell ?_
    rw [← hk, slots_get s hk4, if_pos hk4]
  have hs := h1.sf k hk4
  have e : cost l st = if (decide ((l : Int) ∈ st k)) then 1 else 7 := by
    unfold cost; rw [← hk]; by_cases hm : (l : Int) ∈ st k <;> simp [hm]
  rw [e]
  refine (touch_walk c (s k) a l (decide ((l : Int) ∈ st k)) w (fun w' => Now w w' (s k) 2 (touch (l : Int) (st k)) (Fs k)) (fun w' => Now w w' (s k) 2 (putL 2 (l : Int) (st k)) (Fs k)) ha hl hc ?_ ?_ ?_).mono ?_
  · intro q
    refine (get_any (s k) 2 (st k) (Fs k) l (w.drewN q) (hs.kept ((Keeps.refl (fun _ => False) w).drewN q) fun _ _ h => h) hi).mono ?_
    rintro r w' ⟨rfl, hN⟩
    exact ⟨rfl, hN.1, hN.2.fromDrewN⟩
  · intro w1 w2 hN hK hf
    have hm : (l : Int) ∉ st k := by simpa using hf
    obtain ⟨⟨F', g1, g2⟩, g3⟩ := hN
    have e2 : touch (l : Int) (st k) = st k := by unfold touch; rw [if_neg hm]
    rw [e2] at g1
    refine (put_any (s k) 2 (st k) F' l w2 (g1.kept hK fun _ _ h => h) hi).mono ?_
    rintro r w' ⟨rfl, hN⟩
    refine ⟨⟨_, _, rfl⟩, now_trans (F1 := F') g2 g3 (now_trans (F1 := F') (fun b hb => .inl hb) (hK.mono fun _ _ h => h.elim) hN)⟩
  · intro w1 w2 hN hK hf
    have hm : (l : Int) ∈ st k := by simpa using hf
    obtain ⟨⟨F', g1, g2⟩, g3⟩ := hN
    have e2 : touch (l : Int) (st k) = putL 2 (l : Int) (st k) := by unfold touch putL; rw [if_pos hm, if_pos hm]
    rw [e2] at g1
    exact now_trans g2 g3 (now_keep g1 hK)
  · rintro r w' ⟨rfl, hN⟩
    refine ⟨rfl, ?_⟩
    obtain ⟨⟨F', g1, g2⟩, g3⟩ := nowC_set h1 h2 h3 h4 hk4 hN
    refine ⟨⟨F', g1.same fun i hi => ?_, g2⟩, g3⟩
    unfold step
    rw [← hk]
    by_cases e : i = k
    · subst e; simp
    · simp [e]

end Go.Proofs.YtipejahmjdamjaaGreatDoor.Ch
namespace Go.Proofs.YtipejahmjdamjaaGreatDoor.Ch
open Go.RowKit Go.Shelf
set_option linter.unusedVariables false

def intOf : Value → Int | .int _ n => n | _ => 0

theorem ca0_blank (w : World) : Ca0 (w.alloc (.cells #[.pointer none, .pointer none, .pointer none, .pointer none] 130)) w.heap.size 0 (fun _ => 0) (fun _ => []) (fun _ _ => False) :=
  ⟨Blk.new w _ 130, fun i hi => by omega, fun i hi => by omega, fun i hi => by omega⟩

/-- One set more. -/
theorem ca0_more {w w1 w2 : World} {c n s1 : Nat} {s : Nat → Nat} {Fs : Nat → Nat → Prop} {F1 : Nat → Prop} (h : Ca0 w c n s (fun _ => []) Fs) (hn : n < 4) (hK : Keeps (fun _ => False) w w1) (hS : Sf w1 s1 2 [] F1)
    (hF : ∀ b, F1 b → w.heap.size ≤ b) (hK2 : Keeps (· = c) w1 w2) (hB : Blk w1 c (slots n s) 130 → Blk w2 c ((slots n s).set n (ptr s1)) 130) :
    Ca0 w2 c (n + 1) (fun i => if i = n then s1 else s i) (fun _ => []) (fun i b => if i = n then F1 b else Fs i b) := by
  have hcw := h.blk.lt
  have lt : ∀ i, i < n → ∀ b, Fs i b → b < w.heap.size := fun i hi b hb => (h.sf i hi).lt b hb
  have h1 := h.kept hK (fun h => h) fun i hi b hb h => h
  refine ⟨?_, ?_, ?_, ?_⟩
  · have := hB h1.blk
    rw [← slots_set s (fun i => if i = n then s1 else s i) hn fun i hi => if_neg (by omega)]
    simpa using this
  · intro i hi
    by_cases e : i = n
    · simp only [if_pos e]
      refine hS.kept hK2 fun b hb he => ?_
      have := hF b hb; omega
    · simp only [if_neg e]
      refine (h1.sf i (by omega)).kept hK2 fun b hb he => ?_
      exact h.out i (by omega) (he ▸ hb)
  · intro i hi j hj hij b hb hb2
    by_cases e : i = n
    · have e2 : j ≠ n := by omega
      simp only [if_pos e] at hb
      simp only [if_neg e2] at hb2
      have := hF b hb; have := lt j (by omega) b hb2; omega
    · simp only [if_neg e] at hb
      by_cases e2 : j = n
      · simp only [if_pos e2] at hb2
        have := hF b hb2; have := lt i (by omega) b hb; omega
      · simp only [if_neg e2] at hb2
        exact h.apart i (by omega) j (by omega) hij b hb hb2
  · intro i hi hb
    by_cases e : i = n
    · simp only [if_pos e] at hb
      have := hF c hb; omega
    · simp only [if_neg e] at hb
      exact h.out i (by omega) hb

set_option maxHeartbeats 1000000 in
theorem newC_any (w : World) : Calls Tryz.prog 40 #[] w fun r w' => r = .returned (ptr w.heap.size) ∧ (∃ F, Ca w' w.heap.size (fun _ => []) F ∧ ∀ b, F b → w.heap.size ≤ b) ∧ Keeps (fun _ => False) w w' := by
  obtain ⟨W, hW⟩ : ∃ W, W = w.alloc (.cells #[.pointer none, .pointer none, .pointer none, .pointer none] 130) := ⟨_, rfl⟩
  obtain ⟨c, hc⟩ : ∃ c, c = w.heap.size := ⟨_, rfl⟩
  have h0 : Ca0 W c 0 (fun _ => 0) (fun _ => []) (fun _ _ => False) := by rw [hW, hc]; exact ca0_blank w
  have hK0 : Keeps (fun _ => False) w W := by rw [hW]; exact (Keeps.refl _ w).alloc _
  have HH : Hid (W = w.alloc (.cells #[.pointer none, .pointer none, .pointer none, .pointer none] 130) ∧ c = w.heap.size ∧ Ca0 W c 0 (fun _ => 0) (fun _ => []) (fun _ _ => False) ∧ Keeps (fun _ => False) w W) := ⟨hW, hc, h0, hK0⟩
  clear hW h0 hK0
  have HC : Hid (∀ w, Calls _ _ _ _ _) := fun w => new_any 2 w (by omega) (by omega)
  rw [← hc]
  go_enter Tryz.func40, Tryz.ntmps40
  go_wp2
  rw [← HH.out.1, ← hc]
  clear hc
  go_loopw [5] (fun i wr => ∃ (j : Nat) (s : Nat → Nat) (Fs : Nat → Nat → Prop), j ≤ 4 ∧ i = .int .i64 j ∧ Ca0 wr c j s (fun _ => []) Fs ∧ (∀ i, i < j → ∀ b, Fs i b → c ≤ b) ∧ Keeps (fun _ => False) w wr) (fun i _ => 4 - (intOf i).toNat)
  case atStart => exact ⟨0, _, _, by omega, rfl, HH.out.2.2.1, fun i hi => by omega, HH.out.2.2.2⟩
  case round =>
    obtain ⟨j, s, Fs, hj, rfl, hC, hF, hK⟩ := hrel
    by_cases hlt : j < 4
    · have hj4 : (j : Int) < 4 := by omega
      have HR : Hid (Ca0 wr c j s (fun _ => []) Fs ∧ (∀ i, i < j → ∀ b, Fs i b → c ≤ b) ∧ Keeps (fun _ => False) w wr ∧ j < 4 ∧ c = w.heap.size) := ⟨hC, hF, hK, hlt, HH.out.2.1⟩
      have hS : wr.cell? ⟨c, j, none⟩ = some (.pointer none) ∧ wr.frozen? ⟨c, j, none⟩ = false := ⟨hC.blk.cell (by rw [slots_get s hlt, if_neg (by omega)]), hC.blk.frozen j⟩
      clear hC hF hK hlt HH hj
      go_wp2_with fail
      go_region_held3 (fun _ => True) (trivial)
        ((go_at_call 69; refine (HC.out _).mono ?_; rintro e w2 ⟨rfl, ⟨F1, hS1, hF1⟩, hK1⟩; have hb2 := (HR.out.1.blk.drew).kept hK1 (fun h => h); have hc2 : w2.cell? ⟨c, j, none⟩ = some (.pointer none) := hb2.cell (by rw [slots_get s HR.out.2.2.2.1, if_neg (by omega)]); have hf2 := hb2.frozen j))
      have HF : Hid (∃ s' Fs', Ca0 (w2.setCell ⟨c, j, none⟩ (ptr (wr.heap.size + 1))) c (j + 1) s' (fun _ => []) Fs' ∧ (∀ i, i < j + 1 → ∀ b, Fs' i b → c ≤ b) ∧ Keeps (fun _ => False) w (w2.setCell ⟨c, j, none⟩ (ptr (wr.heap.size + 1)))) := by
        obtain ⟨r1, r2, r3, r4, r5⟩ := HR.out
        have hK1' : Keeps (fun _ => False) wr w2 := ((Keeps.refl _ wr).drew).trans hK1 fun _ _ h => h
        refine ⟨_, _, ca0_more r1 r4 hK1' hS1 hF1 ((Keeps.refl _ w2).setCell _ _ fun _ => rfl) (fun h => h.setCell j _), ?_, (r3.trans hK1' fun _ _ h => h).setCell _ _ fun h => by simp at h; omega⟩
        intro i hi b hb
        by_cases e : i = j
        · simp only [if_pos e] at hb
          have h1 : wr.heap.size ≤ b := hF1 b hb
          have := r3.size
          omega
        · simp only [if_neg e] at hb
          exact r2 i (by omega) b hb
      clear hS hb2 hS1 hF1 hK1
      go_wp2
      go_roundw
      case rel =>
        obtain ⟨s', Fs', g1, g2, g3⟩ := HF.out
        exact ⟨j + 1, s', Fs', by have := HR.out.2.2.2.1; omega, by simp, g1, g2, g3⟩
      case measure => have := HR.out.2.2.2.1; simp [intOf]; omega
    · obtain rfl : j = 4 := by omega
      have HR : Hid ((∃ F, Ca wr c (fun _ => []) F ∧ ∀ b, F b → c ≤ b) ∧ Keeps (fun _ => False) w wr) := by
        refine ⟨⟨fun b => (b = c ∨ ∃ i, i < 4 ∧ Fs i b), ⟨s, Fs, hC, .inl rfl, fun i hi b hb => .inr ⟨i, hi, hb⟩, ?_⟩, ?_⟩, hK⟩
        · rintro b (rfl | ⟨i, hi, hb⟩)
          · exact hC.blk.lt
          · exact (hC.sf i hi).lt b hb
        · rintro b (rfl | ⟨i, hi, hb⟩)
          · omega
          · exact hF i hi b hb
      clear hC hF hK hlt hj HH
      go_wp2
      go_ret
      exact ⟨rfl, HR.out⟩

end Go.Proofs.YtipejahmjdamjaaGreatDoor.Ch
