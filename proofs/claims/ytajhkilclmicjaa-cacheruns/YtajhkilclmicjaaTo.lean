import Derived.Test.YtajhkilclmicjaaCa
namespace Go.Proofs.Ytajhkilclmicjaa
open Go.RowKit Go.Shelf
set_option linter.unusedVariables false

/-- What the sets hold behind a touch of a line. -/
def step (l : Nat) (st : Nat → List Int) : Nat → List Int := fun i => if i = l % 4 then putL 2 (l : Int) (st i) else st i
def cost (l : Nat) (st : Nat → List Int) : Int := if (l : Int) ∈ st (l % 4) then 1 else 7

theorem i64_nat {l : Nat} (h : l < 16384) : I64 (l : Int) := ⟨by omega, by omega⟩

set_option maxHeartbeats 1000000 in
theorem touch_walk (c sk a l : Nat) (hit : Bool) (w : World) (Q1 Q : World → Prop) (ha : a < 16384) (hl : l = a / 4) (hc : w.cell? ⟨c, l % 4, none⟩ = some (ptr sk))
    (HG : Hid (∀ q, Calls Try.prog 35 #[ptr sk, .int .i64 l] (w.drewN q) fun r w' => r = .returned (.tuple #[.agg #[], .bool hit]) ∧ Q1 w'))
    (HP : Hid (∀ w1 w2, Q1 w1 → Keeps (fun _ => False) w1 w2 → hit = false → Calls Try.prog 36 #[ptr sk, .int .i64 l, .agg #[]] w2 fun r w' => (∃ v b, r = .returned (.tuple #[.int .i64 v, .bool b])) ∧ Q w'))
    (HQ : Hid (∀ w1 w2, Q1 w1 → Keeps (fun _ => False) w1 w2 → hit = true → Q w2)) :
    Calls Try.prog 16 #[ptr c, .int .i64 a] w fun r w' => r = .returned (.tuple #[.int .i64 (if hit then 1 else 7), .int .i64 0]) ∧ Q w' := by
  have H1 : Hid (Calls _ _ _ _ _) := lineOf_in a ha w
  rw [← hl] at H1
  have H2 : Hid (∀ w, Calls _ _ _ _ _) := fun w => setOf_in l w
  obtain ⟨k, hk⟩ : ∃ k, k = l % 4 := ⟨_, rfl⟩
  have hk4 : (k : Int) < 4 := by omega
  have hk0 : (0 : Int) ≤ k := by omega
  rw [← hk] at hc
  rw [← hk] at H2
  clear ha hl hk
  go_enter Try.func16, Try.ntmps16
  go_wp2_with fail
  refine H1.out.mono ?_
  rintro r w1 ⟨rfl, rfl⟩
  clear H1
  go_wp2_with fail
  go_quiet ((go_at_call 34; exact (H2.out _).mono fun e w2 h2 => ⟨h2.1, _, h2.2⟩))
  go_wp2_with fail
  refine (HG.out _).mono ?_
  rintro r w3 ⟨rfl, hq⟩
  have HQ3 : Hid (Q1 w3) := hq
  clear hq HG hc H2
  cases hit with
  | true =>
    clear HP
    go_wp2
    go_ret2
    exact ⟨rfl, HQ.out _ _ HQ3.out ((Keeps.refl _ w3).alloc _) (by trivial)⟩
  | false =>
    have HP' : Hid (Calls _ _ _ _ _) := HP.out w3 _ HQ3.out ((Keeps.refl _ w3).alloc (.cells #[] 58)) rfl
    clear HP
    go_wp2_with fail
    refine HP'.out.mono ?_
    rintro r w4 ⟨⟨v, b, rfl⟩, hq4⟩
    have HQ4 : Hid (Q w4) := hq4
    clear hq4 HP'
    go_wp2
    go_ret2
    exact ⟨rfl, HQ4.out⟩

theorem now_trans {w w1 w2 : World} {s room : Nat} {ks : List Int} {F F1 : Nat → Prop} (hF : ∀ b, F1 b → F b ∨ w.heap.size ≤ b) (hK : Keeps F w w1) (h2 : Now w1 w2 s room ks F1) : Now w w2 s room ks F := by
  obtain ⟨⟨F2, g1, g2⟩, g3⟩ := h2
  refine ⟨⟨F2, g1, fun b hb => ?_⟩, hK.trans g3 fun b hb h => ?_⟩
  · rcases g2 b hb with h | h
    · exact hF b h
    · exact .inr (Nat.le_trans hK.size h)
  · rcases hF b h with h | h
    · exact h
    · omega

theorem touch_any (c a : Nat) (st : Nat → List Int) (F : Nat → Prop) (w : World) (h : Ca w c st F) (ha : a < 16384) :
    Calls Try.prog 16 #[ptr c, .int .i64 a] w fun r w' => r = .returned (.tuple #[.int .i64 (cost (a / 4) st), .int .i64 0]) ∧ NowC w w' c (step (a / 4) st) F := by
  obtain ⟨s, Fs, h1, h2, h3, h4⟩ := h
  obtain ⟨l, hl⟩ : ∃ l, l = a / 4 := ⟨_, rfl⟩
  rw [← hl]
  obtain ⟨k, hk⟩ : ∃ k, k = l % 4 := ⟨_, rfl⟩
  have hk4 : k < 4 := by omega
  have hi : I64 (l : Int) := i64_nat (by omega)
  have hc : w.cell? ⟨c, l % 4, none⟩ = some (ptr (s k)) := by
    refine h1.blk.cell ?_
    rw [← hk, slots_get s hk4, if_pos hk4]
  have hs := h1.sf k hk4
  have e : cost l st = if (decide ((l : Int) ∈ st k)) then 1 else 7 := by
    unfold cost; rw [← hk]; by_cases hm : (l : Int) ∈ st k <;> simp [hm]
  rw [e]
  refine (touch_walk c (s k) a l (decide ((l : Int) ∈ st k)) w (fun w' => Now w w' (s k) 2 (touch (l : Int) (st k)) (Fs k)) (fun w' => Now w w' (s k) 2 (putL 2 (l : Int) (st k)) (Fs k)) ha hl hc ?_ ?_ ?_).mono ?_
  · intro q
    refine (get_any (s k) 2 (st k) (Fs k) l (w.drewN q) (hs.kept ((Keeps.refl (fun _ => False) w).drewN q) fun _ _ h => h) hi).mono ?_
    rintro r w' ⟨rfl, hN⟩
    exact ⟨rfl, hN.1, hN.2.fromDrewN⟩
  · intro w1 w2 hN hK hf
    have hm : (l : Int) ∉ st k := by simpa using hf
    obtain ⟨⟨F', g1, g2⟩, g3⟩ := hN
    have e2 : touch (l : Int) (st k) = st k := by unfold touch; rw [if_neg hm]
    rw [e2] at g1
    refine (put_any (s k) 2 (st k) F' l w2 (g1.kept hK fun _ _ h => h) hi).mono ?_
    rintro r w' ⟨rfl, hN⟩
    refine ⟨⟨_, _, rfl⟩, now_trans (F1 := F') g2 g3 (now_trans (F1 := F') (fun b hb => .inl hb) (hK.mono fun _ _ h => h.elim) hN)⟩
  · intro w1 w2 hN hK hf
    have hm : (l : Int) ∈ st k := by simpa using hf
    obtain ⟨⟨F', g1, g2⟩, g3⟩ := hN
    have e2 : touch (l : Int) (st k) = putL 2 (l : Int) (st k) := by unfold touch putL; rw [if_pos hm, if_pos hm]
    rw [e2] at g1
    exact now_trans g2 g3 (now_keep g1 hK)
  · rintro r w' ⟨rfl, hN⟩
    refine ⟨rfl, ?_⟩
    obtain ⟨⟨F', g1, g2⟩, g3⟩ := nowC_set h1 h2 h3 h4 hk4 hN
    refine ⟨⟨F', g1.same fun i hi => ?_, g2⟩, g3⟩
    unfold step
    rw [← hk]
    by_cases e : i = k
    · subst e; simp
    · simp [e]

end Go.Proofs.Ytajhkilclmicjaa
