import Derived.Test.YtipejahmjdamjaaDoorChG
namespace Go.Proofs.YtipejahmjdamjaaDoor.Ch
open Go.RowKit Go.Shelf
set_option linter.unusedVariables false

def slots (n : Nat) (s : Nat → Nat) : List Value := (List.range 4).map fun i => if i < n then ptr (s i) else .pointer none

/-- A cache in the memory whose first n sets are laid. -/
structure Ca0 (w : World) (c n : Nat) (s : Nat → Nat) (st : Nat → List Int) (Fs : Nat → Nat → Prop) : Prop where
  blk : Blk w c (slots n s) 66
  sf : ∀ i, i < n → Sf w (s i) 2 (st i) (Fs i)
  apart : ∀ i, i < n → ∀ j, j < n → i ≠ j → ∀ b, Fs i b → ¬ Fs j b
  out : ∀ i, i < n → ¬ Fs i c

/-- A cache: what its sets hold, the least lately used first; all its blocks are among F. -/
def Ca (w : World) (c : Nat) (st : Nat → List Int) (F : Nat → Prop) : Prop :=
  ∃ s Fs, Ca0 w c 4 s st Fs ∧ F c ∧ (∀ i, i < 4 → ∀ b, Fs i b → F b) ∧ ∀ b, F b → b < w.heap.size

def NowC (w w' : World) (c : Nat) (st : Nat → List Int) (F : Nat → Prop) : Prop :=
  (∃ F', Ca w' c st F' ∧ ∀ b, F' b → F b ∨ w.heap.size ≤ b) ∧ Keeps F w w'

theorem slots_get {n i : Nat} (s : Nat → Nat) (h : i < 4) : (slots n s)[i]? = some (if i < n then ptr (s i) else .pointer none) := by
  unfold slots
  rw [List.getElem?_map, List.getElem?_range h]
  rfl
theorem slots_set {n : Nat} (s s' : Nat → Nat) (h : n < 4) (hs : ∀ i, i < n → s' i = s i) : (slots n s).set n (ptr (s' n)) = slots (n + 1) s' := by
  have h' : n = 0 ∨ n = 1 ∨ n = 2 ∨ n = 3 := by omega
  rcases h' with rfl | rfl | rfl | rfl
  · rfl
  · have := hs 0 (by omega)
    simp [slots, List.range, List.range.loop, this]
  · have := hs 0 (by omega); have := hs 1 (by omega)
    simp [slots, List.range, List.range.loop, *]
  · have := hs 0 (by omega); have := hs 1 (by omega); have := hs 2 (by omega)
    simp [slots, List.range, List.range.loop, *]

section
variable {w w' : World} {c n : Nat} {s : Nat → Nat} {st st' : Nat → List Int} {Fs : Nat → Nat → Prop} {F : Nat → Prop}

theorem Ca0.kept {S : Nat → Prop} (h : Ca0 w c n s st Fs) (hK : Keeps S w w') (hc : ¬ S c) (hF : ∀ i, i < n → ∀ b, Fs i b → ¬ S b) : Ca0 w' c n s st Fs :=
  ⟨h.blk.kept hK hc, fun i hi => (h.sf i hi).kept hK (hF i hi), h.apart, h.out⟩
theorem Ca.kept {S : Nat → Prop} (h : Ca w c st F) (hK : Keeps S w w') (hF : ∀ b, F b → ¬ S b) : Ca w' c st F := by
  obtain ⟨s, Fs, h1, h2, h3, h4⟩ := h
  exact ⟨s, Fs, h1.kept hK (hF c h2) fun i hi b hb => hF b (h3 i hi b hb), h2, h3, fun b hb => Nat.lt_of_lt_of_le (h4 b hb) hK.size⟩
theorem Ca.lt (h : Ca w c st F) : ∀ b, F b → b < w.heap.size := by
  obtain ⟨s, Fs, h1, h2, h3, h4⟩ := h
  exact h4
theorem Ca.self (h : Ca w c st F) : F c := by
  obtain ⟨s, Fs, h1, h2, h3, h4⟩ := h
  exact h2
theorem Ca.same (h : Ca w c st F) (e : ∀ i, i < 4 → st' i = st i) : Ca w c st' F := by
  obtain ⟨s, Fs, h1, h2, h3, h4⟩ := h
  exact ⟨s, Fs, ⟨h1.blk, fun i hi => by rw [e i hi]; exact h1.sf i hi, h1.apart, h1.out⟩, h2, h3, h4⟩
theorem Ca.fits (h : Ca w c st F) (i : Nat) (hi : i < 4) : (st i).length ≤ 2 := by
  obtain ⟨s, Fs, h1, h2, h3, h4⟩ := h
  exact (h1.sf i hi).fits
theorem Ca.nodup (h : Ca w c st F) (i : Nat) (hi : i < 4) : (st i).Nodup := by
  obtain ⟨s, Fs, h1, h2, h3, h4⟩ := h
  exact (h1.sf i hi).keys

theorem nowC_keep (h : Ca w c st F) (hK : Keeps (fun _ => False) w w') : NowC w w' c st F :=
  ⟨⟨F, h.kept hK fun _ _ h => h, fun b hb => .inl hb⟩, hK.mono fun _ _ h => h.elim⟩
theorem nowC_trans {w1 w2 : World} {F1 : Nat → Prop} (hF : ∀ b, F1 b → F b ∨ w.heap.size ≤ b) (hK : Keeps F w w1) (h2 : NowC w1 w2 c st F1) : NowC w w2 c st F := by
  obtain ⟨⟨F2, g1, g2⟩, g3⟩ := h2
  refine ⟨⟨F2, g1, fun b hb => ?_⟩, hK.trans g3 fun b hb h => ?_⟩
  · rcases g2 b hb with h | h
    · exact hF b h
    · exact .inr (Nat.le_trans hK.size h)
  · rcases hF b h with h | h
    · exact h
    · omega
/-- One set has changed. -/
theorem nowC_set (h : Ca0 w c 4 s st Fs) (h2 : F c) (h3 : ∀ i, i < 4 → ∀ b, Fs i b → F b) (h4 : ∀ b, F b → b < w.heap.size) {k : Nat} (hk : k < 4) {ks : List Int} (hN : Now w w' (s k) 2 ks (Fs k)) :
    NowC w w' c (fun i => if i = k then ks else st i) F := by
  obtain ⟨⟨F', g1, g2⟩, g3⟩ := hN
  have lt : ∀ i, i < 4 → ∀ b, Fs i b → b < w.heap.size := fun i hi b hb => h4 b (h3 i hi b hb)
  refine ⟨⟨fun b => (F b ∨ w.heap.size ≤ b) ∧ b < w'.heap.size, ⟨s, fun i b => if i = k then F' b else Fs i b, ⟨h.blk.kept g3 (h.out k hk), ?_, ?_, ?_⟩, ⟨.inl h2, ?_⟩, ?_, fun b hb => hb.2⟩, fun b hb => hb.1⟩, g3.mono fun b _ hb => h3 k hk b hb⟩
  · intro i hi
    by_cases e : i = k
    · subst e; simp only [if_pos]; exact g1
    · simp only [if_neg e]
      exact (h.sf i hi).kept g3 fun b hb hb2 => h.apart i hi k hk e b hb hb2
  · intro i hi j hj hij b hb hb2
    by_cases e : i = k
    · have e2 : j ≠ k := fun e2 => hij (e.trans e2.symm)
      simp only [if_pos e] at hb
      simp only [if_neg e2] at hb2
      rcases g2 b hb with h' | h'
      · exact h.apart k hk j hj (fun e3 => e2 e3.symm) b h' hb2
      · have := lt j hj b hb2; omega
    · simp only [if_neg e] at hb
      by_cases e2 : j = k
      · simp only [if_pos e2] at hb2
        rcases g2 b hb2 with h' | h'
        · exact h.apart i hi k hk e b hb h'
        · have := lt i hi b hb; omega
      · simp only [if_neg e2] at hb2
        exact h.apart i hi j hj hij b hb hb2
  · intro i hi hb
    by_cases e : i = k
    · simp only [if_pos e] at hb
      rcases g2 c hb with h' | h'
      · exact h.out k hk h'
      · have := h4 c h2; omega
    · simp only [if_neg e] at hb
      exact h.out i hi hb
  · exact Nat.lt_of_lt_of_le (h4 c h2) g3.size
  · intro i hi b hb
    by_cases e : i = k
    · simp only [if_pos e] at hb
      refine ⟨?_, g1.lt b hb⟩
      rcases g2 b hb with h' | h'
      · exact .inl (h3 k hk b h')
      · exact .inr h'
    · simp only [if_neg e] at hb
      exact ⟨.inl (h3 i hi b hb), Nat.lt_of_lt_of_le (lt i hi b hb) g3.size⟩
end

/-! ### Small functions -/
theorem lineOf_in (a : Nat) (ha : a < 16384) (w : World) : Calls Tryd.prog 47 #[.int .i64 a] w fun r w' => r = .returned (.tuple #[.int .i64 ((a / 4 : Nat) : Int), .bool true]) ∧ w' = w := by
  have h1 : ¬ ((a : Int) < 0) := by omega
  have h2 : ¬ ((a : Int) ≥ 16384) := by omega
  go_enter Tryd.func47, Tryd.ntmps47
  go_wp2
  go_ret2
  refine ⟨?_, rfl⟩
  simp

theorem setOf_in (l : Nat) (w : World) : Calls Tryd.prog 48 #[.int .i64 l] w fun r w' => r = .returned (.int .i64 ((l % 4 : Nat) : Int)) ∧ w' = w := by
  go_enter Tryd.func48, Tryd.ntmps48
  go_wp2
  go_ret
  refine ⟨?_, rfl⟩
  simp

end Go.Proofs.YtipejahmjdamjaaDoor.Ch
namespace Go.Proofs.YtipejahmjdamjaaDoor.Ch
open Go.RowKit Go.Shelf
set_option linter.unusedVariables false

/-- What the sets hold behind a touch of a line. -/
def step (l : Nat) (st : Nat → List Int) : Nat → List Int := fun i => if i = l % 4 then putL 2 (l : Int) (st i) else st i
def cost (l : Nat) (st : Nat → List Int) : Int := if (l : Int) ∈ st (l % 4) then 1 else 7

theorem i64_nat {l : Nat} (h : l < 16384) : I64 (l : Int) := ⟨by omega, by omega⟩

set_option maxHeartbeats 1000000 in
theorem touch_walk (c sk a l : Nat) (hit : Bool) (w : World) (Q1 Q : World → Prop) (ha : a < 16384) (hl : l = a / 4) (hc : w.cell? ⟨c, l % 4, none⟩ = some (ptr sk))
    (HG : Hid (∀ q, Calls Tryd.prog 49 #[ptr sk, .int .i64 l] (w.drewN q) fun r w' => r = .returned (.tuple #[.agg #[], .bool hit]) ∧ Q1 w'))
    (HP : Hid (∀ w1 w2, Q1 w1 → Keeps (fun _ => False) w1 w2 → hit = false → Calls Tryd.prog 50 #[ptr sk, .int .i64 l, .agg #[]] w2 fun r w' => (∃ v b, r = .returned (.tuple #[.int .i64 v, .bool b])) ∧ Q w'))
    (HQ : Hid (∀ w1 w2, Q1 w1 → Keeps (fun _ => False) w1 w2 → hit = true → Q w2)) :
    Calls Tryd.prog 25 #[ptr c, .int .i64 a] w fun r w' => r = .returned (.tuple #[.int .i64 (if hit then 1 else 7), .int .i64 0]) ∧ Q w' := by
  have H1 : Hid (Calls _ _ _ _ _) := lineOf_in a ha w
  rw [← hl] at H1
  have H2 : Hid (∀ w, Calls _ _ _ _ _) := fun w => setOf_in l w
  obtain ⟨k, hk⟩ : ∃ k, k = l % 4 := ⟨_, rfl⟩
  have hk4 : (k : Int) < 4 := by omega
  have hk0 : (0 : Int) ≤ k := by omega
  rw [← hk] at hc
  rw [← hk] at H2
  clear ha hl hk
  go_enter Tryd.func25, Tryd.ntmps25
  go_wp2_with fail
  refine H1.out.mono ?_
  rintro r w1 ⟨rfl, rfl⟩
  clear H1
  go_wp2_with fail
  go_quiet ((go_at_call 48; exact (H2.out _).mono fun e w2 h2 => ⟨h2.1, _, h2.2⟩))
  go_wp2_with fail
  refine (HG.out _).mono ?_
  rintro r w3 ⟨rfl, hq⟩
  have HQ3 : Hid (Q1 w3) := hq
  clear hq HG hc H2
  cases hit with
  | true =>
    clear HP
    go_wp2
    go_ret2
    exact ⟨rfl, HQ.out _ _ HQ3.out ((Keeps.refl _ w3).alloc _) (by trivial)⟩
  | false =>
    have HP' : Hid (Calls _ _ _ _ _) := HP.out w3 _ HQ3.out ((Keeps.refl _ w3).alloc (.cells #[] 69)) rfl
    clear HP
    go_wp2_with fail
    refine HP'.out.mono ?_
    rintro r w4 ⟨⟨v, b, rfl⟩, hq4⟩
    have HQ4 : Hid (Q w4) := hq4
    clear hq4 HP'
    go_wp2
    go_ret2
    exact ⟨rfl, HQ4.out⟩

theorem now_trans {w w1 w2 : World} {s room : Nat} {ks : List Int} {F F1 : Nat → Prop} (hF : ∀ b, F1 b → F b ∨ w.heap.size ≤ b) (hK : Keeps F w w1) (h2 : Now w1 w2 s room ks F1) : Now w w2 s room ks F := by
  obtain ⟨⟨F2, g1, g2⟩, g3⟩ := h2
  refine ⟨⟨F2, g1, fun b hb => ?_⟩, hK.trans g3 fun b hb h => ?_⟩
  · rcases g2 b hb with h | h
    · exact hF b h
    · exact .inr (Nat.le_trans hK.size h)
  · rcases hF b h with h | h
    · exact h
    · omega

theorem touch_any (c a : Nat) (st : Nat → List Int) (F : Nat → Prop) (w : World) (h : Ca w c st F) (ha : a < 16384) :
    Calls Tryd.prog 25 #[ptr c, .int .i64 a] w fun r w' => r = .returned (.tuple #[.int .i64 (cost (a / 4) st), .int .i64 0]) ∧ NowC w w' c (step (a / 4) st) F := by
  obtain ⟨s, Fs, h1, h2, h3, h4⟩ := h
  obtain ⟨l, hl⟩ : ∃ l, l = a / 4 := ⟨_, rfl⟩
  rw [← hl]
  obtain ⟨k, hk⟩ : ∃ k, k = l % 4 := ⟨_, rfl⟩
  have hk4 : k < 4 := by omega
  have hi : I64 (l : Int) := i64_nat (by omega)
  have hc : w.cell? ⟨c, l % 4, none⟩ = some (ptr (s k)) := by
    refine h1.blk.cell ?_
    rw [← hk, slots_get s hk4, if_pos hk4]
  have hs := h1.sf k hk4
  have e : cost l st = if (decide ((l : Int) ∈ st k)) then 1 else 7 := by
    unfold cost; rw [← hk]; by_cases hm : (l : Int) ∈ st k <;> simp [hm]
  rw [e]
  refine (touch_walk c (s k) a l (decide ((l : Int) ∈ st k)) w (fun w' => Now w w' (s k) 2 (touch (l : Int) (st k)) (Fs k)) (fun w' => Now w w' (s k) 2 (putL 2 (l : Int) (st k)) (Fs k)) ha hl hc ?_ ?_ ?_).mono ?_
  · intro q
    refine (get_any (s k) 2 (st k) (Fs k) l (w.drewN q) (hs.kept ((Keeps.refl (fun _ => False) w).drewN q) fun _ _ h => h) hi).mono ?_
    rintro r w' ⟨rfl, hN⟩
    exact ⟨rfl, hN.1, hN.2.fromDrewN⟩
  · intro w1 w2 hN hK hf
    have hm : (l : Int) ∉ st k := by simpa using hf
    obtain ⟨⟨F', g1, g2⟩, g3⟩ := hN
    have e2 : touch (l : Int) (st k) = st k := by unfold touch; rw [if_neg hm]
    rw [e2] at g1
    refine (put_any (s k) 2 (st k) F' l w2 (g1.kept hK fun _ _ h => h) hi).mono ?_
    rintro r w' ⟨rfl, hN⟩
    refine ⟨⟨_, _, rfl⟩, now_trans (F1 := F') g2 g3 (now_trans (F1 := F') (fun b hb => .inl hb) (hK.mono fun _ _ h => h.elim) hN)⟩
  · intro w1 w2 hN hK hf
    have hm : (l : Int) ∈ st k := by simpa using hf
    obtain ⟨⟨F', g1, g2⟩, g3⟩ := hN
    have e2 : touch (l : Int) (st k) = putL 2 (l : Int) (st k) := by unfold touch putL; rw [if_pos hm, if_pos hm]
    rw [e2] at g1
    exact now_trans g2 g3 (now_keep g1 hK)
  · rintro r w' ⟨rfl, hN⟩
    refine ⟨rfl, ?_⟩
    obtain ⟨⟨F', g1, g2⟩, g3⟩ := nowC_set h1 h2 h3 h4 hk4 hN
    refine ⟨⟨F', g1.same fun i hi => ?_, g2⟩, g3⟩
    unfold step
    rw [← hk]
    by_cases e : i = k
    · subst e; simp
    · simp [e]

end Go.Proofs.YtipejahmjdamjaaDoor.Ch
