import Derived.Test.YtipejahmjdamjaaGreatDoorChCa
import Derived.Deep.RegionHeld3
namespace Go.Proofs.YtipejahmjdamjaaGreatDoor.Ch
open Go.RowKit Go.Shelf
set_option linter.unusedVariables false

/-- What the sets hold behind a touch of a line. -/
def step (l : Nat) (st : Nat → List Int) : Nat → List Int := fun i => if i = l % 4 then putL 2 (l : Int) (st i) else st i
def cost (l : Nat) (st : Nat → List Int) : Int := if (l : Int) ∈ st (l % 4) then 1 else 7

theorem i64_nat {l : Nat} (h : l < 16384) : I64 (l : Int) := ⟨by omega, by omega⟩

set_option maxHeartbeats 1000000 in
theorem touch_walk (c sk a l : Nat) (hit : Bool) (w : World) (Q1 Q : World → Prop) (ha : a < 16384) (hl : l = a / 4) (hc : w.cell? ⟨c, l % 4, none⟩ = some (ptr sk))
    (HG : Hid (∀ q, Calls Tryz.prog 177 #[ptr sk, .int .i64 l] (w.drewN q) fun r w' => r = .returned (.tuple #[.agg #[], .bool hit]) ∧ Q1 w'))
    (HP : Hid (∀ w1 w2, Q1 w1 → Keeps (fun _ => False) w1 w2 → hit = false → Calls Tryz.prog 85 #[ptr sk, .int .i64 l, .agg #[]] w2 fun r w' => (∃ v b, r = .returned (.tuple #[.int .i64 v, .bool b])) ∧ Q w'))
    (HQ : Hid (∀ w1 w2, Q1 w1 → Keeps (fun _ => False) w1 w2 → hit = true → Q w2)) :
    Calls Tryz.prog 127 #[ptr c, .int .i64 a] w fun r w' => r = .returned (.tuple #[.int .i64 (if hit then 1 else 7), .int .i64 0]) ∧ Q w' := by
  have H1 : Hid (Calls _ _ _ _ _) := lineOf_in a ha w
  rw [← hl] at H1
  have H2 : Hid (∀ w, Calls _ _ _ _ _) := fun w => setOf_in l w
  obtain ⟨k, hk⟩ : ∃ k, k = l % 4 := ⟨_, rfl⟩
  have hk4 : (k : Int) < 4 := by omega
  have hk0 : (0 : Int) ≤ k := by omega
  rw [← hk] at hc
  rw [← hk] at H2
  clear ha hl hk
  go_enter Tryz.func127, Tryz.ntmps127
  go_wp2_with fail
  refine H1.out.mono ?_
  rintro r w1 ⟨rfl, rfl⟩
  clear H1
  go_wp2_with fail
  go_quiet ((go_at_call 163; exact (H2.out _).mono fun e w2 h2 => ⟨h2.1, _, h2.2⟩))
  go_wp2_with fail
  refine (HG.out _).mono ?_
  rintro r w3 ⟨rfl, hq⟩
  have HQ3 : Hid (Q1 w3) := hq
  clear hq HG hc H2
  cases hit with
  | true =>
    clear HP
    go_wp2
    go_ret2
    exact ⟨rfl, HQ.out _ _ HQ3.out ((Keeps.refl _ w3).alloc _) (by trivial)⟩
  | false =>
    have HP' : Hid (Calls _ _ _ _ _) := HP.out w3 _ HQ3.out ((Keeps.refl _ w3).alloc (.cells #[] 133)) rfl
    clear HP
    go_wp2_with fail
    refine HP'.out.mono ?_
    rintro r w4 ⟨⟨v, b, rfl⟩, hq4⟩
    have HQ4 : Hid (Q w4) := hq4
    clear hq4 HP'
    go_wp2
    go_ret2
    exact ⟨rfl, HQ4.out⟩

theorem now_trans {w w1 w2 : World} {s room : Nat} {ks : List Int} {F F1 : Nat → Prop} (hF : ∀ b, F1 b → F b ∨ w.heap.size ≤ b) (hK : Keeps F w w1) (h2 : Now w1 w2 s room ks F1) : Now w w2 s room ks F := by
  obtain ⟨⟨F2, g1, g2⟩, g3⟩ := h2
  refine ⟨⟨F2, g1, fun b hb => ?_⟩, hK.trans g3 fun b hb h => ?_⟩
  · rcases g2 b hb with h | h
    · exact hF b h
    · exact .inr (Nat.le_trans hK.size h)
  · rcases hF b h with h | h
    · exact h
    · omega

theorem touch_any (c a : Nat) (st : Nat → List Int) (F : Nat → Prop) (w : World) (h : Ca w c st F) (ha : a < 16384) :
    Calls Tryz.prog 127 #[ptr c, .int .i64 a] w fun r w' => r = .returned (.tuple #[.int .i64 (cost (a / 4) st), .int .i64 0]) ∧ NowC w w' c (step (a / 4) st) F := by
  obtain ⟨s, Fs, h1, h2, h3, h4⟩ := h
  obtain ⟨l, hl⟩ : ∃ l, l = a / 4 := ⟨_, rfl⟩
  rw [← hl]
  obtain ⟨k, hk⟩ : ∃ k, k = l % 4 := ⟨_, rfl⟩
  have hk4 : k < 4 := by omega
  have hi : I64 (l : Int) := i64_nat (by omega)
  have hc : w.cell? ⟨c, l % 4, none⟩ = some (ptr (s k)) := by
    refine h1.blk.cell ?_
    rw [← hk, slots_get s hk4, if_pos hk4]
  have hs := h1.sf k hk4
  have e : cost l st = if (decide ((l : Int) ∈ st k)) then 1 else 7 := by
    unfold cost; rw [← hk]; by_cases hm : (l : Int) ∈ st k <;> simp [hm]
  rw [e]
  refine (touch_walk c (s k) a l (decide ((l : Int) ∈ st k)) w (fun w' => Now w w' (s k) 2 (touch (l : Int) (st k)) (Fs k)) (fun w' => Now w w' (s k) 2 (putL 2 (l : Int) (st k)) (Fs k)) ha hl hc ?_ ?_ ?_).mono ?_
  · intro q
    refine (get_any (s k) 2 (st k) (Fs k) l (w.drewN q) (hs.kept ((Keeps.refl (fun _ => False) w).drewN q) fun _ _ h => h) hi).mono ?_
    rintro r w' ⟨rfl, hN⟩
    exact ⟨rfl, hN.1, hN.2.fromDrewN⟩
  · intro w1 w2 hN hK hf
    have hm : (l : Int) ∉ st k := by simpa using hf
    obtain ⟨⟨F', g1, g2⟩, g3⟩ := hN
    have e2 : touch (l : Int) (st k) = st k := by unfold touch; rw [if_neg hm]
    rw [e2] at g1
    refine (put_any (s k) 2 (st k) F' l w2 (g1.kept hK fun _ _ h => h) hi).mono ?_
    rintro r w' ⟨rfl, hN⟩
    refine ⟨⟨_, _, rfl⟩, now_trans (F1 := F') g2 g3 (now_trans (F1 := F') (fun b hb => .inl hb) (hK.mono fun _ _ h => h.elim) hN)⟩
  · intro w1 w2 hN hK hf
    have hm : (l : Int) ∈ st k := by simpa using hf
    obtain ⟨⟨F', g1, g2⟩, g3⟩ := hN
    have e2 : touch (l : Int) (st k) = putL 2 (l : Int) (st k) := by unfold touch putL; rw [if_pos hm, if_pos hm]
    rw [e2] at g1
    exact now_trans g2 g3 (now_keep g1 hK)
  · rintro r w' ⟨rfl, hN⟩
    refine ⟨rfl, ?_⟩
    obtain ⟨⟨F', g1, g2⟩, g3⟩ := nowC_set h1 h2 h3 h4 hk4 hN
    refine ⟨⟨F', g1.same fun i hi => ?_, g2⟩, g3⟩
    unfold step
    rw [← hk]
    by_cases e : i = k
    · subst e; simp
    · simp [e]

end Go.Proofs.YtipejahmjdamjaaGreatDoor.Ch
namespace Go.Proofs.YtipejahmjdamjaaGreatDoor.Ch
open Go.RowKit Go.Shelf
set_option linter.unusedVariables false

def intOf : Value → Int | .int _ n => n | _ => 0

theorem ca0_blank (w : World) : Ca0 (w.alloc (.cells #[.pointer none, .pointer none, .pointer none, .pointer none] 130)) w.heap.size 0 (fun _ => 0) (fun _ => []) (fun _ _ => False) :=
  ⟨Blk.new w _ 130, fun i hi => by omega, fun i hi => by omega, fun i hi => by omega⟩

/-- One set more. -/
theorem ca0_more {w w1 w2 : World} {c n s1 : Nat} {s : Nat → Nat} {Fs : Nat → Nat → Prop} {F1 : Nat → Prop} (h : Ca0 w c n s (fun _ => []) Fs) (hn : n < 4) (hK : Keeps (fun _ => False) w w1) (hS : Sf w1 s1 2 [] F1)
    (hF : ∀ b, F1 b → w.heap.size ≤ b) (hK2 : Keeps (· = c) w1 w2) (hB : Blk w1 c (slots n s) 130 → Blk w2 c ((slots n s).set n (ptr s1)) 130) :
    Ca0 w2 c (n + 1) (fun i => if i = n then s1 else s i) (fun _ => []) (fun i b => if i = n then F1 b else Fs i b) := by
  have hcw := h.blk.lt
  have lt : ∀ i, i < n → ∀ b, Fs i b → b < w.heap.size := fun i hi b hb => (h.sf i hi).lt b hb
  have h1 := h.kept hK (fun h => h) fun i hi b hb h => h
  refine ⟨?_, ?_, ?_, ?_⟩
  · have := hB h1.blk
    rw [← slots_set s (fun i => if i = n then s1 else s i) hn fun i hi => if_neg (by omega)]
    simpa using this
  · intro i hi
    by_cases e : i = n
    · simp only [if_pos e]
      refine hS.kept hK2 fun b hb he => ?_
      have := hF b hb; omega
    · simp only [if_neg e]
      refine (h1.sf i (by omega)).kept hK2 fun b hb he => ?_
      exact h.out i (by omega) (he ▸ hb)
  · intro i hi j hj hij b hb hb2
    by_cases e : i = n
    · have e2 : j ≠ n := by omega
      simp only [if_pos e] at hb
      simp only [if_neg e2] at hb2
      have := hF b hb; have := lt j (by omega) b hb2; omega
    · simp only [if_neg e] at hb
      by_cases e2 : j = n
      · simp only [if_pos e2] at hb2
        have := hF b hb2; have := lt i (by omega) b hb; omega
      · simp only [if_neg e2] at hb2
        exact h.apart i (by omega) j (by omega) hij b hb hb2
  · intro i hi hb
    by_cases e : i = n
    · simp only [if_pos e] at hb
      have := hF c hb; omega
    · simp only [if_neg e] at hb
      exact h.out i (by omega) hb

set_option maxHeartbeats 1000000 in
theorem newC_any (w : World) : Calls Tryz.prog 40 #[] w fun r w' => r = .returned (ptr w.heap.size) ∧ (∃ F, Ca w' w.heap.size (fun _ => []) F ∧ ∀ b, F b → w.heap.size ≤ b) ∧ Keeps (fun _ => False) w w' := by
  obtain ⟨W, hW⟩ : ∃ W, W = w.alloc (.cells #[.pointer none, .pointer none, .pointer none, .pointer none] 130) := ⟨_, rfl⟩
  obtain ⟨c, hc⟩ : ∃ c, c = w.heap.size := ⟨_, rfl⟩
  have h0 : Ca0 W c 0 (fun _ => 0) (fun _ => []) (fun _ _ => False) := by rw [hW, hc]; exact ca0_blank w
  have hK0 : Keeps (fun _ => False) w W := by rw [hW]; exact (Keeps.refl _ w).alloc _
  have HH : Hid (W = w.alloc (.cells #[.pointer none, .pointer none, .pointer none, .pointer none] 130) ∧ c = w.heap.size ∧ Ca0 W c 0 (fun _ => 0) (fun _ => []) (fun _ _ => False) ∧ Keeps (fun _ => False) w W) := ⟨hW, hc, h0, hK0⟩
  clear hW h0 hK0
  have HC : Hid (∀ w, Calls _ _ _ _ _) := fun w => new_any 2 w (by omega) (by omega)
  rw [← hc]
  go_enter Tryz.func40, Tryz.ntmps40
  go_wp2
  rw [← HH.out.1, ← hc]
  clear hc
  go_loopw [5] (fun i wr => ∃ (j : Nat) (s : Nat → Nat) (Fs : Nat → Nat → Prop), j ≤ 4 ∧ i = .int .i64 j ∧ Ca0 wr c j s (fun _ => []) Fs ∧ (∀ i, i < j → ∀ b, Fs i b → c ≤ b) ∧ Keeps (fun _ => False) w wr) (fun i _ => 4 - (intOf i).toNat)
  case atStart => exact ⟨0, _, _, by omega, rfl, HH.out.2.2.1, fun i hi => by omega, HH.out.2.2.2⟩
  case round =>
    obtain ⟨j, s, Fs, hj, rfl, hC, hF, hK⟩ := hrel
    by_cases hlt : j < 4
    · have hj4 : (j : Int) < 4 := by omega
      have HR : Hid (Ca0 wr c j s (fun _ => []) Fs ∧ (∀ i, i < j → ∀ b, Fs i b → c ≤ b) ∧ Keeps (fun _ => False) w wr ∧ j < 4 ∧ c = w.heap.size) := ⟨hC, hF, hK, hlt, HH.out.2.1⟩
      have hS : wr.cell? ⟨c, j, none⟩ = some (.pointer none) ∧ wr.frozen? ⟨c, j, none⟩ = false := ⟨hC.blk.cell (by rw [slots_get s hlt, if_neg (by omega)]), hC.blk.frozen j⟩
      clear hC hF hK hlt HH hj
      go_wp2_with fail
      go_region_held3 (fun _ => True) (trivial)
        ((go_at_call 69; refine (HC.out _).mono ?_; rintro e w2 ⟨rfl, ⟨F1, hS1, hF1⟩, hK1⟩; have hb2 := (HR.out.1.blk.drew).kept hK1 (fun h => h); have hc2 : w2.cell? ⟨c, j, none⟩ = some (.pointer none) := hb2.cell (by rw [slots_get s HR.out.2.2.2.1, if_neg (by omega)]); have hf2 := hb2.frozen j))
      have HF : Hid (∃ s' Fs', Ca0 (w2.setCell ⟨c, j, none⟩ (ptr (wr.heap.size + 1))) c (j + 1) s' (fun _ => []) Fs' ∧ (∀ i, i < j + 1 → ∀ b, Fs' i b → c ≤ b) ∧ Keeps (fun _ => False) w (w2.setCell ⟨c, j, none⟩ (ptr (wr.heap.size + 1)))) := by
        obtain ⟨r1, r2, r3, r4, r5⟩ := HR.out
        have hK1' : Keeps (fun _ => False) wr w2 := ((Keeps.refl _ wr).drew).trans hK1 fun _ _ h => h
        refine ⟨_, _, ca0_more r1 r4 hK1' hS1 hF1 ((Keeps.refl _ w2).setCell _ _ fun _ => rfl) (fun h => h.setCell j _), ?_, (r3.trans hK1' fun _ _ h => h).setCell _ _ fun h => by simp at h; omega⟩
        intro i hi b hb
        by_cases e : i = j
        · simp only [if_pos e] at hb
          have h1 : wr.heap.size ≤ b := hF1 b hb
          have := r3.size
          omega
        · simp only [if_neg e] at hb
          exact r2 i (by omega) b hb
      clear hS hb2 hS1 hF1 hK1
      go_wp2
      go_roundw
      case rel =>
        obtain ⟨s', Fs', g1, g2, g3⟩ := HF.out
        exact ⟨j + 1, s', Fs', by have := HR.out.2.2.2.1; omega, by simp, g1, g2, g3⟩
      case measure => have := HR.out.2.2.2.1; simp [intOf]; omega
    · obtain rfl : j = 4 := by omega
      have HR : Hid ((∃ F, Ca wr c (fun _ => []) F ∧ ∀ b, F b → c ≤ b) ∧ Keeps (fun _ => False) w wr) := by
        refine ⟨⟨fun b => (b = c ∨ ∃ i, i < 4 ∧ Fs i b), ⟨s, Fs, hC, .inl rfl, fun i hi b hb => .inr ⟨i, hi, hb⟩, ?_⟩, ?_⟩, hK⟩
        · rintro b (rfl | ⟨i, hi, hb⟩)
          · exact hC.blk.lt
          · exact (hC.sf i hi).lt b hb
        · rintro b (rfl | ⟨i, hi, hb⟩)
          · omega
          · exact hF i hi b hb
      clear hC hF hK hlt hj HH
      go_wp2
      go_ret
      exact ⟨rfl, HR.out⟩

end Go.Proofs.YtipejahmjdamjaaGreatDoor.Ch
namespace Go.Proofs.YtipejahmjdamjaaGreatDoor.Ch
open Go.RowKit Go.Shelf
set_option linter.unusedVariables false
set_option maxRecDepth 6000

theorem cell_kept {S : Nat → Prop} {w w' : World} {a : Addr} {v : Value} (h : w.cell? a = some v) (hK : Keeps S w w') (hn : ¬ S a.block) : w'.cell? a = some v := by
  rw [World.cell?_of_block (w := w) (hK.block a.block (World.block_lt_of_cell? w a h) hn)]
  exact h

theorem Tryz.info3 : (Tryz.prog.info? 3).map (fun i => (i.zero, i.size, i.bytes)) = some (some (.int .i64 0), 1, 8) := by kernel_rfl
theorem append_int {w : World} (x : Int) (v : Value) (n : Nat) (vs : List Value) (hown : w.ownsRow 0 3 1 v n vs) (hn : n ≤ 4294967296) :
    ∃ v' W', (∀ ty, (Builtin.append_ #[99, 99] ty #[v, .slice (some ⟨w.heap.size, 0, none⟩) 1 1]).run Tryz.prog (w.alloc (.cells #[.int .i64 x] 3)) = .ok v' W') ∧ W'.ownsRow 0 3 1 v' (n + 1) (vs ++ [.int .i64 x]) ∧ Grew w v W' v' := by
  obtain ⟨i0, hi, hz0, hz1, hz2⟩ := info_parts Tryz.info3
  obtain ⟨v', W', h1, h2, h3, h4⟩ := append_new 99 3 i0 (.int .i64 0) 1 8 Tryz.underlying99 hi hz0 hz1 hz2 rfl (by omega) v n vs hown #[.int .i64 x] rfl (by
    intro y hy
    simp at hy
    rw [hy]; rfl) (by unfold maxLen; omega) (by omega)
  exact ⟨v', W', h1, h2, h3, h4⟩

def four (vs : Nat → Value) : List Value := [vs 0, vs 1, vs 2, vs 3]
theorem four_get (vs : Nat → Value) {i : Nat} (h : i < 4) : (four vs)[i]? = some (vs i) := by
  have : i = 0 ∨ i = 1 ∨ i = 2 ∨ i = 3 := by omega
  rcases this with rfl | rfl | rfl | rfl <;> rfl
theorem four_set (vs : Nat → Value) {k : Nat} (h : k < 4) (v : Value) : (four vs).set k v = four (fun i => if i = k then v else vs i) := by
  have : k = 0 ∨ k = 1 ∨ k = 2 ∨ k = 3 := by omega
  rcases this with rfl | rfl | rfl | rfl <;> rfl

/-- Four lists of numbers in rows of their own; G holds the rows; all the rows' blocks are among D. -/
structure Four (W : World) (G : Nat) (vs : Nat → Value) (cur : Nat → List Int) (D : Nat → Prop) : Prop where
  blk : Blk W G (four vs) 99
  row : ∀ i, i < 4 → W.ownsRow 0 3 1 (vs i) (cur i).length (flat (cur i))
  own : ∀ i, i < 4 → ∀ g, (vs i).ownBlock = some g → g ≠ G ∧ D g ∧ g < W.heap.size
  apart : ∀ i, i < 4 → ∀ j, j < 4 → i ≠ j → ∀ g, (vs i).ownBlock = some g → (vs j).ownBlock ≠ some g

theorem owns_lt {w : World} {e : TypeId} {size n g : Nat} {v : Value} {vs : List Value} (h : w.ownsRow 0 e size v n vs) (hg : v.ownBlock = some g) : g < w.heap.size := by
  rcases h.2 with ⟨rfl, _⟩ | ⟨g', cap, cur, rfl, _, hgg, _⟩
  · simp [Value.ownBlock] at hg
  · simp [Value.ownBlock] at hg
    subst hg
    exact (Array.getElem?_eq_some_iff.1 hgg).1

section
variable {W W' : World} {G : Nat} {vs : Nat → Value} {cur : Nat → List Int} {D D' : Nat → Prop}
theorem Four.kept {S : Nat → Prop} (h : Four W G vs cur D) (hK : Keeps S W W') (hG : ¬ S G) (hD : ∀ b, D b → ¬ S b) : Four W' G vs cur D :=
  ⟨h.blk.kept hK hG, fun i hi => owns_kept (h.row i hi) hK fun g hg => hD g (h.own i hi g hg).2.1, fun i hi g hg => ⟨(h.own i hi g hg).1, (h.own i hi g hg).2.1, Nat.lt_of_lt_of_le (h.own i hi g hg).2.2 hK.size⟩, h.apart⟩
theorem Four.same {cur' : Nat → List Int} (h : Four W G vs cur D) (e : ∀ i, i < 4 → cur' i = cur i) : Four W G vs cur' D :=
  ⟨h.blk, fun i hi => by rw [e i hi]; exact h.row i hi, h.own, h.apart⟩
theorem Four.mono (h : Four W G vs cur D) (hD : ∀ b, D b → b < W.heap.size → D' b) : Four W G vs cur D' :=
  ⟨h.blk, h.row, fun i hi g hg => ⟨(h.own i hi g hg).1, hD g (h.own i hi g hg).2.1 (h.own i hi g hg).2.2, (h.own i hi g hg).2.2⟩, h.apart⟩
/-- One list is longer by one. -/
theorem Four.more (h : Four W G vs cur D) {k : Nat} (hk : k < 4) {x : Int} {v' : Value} (ho : W'.ownsRow 0 3 1 v' ((cur k).length + 1) (flat (cur k) ++ [.int .i64 x])) (hG : Grew W (vs k) W' v') (hD : ∀ b, D b → D' b) (hnew : ∀ b, W.heap.size ≤ b → D' b) :
    Four (W'.setCell ⟨G, k, none⟩ v') G (fun i => if i = k then v' else vs i) (fun i => if i = k then cur i ++ [x] else cur i) D' := by
  have hlt := h.blk.lt
  have hGk : ∀ b, some b = (vs k).ownBlock → b ≠ G := fun b hb => (h.own k hk b hb.symm).1
  have hbW : Blk W' G (four vs) 99 := h.blk.kept hG.keeps fun he => hGk G he rfl
  have hKs : Keeps (· = G) W' (W'.setCell ⟨G, k, none⟩ v') := (Keeps.refl _ W').setCell _ _ fun _ => rfl
  have hv'G : ∀ g, v'.ownBlock = some g → g ≠ G ∧ D' g ∧ g < W'.heap.size ∧ ((vs k).ownBlock = some g ∨ W.heap.size ≤ g) := by
    intro g hg
    have h2 := owns_lt ho hg
    rcases hG.fresh with e | ⟨b, e, hb⟩
    · rw [e] at hg
      exact ⟨(h.own k hk g hg).1, hD _ (h.own k hk g hg).2.1, h2, .inl hg⟩
    · rw [e] at hg
      cases hg
      exact ⟨by omega, hnew _ hb, h2, .inr hb⟩
  have hsz : (W'.setCell ⟨G, k, none⟩ v').heap.size = W'.heap.size := by simp
  refine ⟨?_, ?_, ?_, ?_⟩
  · have := hbW.setCell k v'
    rw [four_set vs hk v'] at this
    exact this
  · intro i hi
    by_cases e : i = k
    · subst e
      simp only [if_pos]
      rw [List.length_append, flat_append]
      exact owns_kept ho hKs fun g hg he => (hv'G g hg).1 he
    · simp only [if_neg e]
      refine owns_kept (owns_kept (h.row i hi) hG.keeps fun g hg he => ?_) hKs fun g hg he => (h.own i hi g hg).1 he
      exact h.apart i hi k hk e g hg he.symm
  · intro i hi g hg
    by_cases e : i = k
    · simp only [if_pos e] at hg
      obtain ⟨a1, a2, a3, _⟩ := hv'G g hg
      exact ⟨a1, a2, by rw [hsz]; exact a3⟩
    · simp only [if_neg e] at hg
      obtain ⟨a1, a2, a3⟩ := h.own i hi g hg
      exact ⟨a1, hD _ a2, by rw [hsz]; exact Nat.lt_of_lt_of_le a3 hG.keeps.size⟩
  · intro i hi j hj hij g hg hg2
    by_cases e : i = k
    · have e2 : j ≠ k := fun e2 => hij (e.trans e2.symm)
      simp only [if_pos e] at hg
      simp only [if_neg e2] at hg2
      rcases (hv'G g hg).2.2.2 with h' | h'
      · exact h.apart k hk j hj (fun e3 => e2 e3.symm) g h' hg2
      · have := (h.own j hj g hg2).2.2; omega
    · simp only [if_neg e] at hg
      by_cases e2 : j = k
      · simp only [if_pos e2] at hg2
        rcases (hv'G g hg2).2.2.2 with h' | h'
        · exact h.apart i hi k hk e g hg h'
        · have := (h.own i hi g hg).2.2; omega
      · simp only [if_neg e2] at hg2
        exact h.apart i hi j hj hij g hg hg2
end

end Go.Proofs.YtipejahmjdamjaaGreatDoor.Ch
