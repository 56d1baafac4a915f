import Derived.Test.YtajhkilclmicjaaDuo
namespace Go.Proofs.Ytajhkilclmicjaa
open Go.RowKit Go.Shelf
set_option linter.unusedVariables false

theorem cell_kept {S : Nat → Prop} {w w' : World} {a : Addr} {v : Value} (h : w.cell? a = some v) (hK : Keeps S w w') (hn : ¬ S a.block) : w'.cell? a = some v := by
  rw [World.cell?_of_block (w := w) (hK.block a.block (World.block_lt_of_cell? w a h) hn)]
  exact h

set_option maxHeartbeats 1000000 in
theorem holds_walk (c sk a l : Nat) (held : Bool) (w : World) (ha : a < 16384) (hl : l = a / 4) (hc : w.cell? ⟨c, l % 4, none⟩ = some (ptr sk))
    (HG : Hid (∀ w', Keeps (fun _ => False) w w' → Calls Try.prog 37 #[ptr sk, .int .i64 l] w' fun r w'' => r = .returned (.tuple #[.agg #[], .bool held]) ∧ Keeps (fun _ => False) w' w'')) :
    Calls Try.prog 18 #[ptr c, .int .i64 a] w fun r w' => r = .returned (.bool held) ∧ Keeps (fun _ => False) w w' := by
  have H1 : Hid (Calls _ _ _ _ _) := lineOf_in a ha w
  rw [← hl] at H1
  have H2 : Hid (∀ w, Calls _ _ _ _ _) := fun w => setOf_in l w
  obtain ⟨k, hk⟩ : ∃ k, k = l % 4 := ⟨_, rfl⟩
  have hk4 : (k : Int) < 4 := by omega
  have hk0 : (0 : Int) ≤ k := by omega
  rw [← hk] at hc
  rw [← hk] at H2
  have HCC : Hid (w.cell? ⟨c, k, none⟩ = some (ptr sk)) := hc
  clear ha hl hk
  go_enter Try.func18, Try.ntmps18
  go_wp2_with fail
  refine H1.out.mono ?_
  rintro r w1 ⟨rfl, rfl⟩
  clear H1
  go_wp2_with fail
  have HG2 : Hid (∀ w', Keeps (fun _ => False) w1 w' → Calls Try.prog 37 #[ptr sk, .int .i64 l] w' fun r w'' => r = .returned (.tuple #[.agg #[], .bool held]) ∧ Keeps (fun _ => False) w1 w'') := fun w' hK => by
    refine (HG.out w' hK).mono ?_
    rintro r w2 ⟨rfl, hK2⟩
    exact ⟨rfl, hK.trans hK2 fun _ _ h => h⟩
  clear HG
  go_region_held3 (fun w' => w'.cell? ⟨c, k, none⟩ = some (ptr sk)) (first | exact hc | exact hS | go_keep)
    (first
      | (go_at_call 34; refine (H2.out _).mono ?_; rintro r w2 ⟨rfl, rfl⟩)
      | (go_at_call 37; refine (HG2.out _ (by first | exact (Keeps.refl _ w1).drew | exact ((Keeps.refl _ w1).alloc _).drew | exact ((Keeps.refl _ w1).drew).alloc _)).mono ?_; rintro r w2 ⟨rfl, hK2⟩; have hS : w2.cell? ⟨c, k, none⟩ = some (ptr sk) := cell_kept (a := ⟨c, k, none⟩) (w := w1) HCC.out hK2 (fun h => h); have HK2 : Hid (Keeps (fun _ => False) w1 w2) := hK2; clear hK2))
  all_goals
    clear HG2 H2 hc HCC
    go_wp2
    go_ret
    first
      | exact ⟨rfl, HK2.out⟩
      | exact ⟨rfl, HK2.out.alloc _⟩

theorem holds_any (c a : Nat) (st : Nat → List Int) (F : Nat → Prop) (w : World) (h : Ca w c st F) (ha : a < 16384) :
    Calls Try.prog 18 #[ptr c, .int .i64 a] w fun r w' => r = .returned (.bool (decide (((a / 4 : Nat) : Int) ∈ st (a / 4 % 4)))) ∧ Keeps (fun _ => False) w w' := by
  obtain ⟨s, Fs, h1, h2, h3, h4⟩ := h
  obtain ⟨l, hl⟩ : ∃ l, l = a / 4 := ⟨_, rfl⟩
  rw [← hl]
  have hk4 : l % 4 < 4 := by omega
  have hc : w.cell? ⟨c, l % 4, none⟩ = some (ptr (s (l % 4))) := by
    refine h1.blk.cell ?_
    rw [slots_get s hk4, if_pos hk4]
  refine holds_walk c (s (l % 4)) a l _ w ha hl hc ?_
  intro w' hK
  refine (peek_any (s (l % 4)) 2 (st (l % 4)) (Fs (l % 4)) l w' ((h1.sf _ hk4).kept hK fun _ _ h => h) (i64_nat (by omega))).mono ?_
  rintro r w'' ⟨rfl, hK2⟩
  exact ⟨rfl, hK2⟩

/-- The lines are ones of their sets. -/
def Good (st : Nat → List Int) : Prop := ∀ i, i < 4 → ∀ z ∈ st i, 0 ≤ z ∧ z < 4096 ∧ z % 4 = (i : Int)
theorem good_none : Good (fun _ => []) := fun i hi z hz => by simp at hz
theorem mem_putL {k z : Int} {ks : List Int} (h : z ∈ putL 2 k ks) : z = k ∨ z ∈ ks := by
  unfold putL at h
  split at h
  · rcases List.mem_append.1 h with h | h
    · exact .inr (List.mem_of_mem_erase h)
    · exact .inl (by simpa using h)
  · split at h
    · rcases List.mem_append.1 h with h | h
      · exact .inr h
      · exact .inl (by simpa using h)
    · rcases List.mem_append.1 h with h | h
      · exact .inr (List.mem_of_mem_tail h)
      · exact .inl (by simpa using h)
theorem Good.step {st : Nat → List Int} (h : Good st) {l : Nat} (hl : l < 4096) : Good (step l st) := by
  intro i hi z hz
  by_cases e : i = l % 4
  · subst e
    rw [step_same] at hz
    rcases mem_putL hz with rfl | hz
    · omega
    · exact h _ hi z hz
  · rw [step_other e] at hz
    exact h i hi z hz

set_option maxHeartbeats 1000000 in
theorem touched_any (a0 : Option Addr) (ws : List Nat) (cap : Nat) (w : World) (hseg : SegU w a0 ws) (hlen : ws.length ≤ maxLen) (hws : ∀ x ∈ ws, x ≤ 65535) :
    Calls Try.prog 17 #[.slice a0 ws.length cap] w fun r w' => r = .returned (ptr w.heap.size) ∧ (∃ st F, Ca w' w.heap.size st F ∧ Good st ∧ ∀ b, F b → w.heap.size ≤ b) ∧ Keeps (fun _ => False) w w' := by
  obtain ⟨L, hL⟩ : ∃ L, L = ws.length := ⟨_, rfl⟩
  rw [← hL]
  have hL2 : (L : Int) ≤ 9223372036854775807 := by unfold maxLen at hlen; omega
  have HU : Hid (SegU w a0 ws ∧ L = ws.length ∧ ∀ x ∈ ws, x ≤ 65535) := ⟨hseg, hL, hws⟩
  have H0 : Hid (Calls _ _ _ _ _) := newC_any w
  obtain ⟨c, hc⟩ : ∃ c, c = w.heap.size := ⟨_, rfl⟩
  rw [← hc] at H0 ⊢
  have HC : Hid (c = w.heap.size) := hc
  clear hc hseg hlen hws hL
  go_enter Try.func17, Try.ntmps17
  go_wp2_with fail
  refine H0.out.mono ?_
  rintro r w1 ⟨rfl, ⟨F1, g1, g2⟩, g3⟩
  have HD : Hid (∃ st F, Ca w1 c st F ∧ Good st ∧ (∀ b, F b → w.heap.size ≤ b) ∧ Keeps (fun _ => False) w w1) := ⟨_, F1, g1, good_none, fun b hb => by have := g2 b hb; have := HC.out; omega, g3⟩
  clear H0 g1 g2 g3
  go_wp2
  go_loopw [8] (fun i wr => ∃ (j : Nat), j ≤ L ∧ i = .int .i64 j ∧ (∃ st F, Ca wr c st F ∧ Good st ∧ (∀ b, F b → w.heap.size ≤ b) ∧ Keeps (fun _ => False) w wr)) (fun i _ => L - (intOf i).toNat)
  case atStart => exact ⟨0, by omega, rfl, HD.out⟩
  case round =>
    obtain ⟨j, hj, rfl, st, F, hA, hG, hF, hK⟩ := hrel
    by_cases hlt : j < L
    · obtain ⟨hseg, hLw, hws⟩ := HU.out
      have hju : j < ws.length := by omega
      rcases hseg with h0 | ⟨b, o, rfl, hcell⟩
      · exact absurd hju (by rw [h0]; simp)
      · have cu : wr.cell? ⟨b, o + j, none⟩ = some (.int .u16 (ws[j]'hju : Nat)) := cell_kept (hcell j hju) hK fun h => h
        have hx := hws _ (List.getElem_mem hju)
        obtain ⟨x, hxx⟩ : ∃ x, x = ws[j]'hju := ⟨_, rfl⟩
        rw [← hxx] at cu hx
        have H1 : Hid (Calls _ _ _ _ _) := at_in x wr hx
        obtain ⟨a, ha⟩ : ∃ a, a = x % 16384 := ⟨_, rfl⟩
        have ha4 : a < 16384 := by omega
        rw [← ha] at H1
        have H2 : Hid (Calls _ _ _ _ _) := touch_any c a st F wr hA ha4
        have hltz : (j : Int) < L := by omega
        have HF : Hid (Good st ∧ (∀ b, F b → w.heap.size ≤ b) ∧ Keeps (fun _ => False) w wr ∧ a < 16384 ∧ j < L) := ⟨hG, hF, hK, ha4, hlt⟩
        obtain ⟨n, hn⟩ : ∃ n, n = cost (a / 4) st := ⟨_, rfl⟩
        rw [← hn] at H2
        clear hcell hju hxx hx ha ha4 hws hLw hA hG hF hK hlt hj hn HU HD
        go_wp2_with fail
        refine H1.out.mono ?_
        rintro r w3 ⟨rfl, rfl⟩
        clear H1
        go_wp2_with fail
        refine H2.out.mono ?_
        rintro r w4 ⟨rfl, hN⟩
        have HD4 : Hid (∃ st F, Ca w4 c st F ∧ Good st ∧ (∀ b, F b → w.heap.size ≤ b) ∧ Keeps (fun _ => False) w w4) := by
          obtain ⟨r1, r2, r3, r4, r5⟩ := HF.out
          obtain ⟨F', g1, g2, g3⟩ := hN.step r3 r2
          exact ⟨_, F', g1, r1.step (by omega), g2, g3⟩
        clear H2 hN cu
        go_wp2
        go_roundw
        case rel => exact ⟨j + 1, by have := HF.out.2.2.2.2; omega, by simp, HD4.out⟩
        case measure => have := HF.out.2.2.2.2; simp [intOf]; omega
    · obtain rfl : j = L := by omega
      have HK : Hid ((∃ st F, Ca wr c st F ∧ Good st ∧ ∀ b, F b → c ≤ b) ∧ Keeps (fun _ => False) w wr) := ⟨⟨st, F, hA, hG, fun b hb => by have := hF b hb; have := HC.out; omega⟩, hK⟩
      clear hA hG hF hK hj hlt HU HD HC
      go_wp2
      go_ret
      exact ⟨rfl, HK.out⟩

end Go.Proofs.Ytajhkilclmicjaa
