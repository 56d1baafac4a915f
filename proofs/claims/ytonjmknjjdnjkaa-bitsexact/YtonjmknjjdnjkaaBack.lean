import Derived.Test.YtonjmknjjdnjkaaAppend
namespace Go.Proofs.Ytonjmknjjdnjkaa
open Go.RowKit
set_option linter.unusedVariables false

/-- These items can be read at this address. -/
def ItemsAt (w : World) (a : Option Addr) (its : List (Int × Nat × ByteArray)) : Prop :=
  its = [] ∨ ∃ g o, a = some ⟨g, o, none⟩ ∧ ∀ j, (h : j < its.length) → w.cell? ⟨g, o + j * 3, none⟩ = some (.int .i64 its[j].1) ∧ w.cell? ⟨g, o + j * 3 + 1, none⟩ = some (.int .u64 (its[j].2.1 : Int)) ∧ w.cell? ⟨g, o + j * 3 + 2, none⟩ = some (.string its[j].2.2)
def Fine (it : Int × Nat × ByteArray) : Prop := -9223372036854775808 ≤ it.1 ∧ it.1 ≤ 9223372036854775807 ∧ it.2.1 < 18446744073709551616 ∧ it.2.2.size ≤ 140737488355328

theorem ItemsAt.kept {w w' : World} {a : Option Addr} {its : List (Int × Nat × ByteArray)} (h : ItemsAt w a its) (hK : Keeps (fun _ => False) w w') : ItemsAt w' a its := by
  rcases h with h | ⟨g, o, ha, hc⟩
  · exact .inl h
  · refine .inr ⟨g, o, ha, fun j hj => ?_⟩
    have h1 := hc j hj
    have hlt : g < w.heap.size := World.block_lt_of_cell? w ⟨g, o + j * 3, none⟩ h1.1
    have hb := hK.block g hlt (fun e => e)
    exact ⟨(World.cell?_of_block (w := w) (w' := w') hb).trans h1.1, (World.cell?_of_block (w := w) (w' := w') hb).trans h1.2.1, (World.cell?_of_block (w := w) (w' := w') hb).trans h1.2.2⟩

def sumL : List (Int × Nat × ByteArray) → Nat
  | [] => 0
  | it :: r => it.2.2.size + 8 + sumL r
theorem sumL_append (a b : List (Int × Nat × ByteArray)) : sumL (a ++ b) = sumL a + sumL b := by
  induction a with
  | nil => simp [sumL]
  | cons x r ih => simp only [List.cons_append, sumL, ih]; omega
theorem sumL_take (its : List (Int × Nat × ByteArray)) (j : Nat) (h : j < its.length) : sumL (its.take (j + 1)) = sumL (its.take j) + (its[j].2.2.size + 8) := by
  rw [List.take_succ_eq_append_getElem h, sumL_append]
  simp [sumL]
theorem sumL_ge (its : List (Int × Nat × ByteArray)) : 8 * its.length ≤ sumL its := by
  induction its with
  | nil => simp
  | cons x r ih => simp only [sumL, List.length_cons]; omega
theorem sumL_mem (its : List (Int × Nat × ByteArray)) (it : Int × Nat × ByteArray) (h : it ∈ its) : it.2.2.size ≤ sumL its := by
  induction its with
  | nil => cases h
  | cons x r ih =>
    simp only [sumL]
    rcases List.mem_cons.1 h with h | h
    · rw [h]; omega
    · have := ih h; omega

set_option maxHeartbeats 400000 in
theorem much_any (a : Option Addr) (c : Nat) (its : List (Int × Nat × ByteArray)) (w : World) (hx : ItemsAt w a its) (hf : ∀ it ∈ its, Fine it) (hl : its.length ≤ maxLen) :
    Calls Try.prog 21 #[.slice a its.length c] w fun e w' => (e = .returned (.bool true) ∨ (e = .returned (.bool false) ∧ sumL its ≤ 2147483647)) ∧ w' = w := by
  unfold maxLen at hl
  obtain ⟨n, hn⟩ : ∃ n, n = its.length := ⟨_, rfl⟩
  have HN : Hid (n = its.length) := hn
  have HX : Hid (ItemsAt w a its) := hx
  have HF : Hid (∀ it ∈ its, Fine it) := hf
  rw [← hn] at hl ⊢
  clear hn hx hf
  go_enter Try.func21, Try.ntmps21
  go_wp2
  go_loop [3, 4] (fun s i => ∃ j : Nat, j ≤ n ∧ i = .int .i64 j ∧ s = .int .i64 (sumL (its.take j)) ∧ sumL (its.take j) ≤ 2147483647) (fun _ i => n - (intOf i).toNat)
  case atStart => exact ⟨0, by omega, rfl, rfl, by simp [sumL]⟩
  case round =>
    obtain ⟨j, hj, rfl, rfl, hsm⟩ := hrel
    by_cases hlt : j < n
    · have hjx : j < its.length := by have := HN.out; omega
      rcases HX.out with s1 | ⟨g, o, rfl, k1⟩
      · rw [s1] at hjx; simp at hjx
      · have e1 := (k1 j hjx).2.2
        have hfi := (HF.out its[j] (List.getElem_mem _)).2.2.2
        have HS : Hid (sumL (its.take (j + 1)) = sumL (its.take j) + (its[j].2.2.size + 8)) := sumL_take its j hjx
        obtain ⟨T, hT⟩ : ∃ T, T = sumL (its.take j) := ⟨_, rfl⟩
        obtain ⟨s, hs⟩ : ∃ s, s = its[j].2.2 := ⟨_, rfl⟩
        rw [← hs] at e1 hfi HS
        rw [← hT] at hsm HS
        rw [← hT]
        clear k1 hT hs
        by_cases hbig : (2147483647 : Int) < (T : Int) + (s.size : Int) + 8
        · go_wp2
          go_ret
          exact ⟨.inl rfl, rfl⟩
        · go_wp2
          go_round
          case rel => exact ⟨j + 1, by omega, by go_num, by rw [HS.out]; go_num, by rw [HS.out]; omega⟩
          case measure => simp [intOf]; omega
    · obtain rfl : j = n := by omega
      go_wp2
      go_ret
      refine ⟨.inr ⟨rfl, ?_⟩, rfl⟩
      rw [List.take_of_length_le (by have := HN.out; omega)] at hsm
      exact hsm
def encL (its : List (Int × Nat × ByteArray)) : List UInt8 := its.flatMap fun it => encI it.1 it.2.1 it.2.2
def endN (its : List (Int × Nat × ByteArray)) (j : Nat) : Nat := (encL (its.take j)).length
def endV (its : List (Int × Nat × ByteArray)) (j : Nat) : List Value := (List.range j).map fun i => .int .i64 (endN its (i + 1))

theorem encL_take (its : List (Int × Nat × ByteArray)) (j : Nat) (h : j < its.length) : encL (its.take (j + 1)) = encL (its.take j) ++ encI its[j].1 its[j].2.1 its[j].2.2 := by
  unfold encL
  rw [List.take_succ_eq_append_getElem h, List.flatMap_append]
  simp only [List.flatMap_cons, List.flatMap_nil, List.append_nil]
theorem endV_succ (its : List (Int × Nat × ByteArray)) (j : Nat) : endV its (j + 1) = endV its j ++ [.int .i64 (endN its (j + 1))] := by simp [endV, List.range_succ]
theorem endV_length (its : List (Int × Nat × ByteArray)) (j : Nat) : (endV its j).length = j := by simp [endV]
theorem endN_succ (its : List (Int × Nat × ByteArray)) (j : Nat) (h : j < its.length) : endN its (j + 1) = endN its j + (encI its[j].1 its[j].2.1 its[j].2.2).length := by
  unfold endN; rw [encL_take its j h, List.length_append]
theorem endN_zero (its : List (Int × Nat × ByteArray)) : endN its 0 = 0 := rfl
theorem endN_all (its : List (Int × Nat × ByteArray)) : endN its its.length = (encL its).length := by unfold endN; rw [List.take_of_length_le (Nat.le_refl _)]
theorem encL_split (its : List (Int × Nat × ByteArray)) (j : Nat) : encL its = encL (its.take j) ++ encL (its.drop j) := by
  unfold encL; rw [← List.flatMap_append, List.take_append_drop]
theorem encL_stands (its : List (Int × Nat × ByteArray)) (j : Nat) (h : j < its.length) : Stands (encL its) (endN its j) (encI its[j].1 its[j].2.1 its[j].2.2) := by
  have e : encL its = encL (its.take j) ++ (encI its[j].1 its[j].2.1 its[j].2.2 ++ encL (its.drop (j + 1))) := by
    rw [← List.append_assoc, ← encL_take its j h]; exact encL_split its (j + 1)
  refine ⟨?_, ?_⟩
  · rw [e]; unfold endN; simp only [List.length_append]; omega
  · rw [e]; unfold endN
    rw [List.drop_left, List.take_left]
theorem encL_le (its : List (Int × Nat × ByteArray)) : (encL its).length ≤ sumL its := by
  induction its with
  | nil => simp [encL, sumL]
  | cons x r ih =>
    have := (encI_len x.1 x.2.1 x.2.2).2
    simp only [encL, List.flatMap_cons, List.length_append, sumL] at ih ⊢
    omega
theorem endN_mono (its : List (Int × Nat × ByteArray)) (i j : Nat) (h : i ≤ j) : endN its i ≤ endN its j := by
  have e := encL_split (its.take j) i
  unfold endN
  rw [e, List.take_take, Nat.min_eq_left h, List.length_append]
  omega
theorem endN_le (its : List (Int × Nat × ByteArray)) (j : Nat) : endN its j ≤ (encL its).length := by
  have e := encL_split its j
  rw [e, List.length_append]
  unfold endN
  omega

/-- What stands behind so many writes. -/
structure Wrote (w : World) (b : Nat) (its : List (Int × Nat × ByteArray)) (j : Nat) (v : Value) (wr : World) : Prop where
  writer : ∃ gw, Wr wr b gw (encL (its.take j)) ∧ (∀ k, gw = some k → w.heap.size ≤ k) ∧ ∀ k, v.ownBlock = some k → some k ≠ gw
  ends : wr.ownsRow 0 3 1 v j (endV its j)
  own : ∀ k, v.ownBlock = some k → w.heap.size ≤ k ∧ k ≠ b
  kept : Keeps (fun _ => False) w wr
  base : w.heap.size ≤ b

theorem wrote_start {w w2 : World} {b : Nat} (its : List (Int × Nat × ByteArray)) (hW : Wr w2 b none []) (hK : Keeps (fun _ => False) w w2) (hb : w.heap.size ≤ b) : Wrote w b its 0 (.slice none 0 0) w2 := by
  refine ⟨⟨none, hW, ?_, ?_⟩, ⟨rfl, .inl ⟨rfl, rfl⟩⟩, ?_, hK, hb⟩
  · intro k hk; cases hk
  · intro k hk; simp [Value.ownBlock] at hk
  · intro k hk; simp [Value.ownBlock] at hk

theorem wr_kept {S : Nat → Prop} {w w' : World} {b : Nat} {g : Option Nat} {xs : List UInt8} (h : Wr w b g xs) (hK : Keeps S w w') (hb : ¬ S b) (hg : ∀ k, g = some k → ¬ S k) : Wr w' b g xs := by
  cases g with
  | none => exact ⟨h.1, h.2.kept hK hb⟩
  | some g =>
    obtain ⟨rest, a1, a2, a3, a4⟩ := h
    exact ⟨rest, a1, a2.kept hK hb, a3.kept hK (hg g rfl), a4⟩

theorem wrote_step {w wr w3 W' : World} {b j g' : Nat} {its : List (Int × Nat × ByteArray)} {v v' : Value} {gw : Option Nat} {xs : List UInt8} (h : Wrote w b its j v wr) (hown3 : w3.ownsRow 0 3 1 v j (endV its j))
    (hwr : Wr wr b gw xs) (hgw : ∀ k, gw = some k → w.heap.size ≤ k) (hw3 : Wr w3 b (some g') (encL (its.take (j + 1)))) (hg' : gw = some g' ∨ wr.heap.size ≤ g')
    (hK3 : Keeps (fun k => k = b ∨ some k = gw) wr w3) (hown' : W'.ownsRow 0 3 1 v' (j + 1) (endV its j ++ [.int .i64 (endN its (j + 1))]))
    (hfr' : v'.ownBlock = v.ownBlock ∨ ∃ k, v'.ownBlock = some k ∧ w3.heap.size ≤ k) (hKa : Keeps (fun k => some k = v.ownBlock) w3 W') (hvg : ∀ k, v.ownBlock = some k → some k ≠ gw := by assumption) : Wrote w b its (j + 1) v' W' := by
  have hsz := h.kept.size
  have hg'w : w.heap.size ≤ g' := by
    rcases hg' with e | e
    · exact hgw g' e
    · omega
  have hvlt : ∀ k, v.ownBlock = some k → k < wr.heap.size := fun k hk => (h.ends.lt k hk).2
  have hvg' : ∀ k, v.ownBlock = some k → k ≠ g' := fun k hk e => by
    rcases hg' with e2 | e2
    · exact hvg k hk (by rw [e2, e])
    · have := hvlt k hk; omega
  have hg3 : g' < w3.heap.size := by obtain ⟨rest, _, _, a3, _⟩ := hw3; exact a3.lt
  have hb3 : b < w3.heap.size := by obtain ⟨rest, _, a2, _, _⟩ := hw3; exact a2.lt
  have hK0 : Keeps (fun _ => False) w w3 := h.kept.trans hK3 fun k hk e => by
    have := h.base
    rcases e with e | e
    · omega
    · have := hgw k e.symm; omega
  refine ⟨⟨some g', wr_kept hw3 hKa (fun e => (h.own b e.symm).2 rfl) (fun k hk e => ?_), fun k hk => ?_, fun k hk e => ?_⟩, ?_, fun k hk => ?_, ?_, h.base⟩
  · have : k = g' := by simpa using hk.symm
    exact hvg' k e.symm this
  · have : k = g' := by simpa using hk.symm
    omega
  · have e1 : k = g' := by simpa using e
    rcases hfr' with e2 | ⟨k2, e2, e3⟩
    · exact hvg' k (by rw [← e2]; exact hk) e1
    · have : k = k2 := by rw [hk] at e2; simpa using e2
      omega
  · rw [endV_succ]; exact hown'
  · rcases hfr' with e2 | ⟨k2, e2, e3⟩
    · exact h.own k (by rw [← e2]; exact hk)
    · have e4 : k = k2 := by rw [hk] at e2; simpa using e2
      have := hK0.size
      exact ⟨by omega, by omega⟩
  · exact hK0.trans hKa fun k hk e => by have := (h.own k e.symm).1; omega

/-- These ends can be read. -/
def EndsAt (w : World) (a : Option Addr) (n : Nat) (its : List (Int × Nat × ByteArray)) : Prop :=
  n = 0 ∨ ∃ g, a = some ⟨g, 0, none⟩ ∧ ∀ i, i < n → w.cell? ⟨g, i, none⟩ = some (.int .i64 (endN its (i + 1)))
theorem EndsAt.kept {w w' : World} {a : Option Addr} {n : Nat} {its : List (Int × Nat × ByteArray)} (h : EndsAt w a n its) (hK : Keeps (fun _ => False) w w') : EndsAt w' a n its := by
  rcases h with h | ⟨g, ha, hc⟩
  · exact .inl h
  · refine .inr ⟨g, ha, fun i hi => ?_⟩
    have h1 := hc i hi
    have hlt : g < w.heap.size := World.block_lt_of_cell? w ⟨g, i, none⟩ h1
    exact (World.cell?_of_block (w := w) (w' := w') (hK.block g hlt (fun e => e))).trans h1
theorem ends_look {w : World} {v : Value} {n : Nat} {its : List (Int × Nat × ByteArray)} (h : w.ownsRow 0 3 1 v n (endV its n)) : ∃ a c, v = .slice a n c ∧ EndsAt w a n its := by
  have h2 := h
  rcases h.2 with ⟨rfl, rfl⟩ | ⟨g, cap, cur, rfl, _⟩
  · exact ⟨none, 0, rfl, .inl rfl⟩
  · refine ⟨_, _, rfl, .inr ⟨g, rfl, fun i hi => ?_⟩⟩
    have h3 := h2.cells (g := g) rfl i (.int .i64 (endN its (i + 1))) (by simp [endV, hi])
    rw [addr_add, Nat.zero_add] at h3
    exact h3

theorem seg_take {w : World} {a : Option Addr} {xs : List UInt8} (h : Seg w a xs) (n : Nat) : Seg w a (xs.take n) := by
  rcases h with h | ⟨g, o, ha, hc⟩
  · left; rw [h]; simp
  · refine .inr ⟨g, o, ha, fun j hj => ?_⟩
    have hj2 : j < xs.length := by rw [List.length_take] at hj; omega
    rw [hc j hj2]
    simp

set_option maxRecDepth 100000 in
set_option maxHeartbeats 1000000 in
theorem back_main (a a2 : Option Addr) (c c2 : Nat) (its : List (Int × Nat × ByteArray)) (ws : List UInt32) (cut : Int) (w : World) (hx : ItemsAt w a its) (hf : ∀ it ∈ its, Fine it) (hl : its.length ≤ maxLen)
    (hws : SegW w a2 ws) (hwl : ws.length ≤ maxLen) (hc1 : -9223372036854775808 ≤ cut) (hc2 : cut ≤ 9223372036854775807) :
    Calls Try.prog 6 #[.slice a its.length c, .int .i64 cut, .slice a2 ws.length c2] w fun e w' => e = .returned (.bool true) ∧ Keeps (fun _ => False) w w' := by
  unfold maxLen at hl hwl
  obtain ⟨n, hn⟩ : ∃ n, n = its.length := ⟨_, rfl⟩
  obtain ⟨q, hq⟩ : ∃ q, q = ws.length := ⟨_, rfl⟩
  have HN : Hid (n = its.length) := hn
  have HQ : Hid (q = ws.length) := hq
  have HX : Hid (ItemsAt w a its) := hx
  have HW : Hid (SegW w a2 ws) := hws
  have HF : Hid (∀ it ∈ its, Fine it) := hf
  have HC : Hid (-9223372036854775808 ≤ cut ∧ cut ≤ 9223372036854775807) := ⟨hc1, hc2⟩
  have HL : Hid (its.length ≤ maxLen) := hl
  rw [← hn] at hl
  rw [← hq] at hwl
  rw [← hn, ← hq]
  clear hn hq hx hws hf hc1 hc2
  go_enter Try.func6, Try.ntmps6
  go_wp2_with fail
  refine (fixed_any _).mono ?_
  rintro e w1 ⟨rfl, hK1⟩
  have hm := much_any a c its w1 (HX.out.kept hK1) HF.out HL.out
  rw [← HN.out] at hm
  have HM : Hid (Calls _ _ _ _ _) := hm
  clear hm
  go_wp2_with fail
  refine HM.out.mono ?_
  rintro e w' ⟨he, hw'⟩; obtain rfl := hw'.symm
  clear HM
  rcases he with rfl | ⟨rfl, hsum⟩
  · go_wp2
    go_ret
    exact ⟨rfl, hK1⟩
  · by_cases hqb : (536870911 : Int) < (q : Int)
    · go_wp2
      go_ret
      exact ⟨rfl, hK1⟩
    · go_wp2_with fail
      refine (fx_new _).mono ?_
      rintro e w2 ⟨b, rfl, hb, hW2, hK2⟩
      have hn8 : 8 * n ≤ 2147483647 := by have h1 := sumL_ge its; have h2 := HN.out; omega
      have start := wrote_start its hW2 (hK1.trans hK2 fun _ _ e => e) (Nat.le_trans hK1.size hb)
      have HS : Hid (Wrote w b its 0 (.slice none 0 0) w2) := start
      have HSum : Hid (sumL its ≤ 2147483647) := hsum
      clear start hK1 hK2 hW2 hb hsum
      go_wp2
      go_loopw [8, 9] (fun v i wr => ∃ j : Nat, j ≤ n ∧ i = .int .i64 j ∧ Wrote w b its j v wr) (fun _ i _ => n - (intOf i).toNat)
      case atStart => exact ⟨0, by omega, rfl, HS.out⟩
      case round =>
        obtain ⟨j, hj, rfl, hWr⟩ := hrel
        have HR : Hid (Wrote w b its j _ wr) := hWr
        clear hWr
        by_cases hlt : j < n
        · have hjx : j < its.length := by have := HN.out; omega
          rcases HX.out.kept HR.out.kept with s1 | ⟨g, o, rfl, k1⟩
          · rw [s1] at hjx; simp at hjx
          · obtain ⟨e1, e2, e3⟩ := k1 j hjx
            obtain ⟨hf1, hf2, hf3, hf4⟩ := HF.out its[j] (List.getElem_mem _)
            have hss := sumL_mem its its[j] (List.getElem_mem _)
            have HEN := encL_take its j hjx
            obtain ⟨K, hK⟩ : ∃ K, K = its[j].1 := ⟨_, rfl⟩
            obtain ⟨N, hN⟩ : ∃ N, N = its[j].2.1 := ⟨_, rfl⟩
            obtain ⟨s, hs⟩ : ∃ s, s = its[j].2.2 := ⟨_, rfl⟩
            rw [← hK] at e1 hf1 hf2 HEN
            rw [← hN] at e2 hf3 HEN
            rw [← hs] at e3 hf4 HEN hss
            have HE : Hid (encL (its.take (j + 1)) = encL (its.take j) ++ encI K N s) := HEN
            have HKK : Hid (-9223372036854775808 ≤ K ∧ K ≤ 9223372036854775807 ∧ N < 18446744073709551616) := ⟨hf1, hf2, hf3⟩
            have hs32 : s.size ≤ 2147483647 := by have := HSum.out; omega
            clear k1 hK hN hs hf1 hf2 hf3 hf4 HEN hss
            obtain ⟨gw, hwr, hgw, hvg⟩ := HR.out.writer
            have hown := HR.out.ends
            have hlen := endN_le its j
            have hall := encL_le its
            have HSm := HSum.out
            go_wp2_with fail
            refine (write_any b N K s gw _ _ hwr HKK.out.1 HKK.out.2.1 HKK.out.2.2 (by omega) (by unfold endN at hlen; omega)).mono ?_
            rintro e w3 ⟨rfl, g', hw3, hg', hK3⟩
            rw [← HE.out] at hw3
            have hown3 : w3.ownsRow 0 3 1 u8 j (endV its j) := owns_kept hown hK3 fun k hk h => by
              rcases h with h | h
              · exact (HR.out.own k hk).2 h
              · exact hvg k hk h
            obtain ⟨v', W', happ, hown', hfr', hKa⟩ := append_int (endN its (j + 1)) u8 j _ hown3 (by omega)
            have hstep := wrote_step HR.out hown3 hwr hgw hw3 hg' hK3 hown' hfr' hKa
            have HST : Hid (Wrote w b its (j + 1) v' W') := hstep
            have hlenC : Calls Try.prog 24 #[.pointer (some ⟨b, 0, none⟩)] w3 fun e w' => e = .returned (.int .i64 (endN its (j + 1))) ∧ w' = w3 := wLen_any b (some g') _ w3 hw3
            have HLC : Hid (Calls _ _ _ _ _) := hlenC
            have HAP : Hid (∀ ty, _) := happ
            clear hwr hgw hvg hown hlen hall HSm hw3 hg' hK3 hown3 happ hown' hfr' hKa hstep hlenC e1 e2 e3
            go_wp2_with fail
            refine HLC.out.mono ?_
            rintro e w' ⟨rfl, hw'⟩; obtain rfl := hw'.symm
            go_wp2_with (at_builtin; go_must (refine wpList_append_run rfl (.tmp 50) (.tmp 52) 60 60 rfl u8 (.slice (some ⟨w3.heap.size, 0, none⟩) 1 1) v' W' rfl rfl HAP.out ?_))
            go_roundw
            case rel => exact ⟨j + 1, by omega, by go_num, HST.out⟩
            case measure => simp [intOf]; omega
        · obtain rfl : j = n := by omega
          obtain ⟨gw, hwr, _, _⟩ := HR.out.writer
          rw [List.take_of_length_le (by have := HN.out; omega)] at hwr
          obtain ⟨av, cv, hv, hE⟩ := ends_look HR.out.ends
          have hBl : (encL its).length ≤ 2147483647 := Nat.le_trans (encL_le its) HSum.out
          have hK0 := HR.out.kept
          go_wp2_with fail
          refine (wOut_any b gw _ _ hwr (by omega)).mono ?_
          rintro e w3 ⟨rfl, hB3, hK3⟩
          rw [hv]
          have HI3 : Hid (ItemsAt w3 a its) := (HX.out.kept hK0).kept hK3
          have HE3 : Hid (EndsAt w3 av j its) := hE.kept hK3
          have HB3 : Hid (Blk w3 wr.heap.size (bvs (encL its)) 5) := hB3
          have HK3 : Hid (Keeps (fun _ => False) w w3) := hK0.trans hK3 fun _ _ e => e
          have HBL : Hid ((encL its).length = endN its j) := by
            have h1 := endN_all its
            rw [← HN.out] at h1
            exact h1.symm
          obtain ⟨G, hG⟩ : ∃ G, G = wr.heap.size := ⟨_, rfl⟩
          obtain ⟨L, hL⟩ : ∃ L, L = (encL its).length := ⟨_, rfl⟩
          rw [← hG] at HB3
          rw [← hL] at hBl
          rw [← hG, ← hL]
          have HLL : Hid (L = (encL its).length) := hL
          clear hwr hv hE hB3 hK3 hK0 hG hL HR
          have hnr := newReader_any (some ⟨G, 0, none⟩) L (encL its) w3 (seg_of_blk HB3.out) (by have := HLL.out; omega)
          rw [← HLL.out] at hnr
          have HNR : Hid (Calls _ _ _ _ _) := hnr
          clear hnr
          go_wp2_with fail
          refine HNR.out.mono ?_
          rintro e w4 ⟨rfl, hR4, hK4⟩
          clear HNR
          have hKx : Keeps (fun _ => False) w3 w4 := hK4
          obtain ⟨r, hr⟩ : ∃ r, r = w3.heap.size + 1 := ⟨_, rfl⟩
          obtain ⟨gr, hgr⟩ : ∃ gr, gr = w3.heap.size := ⟨_, rfl⟩
          rw [← hr, ← hgr] at hR4
          rw [← hr]
          have hrs : w3.heap.size < r := by omega
          have HR4 : Hid (Rd w4 r gr (encL its) 0 0) := hR4
          have HK4 : Hid (Keeps (fun _ => False) w3 w4) := hK4
          clear hr hgr hR4 hK4 hKx
          go_wp2
          go_loopw [13] (fun i wq => ∃ m : Nat, m ≤ j ∧ i = .int .i64 m ∧ Rd wq r gr (encL its) (endN its m) 0 ∧ Keeps (fun _ => False) w3 wq) (fun i _ => j - (intOf i).toNat)
          case atStart => exact ⟨0, by omega, rfl, HR4.out, HK4.out⟩
          case round =>
            obtain ⟨m, hm, rfl, hRq, hKq⟩ := hrel
            have HRq : Hid (Rd wr r gr (encL its) (endN its m) 0) := hRq
            have HKq : Hid (Keeps (fun _ => False) w3 wr) := hKq
            clear hRq hKq
            by_cases hlt2 : m < j
            · have hmx : m < its.length := by have := HN.out; omega
              rcases HI3.out.kept HKq.out with s1 | ⟨g, o, rfl, k1⟩
              · rw [s1] at hmx; simp at hmx
              · obtain ⟨e1, e2, e3⟩ := k1 m hmx
                obtain ⟨hf1, hf2, hf3, hf4⟩ := HF.out its[m] (List.getElem_mem _)
                have hss := sumL_mem its its[m] (List.getElem_mem _)
                have hst := encL_stands its m hmx
                have hen := endN_succ its m hmx
                obtain ⟨K, hK⟩ : ∃ K, K = its[m].1 := ⟨_, rfl⟩
                obtain ⟨N, hN⟩ : ∃ N, N = its[m].2.1 := ⟨_, rfl⟩
                obtain ⟨s, hs⟩ : ∃ s, s = its[m].2.2 := ⟨_, rfl⟩
                rw [← hK] at e1 hf1 hf2 hst hen
                rw [← hN] at e2 hf3 hst hen
                rw [← hs] at e3 hf4 hst hss hen
                have hs32 : s.size ≤ 2147483647 := by have := HSum.out; omega
                have hgood := read_good (n := (encL its).length) hst hf3 (by omega) hst.1 (Nat.le_refl _)
                rw [List.take_of_length_le (Nat.le_refl _), ← hen] at hgood
                have hrd := reads_any r gr (endN its m) N 0 K s (encL its) wr HRq.out hf1 hf2 hf3 (by unfold maxLen; omega)
                rw [hgood.1, hgood.2.1, hgood.2.2] at hrd
                have HRD : Hid (Calls _ _ _ _ _) := hrd
                clear k1 hK hN hs hf1 hf2 hf3 hf4 hss hst hen hgood hrd
                go_wp2_with fail
                refine HRD.out.mono ?_
                rintro e w5 ⟨rfl, hR5, hK5⟩
                have hK5' : Keeps (fun _ => False) w3 w5 := HKq.out.trans hK5 fun k hk e => by omega
                have HK5 : Hid (Keeps (fun _ => False) w3 w5) := hK5'
                have HR5 : Hid (Rd w5 r gr (encL its) (endN its (m + 1)) 0) := hR5
                clear HRD hK5 hK5' hR5 e1 e2 e3
                go_wp2_with fail
                refine (rAt_any r gr _ _ _ _ HR5.out).mono ?_
                rintro e w' ⟨rfl, hw'⟩; obtain rfl := hw'.symm
                rcases HE3.out.kept HK5.out with s2 | ⟨gv, rfl, k2⟩
                · omega
                · have e4 := k2 m hlt2
                  clear k2
                  go_wp2
                  go_roundw
                  case rel => exact ⟨m + 1, by omega, by go_num, HR5.out, HK5.out⟩
                  case measure => simp [intOf]; omega
            · obtain rfl : m = j := by omega
              have hpe : endN its m = (encL its).length := HBL.out.symm
              have hend := rEnd_any r gr _ _ _ _ HRq.out
              have hlef := rLeft_any r gr _ _ _ _ HRq.out
              rw [hpe] at hend hlef
              have z1 : endE (encL its) (encL its).length 0 = 0 := by unfold endE; rw [if_neg (by simp), if_neg (by omega)]
              have z2 : ((encL its).length : Int) - ((encL its).length : Nat) = 0 := by omega
              rw [z1] at hend
              rw [z2] at hlef
              have HEND : Hid (Calls _ _ _ _ _) := hend
              have HLEF : Hid (Calls _ _ _ _ _) := hlef
              have HFLT : Hid (Calls _ _ _ _ _) := rFault_any r gr _ _ _ _ HRq.out
              clear hend hlef hpe z1 z2
              go_wp2_with fail
              refine HEND.out.mono ?_
              rintro e w' ⟨rfl, hw'⟩; obtain rfl := hw'.symm
              go_wp2_with fail
              refine HLEF.out.mono ?_
              rintro e w' ⟨rfl, hw'⟩; obtain rfl := hw'.symm
              go_wp2_with fail
              refine HFLT.out.mono ?_
              rintro e w' ⟨rfl, hw'⟩; obtain rfl := hw'.symm
              clear HEND HLEF HFLT
              by_cases hL0 : (0 : Int) < (L : Int)
              · go_wp2_with fail
                refine (pick_any cut L _ hL0 HC.out.1 HC.out.2 (by omega)).mono ?_
                rintro e w' ⟨rfl, hw'⟩; obtain rfl := hw'.symm
                obtain ⟨n0, hn0⟩ : ∃ n0 : Nat, pickZ cut L = (n0 : Int) := ⟨(pickZ cut L).toNat, by have := (pickZ_bd cut L hL0).1; omega⟩
                have hn0L : n0 < L := by have := (pickZ_bd cut L hL0).2; omega
                rw [hn0]
                clear hn0
                have htl : ((encL its).take n0).length = n0 := by rw [List.length_take, Nat.min_eq_left (by have := HLL.out; omega)]
                have hsg : Seg wr (some ⟨G, 0, none⟩) ((encL its).take n0) := seg_take (seg_of_blk (HB3.out.kept HKq.out (fun e => e))) n0
                have hnr := newReader_any (some ⟨G, 0, none⟩) L _ wr hsg (by rw [htl]; omega)
                rw [htl] at hnr
                have HNR : Hid (Calls _ _ _ _ _) := hnr
                have HTL : Hid (n0 ≤ (encL its).length) := by have := HLL.out; show n0 ≤ (encL its).length; omega
                clear hnr hsg htl
                go_wp2_with fail
                refine HNR.out.mono ?_
                rintro e w6 ⟨rfl, hR6, hK6⟩
                clear HNR
                obtain ⟨r2, hr2⟩ : ∃ r2, r2 = wr.heap.size + 1 := ⟨_, rfl⟩
                obtain ⟨g2, hg2⟩ : ∃ g2, g2 = wr.heap.size := ⟨_, rfl⟩
                rw [← hr2, ← hg2] at hR6
                rw [← hr2]
                obtain ⟨W5, hW5⟩ : ∃ W5, W5 = wr := ⟨_, rfl⟩
                rw [← hW5] at hK6 hr2
                have HK5 : Hid (Keeps (fun _ => False) w3 W5) := by rw [hW5]; exact HKq.out
                have hrs2 : W5.heap.size < r2 := by omega
                have HR6 : Hid (Rd w6 r2 g2 ((encL its).take n0) 0 0) := hR6
                have HK6 : Hid (Keeps (fun _ => False) W5 w6) := hK6
                clear hr2 hg2 hR6 hK6 hW5 HRq HKq
                go_wp2
                go_loopw [18, 19] (fun f i wq => ∃ t p : Nat, ∃ er : Int, t ≤ m ∧ i = .int .i64 t ∧ Rd wq r2 g2 ((encL its).take n0) p er ∧ Keeps (fun _ => False) W5 wq ∧ ((f = .bool false ∧ er = 0 ∧ p = endN its t ∧ endN its t ≤ n0) ∨ (f = .bool true ∧ er = 12 ∧ n0 < endN its t))) (fun _ i _ => m - (intOf i).toNat)
                case atStart => exact ⟨0, 0, 0, by omega, rfl, HR6.out, HK6.out, .inl ⟨rfl, rfl, rfl, by rw [endN_zero]; omega⟩⟩
                case round =>
                  obtain ⟨t, p, er, ht, rfl, hRq, hKq, hst⟩ := hrel
                  have HRq : Hid (Rd wr r2 g2 ((encL its).take n0) p er) := hRq
                  have HKq : Hid (Keeps (fun _ => False) W5 wr) := hKq
                  clear hRq hKq
                  by_cases hlt3 : t < m
                  · have htx : t < its.length := by have := HN.out; omega
                    rcases (HE3.out.kept HK5.out).kept HKq.out with s2 | ⟨gv, rfl, k2⟩
                    · omega
                    · have e4 := k2 t hlt3
                      rcases (HI3.out.kept HK5.out).kept HKq.out with s1 | ⟨g, o, rfl, k1⟩
                      · rw [s1] at htx; simp at htx
                      · obtain ⟨e1, e2, e3⟩ := k1 t htx
                        obtain ⟨hf1, hf2, hf3, hf4⟩ := HF.out its[t] (List.getElem_mem _)
                        have hss := sumL_mem its its[t] (List.getElem_mem _)
                        have hsd := encL_stands its t htx
                        have hen := endN_succ its t htx
                        obtain ⟨K, hK⟩ : ∃ K, K = its[t].1 := ⟨_, rfl⟩
                        obtain ⟨N, hN⟩ : ∃ N, N = its[t].2.1 := ⟨_, rfl⟩
                        obtain ⟨s, hs⟩ : ∃ s, s = its[t].2.2 := ⟨_, rfl⟩
                        rw [← hK] at e1 hf1 hf2 hsd hen
                        rw [← hN] at e2 hf3 hsd hen
                        rw [← hs] at e3 hf4 hsd hss hen
                        have hs32 : s.size ≤ 2147483647 := by have := HSum.out; omega
                        have HFK : Hid (-9223372036854775808 ≤ K ∧ K ≤ 9223372036854775807 ∧ N < 18446744073709551616) := ⟨hf1, hf2, hf3⟩
                        clear k1 k2 hK hN hs hf1 hf2 hf3 hf4 hss
                        by_cases hin : endN its (t + 1) ≤ n0
                        · rcases hst with ⟨rfl, rfl, rfl, h4⟩ | ⟨rfl, rfl, h4⟩
                          · have hgood := read_good (n := n0) hsd HFK.out.2.2 (by omega) (by rw [← hen]; exact hin) HTL.out
                            rw [← hen] at hgood
                            have hrd := reads_any r2 g2 (endN its t) N 0 K s ((encL its).take n0) wr HRq.out HFK.out.1 HFK.out.2.1 HFK.out.2.2 (by unfold maxLen; omega)
                            rw [hgood.1, hgood.2.1, hgood.2.2] at hrd
                            have HRD : Hid (Calls _ _ _ _ _) := hrd
                            have hin' : ((endN its (t + 1) : Nat) : Int) ≤ (n0 : Int) := by omega
                            clear hgood hrd hsd hen
                            go_wp2_with fail
                            refine HRD.out.mono ?_
                            rintro e w7 ⟨rfl, hR7, hK7⟩
                            have HK7 : Hid (Keeps (fun _ => False) W5 w7) := HKq.out.trans hK7 fun k hk e => by omega
                            have HR7 : Hid (Rd w7 r2 g2 ((encL its).take n0) (endN its (t + 1)) 0) := hR7
                            clear HRD hK7 hR7 e1 e2 e3 e4
                            go_wp2
                            go_roundw
                            case rel => exact ⟨t + 1, _, 0, by omega, by go_num, HR7.out, HK7.out, .inl ⟨rfl, rfl, rfl, hin⟩⟩
                            case measure => simp [intOf]; omega
                          · have := endN_mono its t (t + 1) (by omega); omega
                        · have hbadT : pickZ K 4 = 3 → txtV ((encL its).take n0) p er s.size = [] ∧ txtP ((encL its).take n0) p er s.size = p ∧ txtE ((encL its).take n0) p er s.size = 12 := by
                            intro h3
                            have e : encI K N s = lowB 4 s.size ++ s.data.toList := by unfold encI; rw [h3]; rfl
                            rcases hst with ⟨_, rfl, rfl, h4⟩ | ⟨_, rfl, h4⟩
                            · exact txt_bad hsd e (by omega) (by omega) HTL.out
                            · exact txt_fault _ _ _
                          have hbadN : pickZ K 4 ≠ 3 → readB ((encL its).take n0) p er K 0 ⟨#[]⟩ = true ∧ readP ((encL its).take n0) p er K ⟨#[]⟩ = p ∧ readE ((encL its).take n0) p er K ⟨#[]⟩ = 12 := by
                            intro h3
                            rcases hst with ⟨_, rfl, rfl, h4⟩ | ⟨_, rfl, h4⟩
                            · exact read_bad hsd h3 (by omega) HTL.out
                            · exact read_fault _ _ _ h3
                          have HIN : Hid (n0 < endN its (t + 1)) := by show n0 < endN its (t + 1); omega
                          have hin' : ¬ ((endN its (t + 1) : Nat) : Int) ≤ (n0 : Int) := by omega
                          obtain ⟨W7, hW7⟩ : ∃ W7, W7 = wr.alloc (.cells #[.int .i64 K, .int .u64 N, .string s] 63) := ⟨_, rfl⟩
                          have hK7 : Keeps (fun _ => False) wr W7 := by rw [hW7]; exact (Keeps.refl _ wr).alloc _
                          have HB7 : Hid (Blk W7 wr.heap.size [.int .i64 K, .int .u64 N, .string s] 63) := by rw [hW7]; exact Blk.new wr _ 63
                          have HR7 : Hid (Rd W7 r2 g2 ((encL its).take n0) p er) := HRq.out.kept hK7 (fun e => e) (fun e => e)
                          have HK7 : Hid (Keeps (fun _ => False) W5 W7) := HKq.out.trans hK7 fun _ _ e => e
                          have HPK : Hid (Calls Try.prog 32 #[.int .i64 K, .int .i64 4] W7 fun e w' => e = .returned (.int .i64 (pickZ K 4)) ∧ w' = W7) := pick_any K 4 W7 (by omega) HFK.out.1 HFK.out.2.1 (by omega)
                          clear hsd hen hin hst hK7
                          go_wp2_with fail
                          rw [← hW7]
                          refine HPK.out.mono ?_
                          rintro e w' ⟨rfl, hw'⟩; obtain rfl := hw'.symm
                          clear hW7 HPK e1 e2 e3 e4
                          have d0 := HB7.out.cell (i := 0) rfl
                          have d1 := HB7.out.cell (i := 1) rfl
                          have d2 := HB7.out.cell (i := 2) rfl
                          by_cases h3 : pickZ K 4 = 3
                          · have hrd := rText_any r2 g2 p er s.size ((encL its).take n0) W7 HR7.out
                            rw [(hbadT h3).1, (hbadT h3).2.1, (hbadT h3).2.2] at hrd
                            have HRD : Hid (Calls _ _ _ _ _) := hrd
                            rw [h3]
                            clear hrd hbadT hbadN h3
                            go_wp2_with fail
                            refine HRD.out.mono ?_
                            rintro e w8 ⟨rfl, hR8, hK8⟩
                            have HK8 : Hid (Keeps (fun _ => False) W5 w8) := HK7.out.trans hK8 fun k hk e => by omega
                            have HR8 : Hid (Rd w8 r2 g2 ((encL its).take n0) p 12) := hR8
                            clear HRD hK8 hR8 d0 d1 d2
                            go_wp2
                            go_roundw
                            case rel => exact ⟨t + 1, p, 12, by omega, by go_num, HR8.out, HK8.out, .inr ⟨rfl, rfl, HIN.out⟩⟩
                            case measure => simp [intOf]; omega
                          · have hrd := zero_any r2 g2 p N er K s ((encL its).take n0) W7 HR7.out HFK.out.1 HFK.out.2.1
                            rw [(hbadN h3).1, (hbadN h3).2.1, (hbadN h3).2.2] at hrd
                            have HRD : Hid (Calls _ _ _ _ _) := hrd
                            have hz : (pickZ K 4 == 3) = false := beq_false_of_ne h3
                            clear hrd hbadT hbadN h3
                            go_wp2_with fail
                            refine HRD.out.mono ?_
                            rintro e w8 ⟨rfl, hR8, hK8⟩
                            have HK8 : Hid (Keeps (fun _ => False) W5 w8) := HK7.out.trans hK8 fun k hk e => by omega
                            have HR8 : Hid (Rd w8 r2 g2 ((encL its).take n0) p 12) := hR8
                            clear HRD hK8 hR8 d0 d1 d2
                            go_wp2
                            go_roundw
                            case rel => exact ⟨t + 1, p, 12, by omega, by go_num, HR8.out, HK8.out, .inr ⟨rfl, rfl, HIN.out⟩⟩
                            case measure => simp [intOf]; omega
                  · obtain rfl : t = m := by omega
                    have hL2 : endN its t = L := by rw [← HBL.out, HLL.out]
                    rcases hst with ⟨_, _, _, h4⟩ | ⟨rfl, rfl, _⟩
                    · omega
                    · have hend := rEnd_any r2 g2 _ _ _ _ HRq.out
                      have z1 : endE ((encL its).take n0) p 12 = 12 := by unfold endE; rw [if_pos (by decide)]
                      rw [z1] at hend
                      have HEND : Hid (Calls _ _ _ _ _) := hend
                      have HFLT : Hid (Calls _ _ _ _ _) := rFault_any r2 g2 _ _ _ _ HRq.out
                      have HKw : Hid (Keeps (fun _ => False) w wr) := (HK3.out.trans HK5.out fun _ _ e => e).trans HKq.out fun _ _ e => e
                      clear hend z1 hL2
                      go_wp2_with fail
                      refine HEND.out.mono ?_
                      rintro e w' ⟨rfl, hw'⟩; obtain rfl := hw'.symm
                      go_wp2_with fail
                      refine HFLT.out.mono ?_
                      rintro e w' ⟨rfl, hw'⟩; obtain rfl := hw'.symm
                      clear HEND HFLT
                      have HFIN : Hid (SegW wr a2 ws) := HW.out.kept HKw.out (fun _ _ e => e)
                      have HKF : Hid (Keeps (fun _ => False) w wr) := HKw.out
                      have hpk := pack_any a2 c2 ws wr HFIN.out (by have := HQ.out; omega)
                      rw [← HQ.out] at hpk
                      have HPK : Hid (Calls _ _ _ _ _) := hpk
                      clear hpk
                      go_wp2_with fail
                      refine HPK.out.mono ?_
                      rintro e w8 ⟨rfl, hB8, hK8⟩
                      have hup := unpack_any (some ⟨wr.heap.size, 0, none⟩) (4 * q) q (packB ws) w8 (seg_of_blk hB8) (by rw [packB_length, HQ.out]) (by omega) (Nat.le_refl _) (by unfold maxLen; omega)
                      rw [packB_length, ← HQ.out] at hup
                      have HUP : Hid (Calls _ _ _ _ _) := hup
                      have HF8 : Hid (SegW w8 a2 ws) := HFIN.out.kept hK8 (fun _ _ e => e)
                      have HK8 : Hid (Keeps (fun _ => False) w w8) := HKF.out.trans hK8 fun _ _ e => e
                      clear hup hB8 hK8 HPK
                      go_wp2_with fail
                      refine HUP.out.mono ?_
                      rintro e w9 ⟨rfl, hB9, hK9⟩
                      have hun : unpackW (packB ws) q = ws := by rw [HQ.out]; exact unpack_pack ws
                      rw [hun] at hB9
                      have hsw := sameWords_any (some ⟨w8.heap.size, 0, none⟩) a2 q c2 ws ws w9 (segW_of_blk hB9) (HF8.out.kept hK9 (fun _ _ e => e)) (by have := HQ.out; unfold maxLen; omega) (by have := HQ.out; unfold maxLen; omega) rfl
                      rw [← HQ.out] at hsw
                      have HSW : Hid (Calls _ _ _ _ _) := hsw
                      have HK9 : Hid (Keeps (fun _ => False) w w9) := HK8.out.trans hK9 fun _ _ e => e
                      clear hun hB9 hK9 hsw HUP
                      go_wp2_with fail
                      refine HSW.out.mono ?_
                      rintro e w10 ⟨rfl, hK10⟩
                      have HK10 : Hid (Keeps (fun _ => False) w w10) := HK9.out.trans hK10 fun _ _ e => e
                      clear hK10 HSW
                      go_wp2
                      go_ret
                      exact ⟨rfl, HK10.out⟩
              · have HKw : Hid (Keeps (fun _ => False) w wr) := HK3.out.trans HKq.out fun _ _ e => e
                have HFIN : Hid (SegW wr a2 ws) := HW.out.kept HKw.out (fun _ _ e => e)
                have HKF : Hid (Keeps (fun _ => False) w wr) := HKw.out
                have hpk := pack_any a2 c2 ws wr HFIN.out (by have := HQ.out; omega)
                rw [← HQ.out] at hpk
                have HPK : Hid (Calls _ _ _ _ _) := hpk
                clear hpk
                go_wp2_with fail
                refine HPK.out.mono ?_
                rintro e w8 ⟨rfl, hB8, hK8⟩
                have hup := unpack_any (some ⟨wr.heap.size, 0, none⟩) (4 * q) q (packB ws) w8 (seg_of_blk hB8) (by rw [packB_length, HQ.out]) (by omega) (Nat.le_refl _) (by unfold maxLen; omega)
                rw [packB_length, ← HQ.out] at hup
                have HUP : Hid (Calls _ _ _ _ _) := hup
                have HF8 : Hid (SegW w8 a2 ws) := HFIN.out.kept hK8 (fun _ _ e => e)
                have HK8 : Hid (Keeps (fun _ => False) w w8) := HKF.out.trans hK8 fun _ _ e => e
                clear hup hB8 hK8 HPK
                go_wp2_with fail
                refine HUP.out.mono ?_
                rintro e w9 ⟨rfl, hB9, hK9⟩
                have hun : unpackW (packB ws) q = ws := by rw [HQ.out]; exact unpack_pack ws
                rw [hun] at hB9
                have hsw := sameWords_any (some ⟨w8.heap.size, 0, none⟩) a2 q c2 ws ws w9 (segW_of_blk hB9) (HF8.out.kept hK9 (fun _ _ e => e)) (by have := HQ.out; unfold maxLen; omega) (by have := HQ.out; unfold maxLen; omega) rfl
                rw [← HQ.out] at hsw
                have HSW : Hid (Calls _ _ _ _ _) := hsw
                have HK9 : Hid (Keeps (fun _ => False) w w9) := HK8.out.trans hK9 fun _ _ e => e
                clear hun hB9 hK9 hsw HUP
                go_wp2_with fail
                refine HSW.out.mono ?_
                rintro e w10 ⟨rfl, hK10⟩
                have HK10 : Hid (Keeps (fun _ => False) w w10) := HK9.out.trans hK10 fun _ _ e => e
                clear hK10 HSW
                go_wp2
                go_ret
                exact ⟨rfl, HK10.out⟩
end Go.Proofs.Ytonjmknjjdnjkaa
