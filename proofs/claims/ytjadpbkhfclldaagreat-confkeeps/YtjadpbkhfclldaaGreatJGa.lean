import Derived.Test.YtjadpbkhfclldaaGreatJWalkC
import Derived.Test.YtjadpbkhfclldaaGreatJFc
namespace Go.Proofs.YtjadpbkhfclldaaGreat
set_option linter.unusedVariables false

theorem xor_mod2 (a b : Nat) : (a ^^^ b) % 2 = (a % 2 + b % 2) % 2 := by
  have h := Nat.xor_mod_two_pow (a := a) (b := b) (n := 1)
  simp only [Nat.pow_one] at h
  rw [h]
  rcases Nat.mod_two_eq_zero_or_one a with h1 | h1 <;> rcases Nat.mod_two_eq_zero_or_one b with h2 | h2 <;> rw [h1, h2] <;> rfl

theorem xor_div2 (a b : Nat) : (a ^^^ b) / 2 = a / 2 ^^^ b / 2 := by
  have h := Nat.shiftRight_xor_distrib (a := a) (b := b) (i := 1)
  simpa [Nat.shiftRight_eq_div_pow] using h

theorem crcStep_xor (a b : Nat) : crcStep (a ^^^ b) = crcStep a ^^^ crcStep b := by
  unfold crcStep
  rw [xor_mod2, xor_div2]
  rcases Nat.mod_two_eq_zero_or_one a with h1 | h1 <;> rcases Nat.mod_two_eq_zero_or_one b with h2 | h2 <;> simp [h1, h2]
  · rw [Nat.xor_assoc]
  · rw [Nat.xor_assoc, Nat.xor_assoc, Nat.xor_comm 3988292384]
  · rw [Nat.xor_assoc, ← Nat.xor_assoc 3988292384 (b / 2), Nat.xor_comm 3988292384 (b / 2), Nat.xor_assoc (b / 2), Nat.xor_self, Nat.xor_zero]

theorem crcN_xor (k a b : Nat) : crcN k (a ^^^ b) = crcN k a ^^^ crcN k b := by
  induction k with
  | zero => rfl
  | succ k ih => simp only [crcN, ih, crcStep_xor]

theorem crcN_add (a b s : Nat) : crcN (a + b) s = crcN a (crcN b s) := by
  induction a with
  | zero => rw [Nat.zero_add]; rfl
  | succ a ih =>
    rw [Nat.succ_add]
    simp only [crcN, ih]

theorem crcStep_two (y : Nat) : crcStep (2 * y) = y := by
  unfold crcStep
  have h1 : ¬ 2 * y % 2 = 1 := by omega
  rw [if_neg h1]
  omega

theorem crcN_pow (k y : Nat) : crcN k (y * 2 ^ k) = y := by
  induction k generalizing y with
  | zero => simp [crcN]
  | succ k ih =>
    simp only [crcN]
    have : y * 2 ^ (k + 1) = 2 * y * 2 ^ k := by rw [Nat.pow_succ, Nat.mul_comm (2 ^ k) 2, ← Nat.mul_assoc, Nat.mul_comm y 2]
    rw [this, ih, crcStep_two]

theorem join_xor (x h : Nat) (hx : x < 256) : x + 256 * h = x ^^^ 256 * h := by
  have e : (256 : Nat) = 2 ^ 8 := rfl
  refine Nat.eq_of_testBit_eq fun i => ?_
  rw [Nat.testBit_xor, Nat.add_comm, e, Nat.testBit_two_pow_mul_add h (by omega) i, Nat.mul_comm, Nat.testBit_mul_two_pow]
  by_cases hi : i < 8
  · have : ¬ 8 ≤ i := by omega
    simp [hi, this]
  · have h8 : 8 ≤ i := by omega
    have hz : x.testBit i = false := Nat.testBit_lt_two_pow (Nat.lt_of_lt_of_le (show x < 2 ^ 8 by omega) (two_le _ _ h8))
    simp [hi, h8, hz]

theorem crcL_eq (ds : List UInt8) : ∀ s, crcL ds s = crcN (8 * ds.length) (s ^^^ highN ds) := by
  induction ds with
  | nil => intro s; simp [crcL, highN, crcN]
  | cons x r ih =>
    intro s
    have e1 : 8 * (x :: r).length = 8 * r.length + 8 := by simp only [List.length_cons]; omega
    have e2 : s ^^^ highN (x :: r) = (s ^^^ x.toNat) ^^^ highN r * 2 ^ 8 := by
      simp only [highN]
      rw [join_xor _ _ x.toNat_lt, Nat.xor_assoc, Nat.mul_comm 256]
    rw [e1, e2, crcN_add, crcN_xor, crcN_pow]
    exact ih _

theorem crcStep_ne (x : Nat) (h : x < 4294967296) (h0 : x ≠ 0) : crcStep x ≠ 0 := by
  unfold crcStep
  split
  · intro e
    have h1 : (x / 2 ^^^ 3988292384).testBit 31 = true := by
      rw [Nat.testBit_xor, Nat.testBit_lt_two_pow (show x / 2 < 2 ^ 31 by omega)]
      decide
    rw [e] at h1
    simp at h1
  · omega
theorem crcN_ne (k x : Nat) (h : x < 4294967296) (h0 : x ≠ 0) : crcN k x ≠ 0 := by
  induction k with
  | zero => exact h0
  | succ k ih => exact crcStep_ne _ (crcN_lt k x h) ih

theorem xor_cancel (a b c : Nat) : (a ^^^ b = a ^^^ c) ↔ b = c := by
  refine ⟨fun h => ?_, fun h => by rw [h]⟩
  have := congrArg (a ^^^ ·) h
  simpa [← Nat.xor_assoc] using this

/-- P1.11: lists that differ in bits within 32 side by side have unlike sums. -/
theorem sum_turn (xs ys : List UInt8) (m first : Nat) (hl : ys.length = xs.length) (hm : m < 4294967296) (hf : first ≤ 8 * xs.length) (h : highN ys = highN xs ^^^ m * 2 ^ first) :
    sumN xs = sumN ys ↔ m = 0 := by
  unfold sumN
  rw [crcL_eq, crcL_eq, h, hl, xor_cancel, ← Nat.xor_assoc, crcN_xor (8 * xs.length) (4294967295 ^^^ highN xs) (m * 2 ^ first)]
  obtain ⟨k, hk⟩ : ∃ k, 8 * xs.length = k + first := ⟨8 * xs.length - first, by omega⟩
  have e : crcN (8 * xs.length) (m * 2 ^ first) = crcN k m := by rw [hk, crcN_add, crcN_pow]
  rw [e]
  constructor
  · intro h1
    have h2 : crcN k m = 0 := by
      have := (xor_cancel (crcN (8 * xs.length) (4294967295 ^^^ highN xs)) 0 (crcN k m)).1 (by rw [Nat.xor_zero]; exact h1)
      exact this.symm
    by_cases h3 : m = 0
    · exact h3
    · exact absurd h2 (crcN_ne k m hm h3)
  · intro h1
    rw [h1]
    have : crcN k 0 = 0 := by
      have := crcN_pow k 0
      simpa using this
    rw [this, Nat.xor_zero]

theorem xor_lt_byte (x t : Nat) (hx : x < 256) (ht : t < 8) : x ^^^ 2 ^ t < 256 :=
  Nat.xor_lt_two_pow (n := 8) hx (Nat.pow_lt_pow_right (by omega) ht)

theorem highN_flip : ∀ (ys : List UInt8) (q t : Nat) (ht : t < 8) (hq : q < ys.length), highN (ys.set q (UInt8.ofNat (ys[q].toNat ^^^ 2 ^ t))) = highN ys ^^^ 2 ^ (8 * q + t)
  | [], q, t, ht, hq => by simp at hq
  | x :: r, 0, t, ht, _ => by
    have hx := x.toNat_lt
    have e : (UInt8.ofNat (x.toNat ^^^ 2 ^ t)).toNat = x.toNat ^^^ 2 ^ t := by
      rw [UInt8.toNat_ofNat']
      exact Nat.mod_eq_of_lt (xor_lt_byte _ _ hx ht)
    simp only [List.set_cons_zero, highN, List.getElem_cons_zero, e]
    rw [join_xor _ _ (xor_lt_byte _ _ hx ht), join_xor _ _ hx, Nat.xor_assoc, Nat.xor_comm (2 ^ t), ← Nat.xor_assoc]
    simp
  | x :: r, q + 1, t, ht, hq => by
    have hx := x.toNat_lt
    have ih := highN_flip r q t ht (by simpa using hq)
    have e : 2 ^ (8 * (q + 1) + t) = 256 * 2 ^ (8 * q + t) := by
      rw [show 8 * (q + 1) + t = 8 + (8 * q + t) by omega, Nat.pow_add]
    simp only [List.set_cons_succ, highN, List.getElem_cons_succ, ih]
    rw [join_xor _ _ hx, join_xor _ _ hx, e, Nat.xor_assoc]
    congr 1
    have d := Nat.shiftLeft_xor_distrib (a := highN r) (b := 2 ^ (8 * q + t)) (i := 8)
    simp only [Nat.shiftLeft_eq] at d
    rw [Nat.mul_comm 256, Nat.mul_comm 256, Nat.mul_comm 256]
    exact d

end Go.Proofs.YtjadpbkhfclldaaGreat
namespace Go.Proofs.YtjadpbkhfclldaaGreat
open Go.RowKit
set_option linter.unusedVariables false
set_option maxRecDepth 6000

theorem not_eq' (A : Nat) (h : A < 4294967296) : bits .xor .u32 (A : Int) 4294967295 = ((4294967295 ^^^ A : Nat) : Int) := by
  rw [Nat.xor_comm]
  exact u32_xor_nat A 4294967295 h (by omega)

set_option maxHeartbeats 1000000 in
theorem refSum_any (a : Option Addr) (c : Nat) (xs : List UInt8) (w : World) (hx : Seg w a xs) (hl : xs.length ≤ maxLen) :
    Calls Tryz.prog 35 #[.slice a xs.length c] w fun e w' => e = .returned (.int .u32 (sumN xs)) ∧ w' = w := by
  unfold maxLen at hl
  obtain ⟨n, hn⟩ : ∃ n, n = xs.length := ⟨_, rfl⟩
  have HN : Hid (n = xs.length) := hn
  have HX : Hid (Seg w a xs) := hx
  rw [← hn] at hl ⊢
  clear hn hx
  go_enter Tryz.func35, Tryz.ntmps35
  go_wp2
  go_loop [3, 4, 5, 6] (fun s i k o => ∃ j : Nat, j ≤ n ∧ i = .int .i64 j ∧ s = .int .u32 ((crcL (xs.take j) 4294967295 : Nat) : Int)) (fun _ i _ _ => n - (intOf i).toNat)
  case atStart => exact ⟨0, by omega, rfl, rfl⟩
  case round =>
    obtain ⟨j, hj, rfl, rfl⟩ := hrel
    by_cases hlt : j < n
    · have hjx : j < xs.length := by have := HN.out; omega
      rcases HX.out with hs | ⟨g, o, rfl, hcell⟩
      · rw [hs] at hjx; simp at hjx
      have hc := hcell j hjx
      have hS := crcL_lt (xs.take j) 4294967295 (by omega)
      have hstep : Hid (_ = _) := crcL_take xs j 4294967295 hjx
      have hxx := xor_eq (crcL (xs.take j) 4294967295) (xs[j]).toNat hS (xs[j]).toNat_lt
      have hS2 := xor_byte_lt (crcL (xs.take j) 4294967295) (xs[j]) hS
      obtain ⟨A, hA⟩ : ∃ A, A = crcL (xs.take j) 4294967295 := ⟨_, rfl⟩
      obtain ⟨X, hX⟩ : ∃ X, X = (xs[j]).toNat := ⟨_, rfl⟩
      obtain ⟨B, hB⟩ : ∃ B, B = A ^^^ X := ⟨_, rfl⟩
      rw [← hA, ← hX, ← hB] at hxx
      rw [← hA, ← hX, ← hB] at hS2
      rw [← hA, ← hX, ← hB] at hstep
      rw [← hX] at hc
      rw [← hA]
      have HS2 : Hid (True ∧ B < 4294967296) := ⟨trivial, hS2⟩
      have hX32 : (X : Int) % 4294967296 = X := by
        have := (xs[j]).toNat_lt
        omega
      clear hcell hS hA hX hB hS2
      go_wp2
      clear hxx hX32
      go_loop [3, 5, 6] (fun s k o => ∃ m : Nat, m ≤ 8 ∧ k = .int .i64 m ∧ s = .int .u32 ((crcN m B : Nat) : Int)) (fun _ k _ => 8 - (intOf k).toNat)
      case atStart => exact ⟨0, by omega, rfl, rfl⟩
      case round =>
        obtain ⟨m, hm, rfl, rfl⟩ := hrel
        by_cases hm8 : m < 8
        · have hSm := crcN_lt m B HS2.out.2
          have ho := odd_eq (crcN m B) hSm
          have ht := turn_eq (crcN m B) hSm
          have hs1 : crcN (m + 1) B = crcStep (crcN m B) := rfl
          unfold crcStep at hs1
          obtain ⟨D, hD⟩ : ∃ D, D = crcN m B := ⟨_, rfl⟩
          rw [← hD] at ho ht hs1
          rw [← hD]
          clear hD hSm
          by_cases h1 : D % 2 = 1
          · rw [if_pos h1] at hs1
            rw [h1] at ho
            have HT : Hid (_ = _) := ht
            have HS1 : Hid (_ = _) := hs1
            clear h1 hs1 ht
            go_wp2
            go_round
            case rel => exact ⟨m + 1, by omega, by go_num, by rw [HS1.out, ← HT.out]⟩
            case measure => simp [intOf]; omega
          · have h0 : D % 2 = 0 := by omega
            rw [if_neg h1] at hs1
            rw [h0] at ho
            have HS1 : Hid (_ = _) := hs1
            clear h1 h0 hs1 ht
            go_wp2
            go_round
            case rel => exact ⟨m + 1, by omega, by go_num, by rw [HS1.out]; simp⟩
            case measure => simp [intOf]; omega
        · obtain rfl : m = 8 := by omega
          go_wp2
          go_round
          case rel => exact ⟨j + 1, by omega, by go_num, by rw [hstep.out]⟩
          case measure => simp [intOf]; omega
    · obtain rfl : j = n := by omega
      have hall : xs.take j = xs := List.take_of_length_le (by have := HN.out; omega)
      rw [hall]
      have hS := crcL_lt xs 4294967295 (by omega)
      have hfin := not_eq' _ hS
      have HF : Hid (_ = _) := hfin
      obtain ⟨A, hA⟩ : ∃ A, A = crcL xs 4294967295 := ⟨_, rfl⟩
      have HA : Hid (A = crcL xs 4294967295) := hA
      rw [← hA] at HF
      rw [← hA]
      clear hfin hS hall hA
      go_wp2
      go_ret
      exact ⟨ret_int' (by rw [HF.out, HA.out]; rfl), rfl⟩


set_option maxHeartbeats 1000000 in
theorem summed_any (u : Value) (xs : List UInt8) (w : World) (h : BR w u xs) (hx : 0 < xs.length) (hl : xs.length + 4 ≤ 140737488355328) :
    Calls Tryz.prog 14 #[u] w fun e w' => ∃ u', e = .returned u' ∧ BR w' u' (xs ++ lowB 4 (sumN xs)) ∧ (∀ k, u'.ownBlock = some k → w.heap.size ≤ k) ∧ Keeps (fun _ => False) w w' := by
  obtain ⟨a, c, hu, hseg, hcap⟩ := h.slice
  subst hu
  obtain ⟨ad, hadd⟩ : ∃ y, a = some y := by
    rcases hseg with h0 | ⟨g, o, h0, _⟩
    · rw [h0] at hx; simp at hx
    · exact ⟨_, h0⟩
  subst hadd
  obtain ⟨L, hL⟩ : ∃ L, xs.length = L := ⟨_, rfl⟩
  have HS : Hid (Seg w (some ad) xs ∧ xs.length = L ∧ L + 4 ≤ 140737488355328) := ⟨hseg, hL, by omega⟩
  have hBW : Blk (w.alloc (.cells #[] 5)) w.heap.size [] 5 := Blk.new w _ _
  have hK0 : Keeps (fun _ => False) w (w.alloc (.cells #[] 5)) := (Keeps.refl _ w).alloc _
  have hown : BR (w.alloc (.cells #[] 5)) (.slice (some ⟨w.heap.size, 0, none⟩) 0 0) [] := ⟨rfl, .inr ⟨w.heap.size, 0, #[], rfl, Nat.zero_le _, hBW, Nat.le_refl _, Nat.zero_le _, rfl, rfl⟩⟩
  obtain ⟨i5, hi, hz, hs, hb⟩ := info_parts Tryz.info5
  have hsegW := hseg.keptB hK0 fun _ _ _ e => e
  obtain ⟨v1, W1, happ, hown1, hfr1, hK1⟩ := append_many 28 5 i5 (.int .u8 0) 1 1 Tryz.underlying28 hi hz hs hb rfl (by omega) _ 0 [] hown ad xs.length c (bvs xs) (by rw [bvs_length, Nat.mul_one]) (by
    intro j v hj
    have hjl : j < xs.length := by rw [← bvs_length]; exact (List.getElem?_eq_some_iff.1 hj).1
    rw [bvs_get xs j hjl] at hj
    cases hj
    rcases hsegW with h0 | ⟨g, o, h0, hc⟩
    · rw [h0] at hjl; simp at hjl
    · cases h0
      rw [addr_add]
      exact hc j hjl) (bvs_one xs) (by unfold maxLen; omega) (by omega)
  have hbr1 : BR W1 v1 xs := by
    have h1 := hown1
    rw [Nat.zero_add, List.nil_append] at h1
    exact h1
  have hfr : ∀ k, v1.ownBlock = some k → w.heap.size ≤ k := by
    intro k hk
    rcases hfr1 with e | ⟨m, e, hm⟩
    · rw [e] at hk; have e2 : w.heap.size = k := Option.some.inj hk; omega
    · rw [e] at hk; cases hk; have := hK0.size; omega
  have hKK : Keeps (fun _ => False) w W1 := hK0.trans hK1 fun k hk e => by have e2 : k = w.heap.size := Option.some.inj e; omega
  have HSum : Hid (Calls _ _ _ _ _) := refSum_any (some ad) c xs W1 (hseg.keptB hKK fun _ _ _ e => e) (by unfold maxLen; omega)
  have HNum : Hid (Calls _ _ _ _ _) := fnumber_any v1 xs (sumN xs : Nat) W1 hbr1 (by have := sumN_lt xs; simp [wN]; omega) (by omega)
  have HF : Hid ((∀ k, v1.ownBlock = some k → w.heap.size ≤ k) ∧ Keeps (fun _ => False) w W1 ∧ nb ((sumN xs : Nat) : Int) = lowB 4 (sumN xs)) := ⟨hfr, hKK, by unfold nb; have := sumN_lt xs; congr 1; omega⟩
  have HAP : Hid (∀ ty, (Builtin.append_ #[28, 28] ty #[.slice (some ⟨w.heap.size, 0, none⟩) 0 0, .slice (some ad) xs.length c]).run Tryz.prog (w.alloc (.cells #[] 5)) = .ok v1 W1) := happ
  rw [hL] at HAP HSum ⊢
  obtain ⟨Q, hQ⟩ : ∃ Q, sumN xs = Q := ⟨_, rfl⟩
  have hQb : Q < 4294967296 := by rw [← hQ]; exact sumN_lt xs
  rw [hQ] at HSum HNum HF ⊢
  have hcvq : IntKind.i64.wrap (Q : Int) = Q := by rw [IntKind.wrap_i64]; omega
  clear h hseg hcap hx hl hL hBW hK0 hown hi hz hs hb hsegW happ hown1 hfr1 hK1 hbr1 hfr hKK hQ
  go_enter Tryz.func14, Tryz.ntmps14
  go_wp2_with (at_builtin; go_must (refine wpList_append_run rfl (.tmp 4) (.tmp 5) 28 28 rfl (.slice (some ⟨w.heap.size, 0, none⟩) 0 0) (.slice (some ad) L c) v1 W1 rfl rfl HAP.out ?_; refine Hid.out ?_))
  unfold Hid
  go_wp2_with fail
  refine HSum.out.mono ?_
  rintro e w2 ⟨rfl, hw⟩
  obtain rfl := hw.symm
  clear hw HSum
  go_wp2_with fail
  refine HNum.out.mono ?_
  rintro e w3 ⟨u', rfl, hbr, hgr⟩
  have HR : Hid (BR w3 u' (xs ++ lowB 4 Q) ∧ (∀ k, u'.ownBlock = some k → w.heap.size ≤ k) ∧ Keeps (fun _ => False) w w3) :=
    ⟨by rw [← HF.out.2.2]; exact hbr, hgr.hi HF.out.2.1.size HF.out.1, HF.out.2.1.trans hgr.kp fun k hk e => by have := HF.out.1 k e.symm; omega⟩
  clear hbr hgr HNum HAP
  go_wp2
  go_ret
  exact ⟨u', rfl, HR.out⟩

/-- What the document's Encode answers. -/
theorem rencode_any (N : Nat) (x : Cfg) (w : World) (hi : x.In w N) (hN : N ≤ w.heap.size) :
    Calls Tryz.prog 5 #[x.v] w fun e w' => Keeps (fun _ => False) w w' ∧ ((x.d = true ∧ e = .returned (.tuple #[.slice none 0 0, .int .i64 112])) ∨ (x.d = false ∧ 16384 < (form x).length ∧ e = .returned (.tuple #[.slice none 0 0, .int .i64 2])) ∨
      (x.d = false ∧ (form x).length ≤ 16384 ∧ ∃ a c, Seg w' a (form x) ∧ ((form x).length ≤ c ∧ c ≤ maxLen) ∧ e = .returned (.tuple #[.slice a (form x).length c, .int .i64 0]))) := by
  have hdD := cfgD x hi.fine
  have hfF := cfgForm x
  obtain ⟨n1, n2, n3, n4, ca, cc, cs, pa, pc, ps, ha, hc, hs⟩ := x
  obtain ⟨X, hX⟩ : ∃ X : Cfg, X = ⟨n1, n2, n3, n4, ca, cc, cs, pa, pc, ps, ha, hc, hs⟩ := ⟨_, rfl⟩
  rw [← hX] at hi hdD hfF ⊢
  obtain ⟨L1, hL1⟩ : ∃ L, cs.length = L := ⟨_, rfl⟩
  obtain ⟨L2, hL2⟩ : ∃ L, ps.length = L := ⟨_, rfl⟩
  obtain ⟨L3, hL3⟩ : ∃ L, hs.length = L := ⟨_, rfl⟩
  have hv : X.v = .agg #[.int .i64 n1, .int .i64 n2, .int .i64 n3, .int .i64 n4, .slice ca L1 cc, .slice pa L2 pc, .slice ha L3 hc] := by rw [hX, ← hL1, ← hL2, ← hL3]
  obtain ⟨C, hC⟩ : ∃ C, C = w.heap.size := ⟨_, rfl⟩
  obtain ⟨W, hW⟩ : ∃ W, W = w.alloc (.cells #[.int .i64 n1, .int .i64 n2, .int .i64 n3, .int .i64 n4, .slice ca L1 cc, .slice pa L2 pc, .slice ha L3 hc] 26) := ⟨_, rfl⟩
  have hKW : Keeps (fun _ => False) w W := by rw [hW]; exact (Keeps.refl _ w).alloc _
  have hBW : Blk W C [.int .i64 n1, .int .i64 n2, .int .i64 n3, .int .i64 n4, .slice ca L1 cc, .slice pa L2 pc, .slice ha L3 hc] 26 := by rw [hW, hC]; exact Blk.new w _ _
  have hIW := hi.below (hKW.below hN fun _ e => e.elim)
  have HA : Hid (X.In W N ∧ N ≤ W.heap.size ∧ Keeps (fun _ => False) w W ∧ Blk W C [.int .i64 n1, .int .i64 n2, .int .i64 n3, .int .i64 n4, .slice ca L1 cc, .slice pa L2 pc, .slice ha L3 hc] 26 ∧ X.d = X.pure.d ∧ form X = pform X.pure ∧ X.v = .agg #[.int .i64 n1, .int .i64 n2, .int .i64 n3, .int .i64 n4, .slice ca L1 cc, .slice pa L2 pc, .slice ha L3 hc]) := ⟨hIW, Nat.le_trans hN hKW.size, hKW, hBW, hdD, hfF, hv⟩
  have HH : Hid (Calls _ _ _ _ _) := holds_any X W hIW.ok
  rw [hv] at HH ⊢
  clear hi hN hX hL1 hL2 hL3 hv hKW hBW hIW hdD hfF
  go_enter Tryz.func5, Tryz.ntmps5
  go_wp2_with fail
  rw [← hW, ← hC]
  clear hW hC
  refine HH.out.mono ?_
  rintro e w1 ⟨rfl, hK1⟩
  clear HH
  have H1 : Hid (Keeps (fun _ => False) W w1) := hK1
  have hB1 := HA.out.2.2.2.1.kept hK1 fun e => e
  cases hd : X.pure.d
  rotate_left
  · have HD : Hid (X.d = true) := by rw [HA.out.2.2.2.2.1]; exact hd
    clear hd hK1 hB1
    go_wp2
    go_ret2
    exact ⟨HA.out.2.2.1.trans H1.out fun _ _ e => e, .inl ⟨HD.out, rfl⟩⟩
  · have HD : Hid (X.d = false) := by rw [HA.out.2.2.2.2.1]; exact hd
    have HFo : Hid (Calls _ _ _ _ _) := form_any X w1 N (Nat.le_trans HA.out.2.1 hK1.size) (HA.out.1.below (hK1.below HA.out.2.1 fun _ e => e.elim)) hd
    rw [HA.out.2.2.2.2.2.2] at HFo
    have c0 := hB1.cell (i := 0) rfl
    have c1 := hB1.cell (i := 1) rfl
    have c2 := hB1.cell (i := 2) rfl
    have c3 := hB1.cell (i := 3) rfl
    have c4 := hB1.cell (i := 4) rfl
    have c5 := hB1.cell (i := 5) rfl
    have c6 := hB1.cell (i := 6) rfl
    clear hd hK1 hB1
    go_wp2_with fail
    refine HFo.out.mono ?_
    rintro e w2 ⟨u2, rfl, hbr2, hfr2, hK2⟩
    clear HFo c0 c1 c2 c3 c4 c5 c6
    have hpl : (pbody X.pure).length ≤ 2221073 := by
      have e1 : pbody X.pure = body X := by unfold pbody body markB; rw [cfgE]
      rw [e1]; exact body_le X
    have hpp : 0 < (pbody X.pure).length := by unfold pbody; rw [List.length_append, lowB_len]; omega
    have HSu : Hid (Calls _ _ _ _ _) := summed_any u2 (pbody X.pure) w2 hbr2 hpp (by omega)
    have H2 : Hid (Keeps (fun _ => False) w w2) := (HA.out.2.2.1.trans H1.out fun _ _ e => e).trans hK2 fun _ _ e => e
    clear hbr2 hfr2 hK2 hpl hpp
    go_wp2_with fail
    refine HSu.out.mono ?_
    rintro e w3 ⟨u3, rfl, hbr3, hfr3, hK3⟩
    have hbr4 : BR w3 u3 (form X) := by rw [HA.out.2.2.2.2.2.1]; exact hbr3
    obtain ⟨a3, cap3, hu3, hseg3, hcap3⟩ := hbr4.slice
    obtain ⟨M, hM⟩ : ∃ M, (form X).length = M := ⟨_, rfl⟩
    rw [hM] at hu3
    subst hu3
    have H3 : Hid (Keeps (fun _ => False) w w3 ∧ Seg w3 a3 (form X) ∧ (form X).length = M ∧ ((form X).length ≤ cap3 ∧ cap3 ≤ maxLen)) := ⟨H2.out.trans hK3 fun _ _ e => e, hseg3, hM, hcap3⟩
    clear HSu hbr3 hfr3 hK3 hbr4 hseg3 hcap3 hM
    by_cases hl : 16384 < M
    · have hl' : (16384 : Int) < M := by omega
      go_wp2
      go_ret2
      exact ⟨H3.out.1, .inr (.inl ⟨HD.out, by have := H3.out.2.2.1; omega, rfl⟩)⟩
    · have hl' : ¬ (16384 : Int) < M := by omega
      go_wp2
      go_ret2
      exact ⟨H3.out.1, .inr (.inr ⟨HD.out, by have := H3.out.2.2.1; omega, a3, cap3, H3.out.2.1, H3.out.2.2.2, by rw [H3.out.2.2.1]; rfl⟩)⟩
end Go.Proofs.YtjadpbkhfclldaaGreat
namespace Go.Proofs.YtjadpbkhfclldaaGreat
open Go.RowKit
set_option linter.unusedVariables false
set_option maxRecDepth 6000

/-- The document's cursor, in block b. -/
structure Cu (w : World) (b : Nat) (g o cap : Nat) (B : List UInt8) (p : Nat) (bad : Bool) : Prop where
  blk : Blk w b [.slice (some ⟨g, o, none⟩) B.length cap, .int .i64 p, .bool bad] 103
  seg : Seg w (some ⟨g, o, none⟩) B
  ne : B ≠ [] → g ≠ b
  cap : B.length ≤ cap ∧ cap ≤ maxLen
  le : p ≤ B.length
theorem Cu.kept {S : Nat → Prop} {w w' : World} {b g o cap p : Nat} {B : List UInt8} {bad : Bool} (h : Cu w b g o cap B p bad) (hK : Keeps S w w') (hb : ¬ S b) (hg : ¬ S g) : Cu w' b g o cap B p bad :=
  ⟨h.blk.kept hK hb, h.seg.keptB hK fun _ y hy => by cases hy; exact hg, h.ne, h.cap, h.le⟩

theorem Cu.badden {w : World} {b g o cap p : Nat} {B : List UInt8} {bad : Bool} (h : Cu w b g o cap B p bad) (k : Nat) : Cu ((w.drewN k).setCell ⟨b, 2, none⟩ (.bool true)) b g o cap B p true ∧ Keeps (· = b) w ((w.drewN k).setCell ⟨b, 2, none⟩ (.bool true)) := by
  have hK : Keeps (· = b) w ((w.drewN k).setCell ⟨b, 2, none⟩ (.bool true)) := ((Keeps.refl (· = b) w).drewN k).setCell _ _ fun _ => rfl
  exact ⟨⟨(h.blk.drewN k).setCell 2 (.bool true), h.seg.keptB hK (fun hn y hy => by cases hy; exact h.ne hn), h.ne, h.cap, h.le⟩, hK⟩
theorem Cu.go {w : World} {b g o cap p n : Nat} {B : List UInt8} {bad : Bool} (h : Cu w b g o cap B p bad) (hn : p + n ≤ B.length) (k : Nat) : Cu ((w.drewN k).setCell ⟨b, 1, none⟩ (.int .i64 ((p : Int) + (n : Int)))) b g o cap B (p + n) bad ∧ Keeps (· = b) w ((w.drewN k).setCell ⟨b, 1, none⟩ (.int .i64 ((p : Int) + (n : Int)))) := by
  have hK : Keeps (· = b) w ((w.drewN k).setCell ⟨b, 1, none⟩ (.int .i64 ((p : Int) + (n : Int)))) := ((Keeps.refl (· = b) w).drewN k).setCell _ _ fun _ => rfl
  refine ⟨⟨?_, h.seg.keptB hK (fun hn y hy => by cases hy; exact h.ne hn), h.ne, h.cap, hn⟩, hK⟩
  have := (h.blk.drewN k).setCell 1 (.int .i64 ((p : Int) + (n : Int)))
  exact this

set_option maxHeartbeats 1000000 in
theorem take_bad (b g o cap p n : Nat) (B : List UInt8) (w : World) (h : Cu w b g o cap B p true) :
    Calls Tryz.prog 50 #[.pointer (some ⟨b, 0, none⟩), .int .i64 n] w fun e w' => e = .returned (.slice none 0 0) ∧ Cu w' b g o cap B p true ∧ Keeps (· = b) w w' := by
  have c2 := h.blk.cell (i := 2) rfl
  have f2 := h.blk.frozen 2
  have HC : Hid (Cu w b g o cap B p true) := h
  obtain ⟨L, hL⟩ : ∃ L, B.length = L := ⟨_, rfl⟩
  have c0 := h.blk.cell (i := 0) rfl
  have c1 := h.blk.cell (i := 1) rfl
  rw [hL] at c0
  clear h hL
  go_enter Tryz.func50, Tryz.ntmps50
  go_wp2
  go_quiet (fail)
  go_wp2
  go_ret
  exact ⟨rfl, HC.out.badden _⟩

set_option maxHeartbeats 1000000 in
theorem take_short (b g o cap p n : Nat) (B : List UInt8) (w : World) (h : Cu w b g o cap B p false) (hn : B.length < p + n) (hnb : n ≤ 4294967296) :
    Calls Tryz.prog 50 #[.pointer (some ⟨b, 0, none⟩), .int .i64 n] w fun e w' => e = .returned (.slice none 0 0) ∧ Cu w' b g o cap B p true ∧ Keeps (· = b) w w' := by
  have c2 := h.blk.cell (i := 2) rfl
  have f2 := h.blk.frozen 2
  have f1 := h.blk.frozen 1
  obtain ⟨L, hL⟩ : ∃ L, B.length = L := ⟨_, rfl⟩
  have c0 := h.blk.cell (i := 0) rfl
  have c1 := h.blk.cell (i := 1) rfl
  rw [hL] at c0
  have hc := h.cap
  unfold maxLen at hc
  have hle := h.le
  rw [hL] at hc hle
  have HC : Hid (Cu w b g o cap B p false) := h
  have e1 : IntKind.i64.wrap ((L : Int) - (p : Int)) = (L : Int) - p := by rw [IntKind.wrap_i64]; omega
  have h1 : (L : Int) - p < n := by omega
  clear h hL hn hc hle
  go_enter Tryz.func50, Tryz.ntmps50
  go_wp2
  go_quiet (fail)
  go_wp2
  go_ret
  exact ⟨rfl, HC.out.badden _⟩

set_option maxHeartbeats 1000000 in
theorem take_ok (b g o cap p n : Nat) (B : List UInt8) (w : World) (h : Cu w b g o cap B p false) (hn : p + n ≤ B.length) :
    Calls Tryz.prog 50 #[.pointer (some ⟨b, 0, none⟩), .int .i64 n] w fun e w' => (∃ x, e = .returned (.slice (some ⟨g, x, none⟩) n (cap - p)) ∧ (x = o + p ∨ n = 0)) ∧ Cu w' b g o cap B (p + n) false ∧ Keeps (· = b) w w' := by
  have c2 := h.blk.cell (i := 2) rfl
  have f2 := h.blk.frozen 2
  have f1 := h.blk.frozen 1
  obtain ⟨L, hL⟩ : ∃ L, B.length = L := ⟨_, rfl⟩
  have c0 := h.blk.cell (i := 0) rfl
  have c1 := h.blk.cell (i := 1) rfl
  rw [hL] at c0
  have hc := h.cap
  unfold maxLen at hc
  have hle := h.le
  rw [hL] at hc hle
  have HC : Hid (Cu w b g o cap B p false ∧ p + n ≤ B.length) := ⟨h, hn⟩
  have e1 : IntKind.i64.wrap ((L : Int) - (p : Int)) = (L : Int) - p := by rw [IntKind.wrap_i64]; omega
  have e2 : IntKind.i64.wrap ((p : Int) + (n : Int)) = (p : Int) + n := by rw [IntKind.wrap_i64]; omega
  have h1 : ¬ (L : Int) - p < n := by omega
  have h2 : (p : Int) ≤ (p : Int) + n := by omega
  have h3 : (p : Int) + n ≤ cap := by omega
  clear h hL hn
  go_enter Tryz.func50, Tryz.ntmps50
  go_wp2
  go_quiet (fail)
  go_wp2
  go_quiet (fail)
  go_wp2
  all_goals go_ret
  all_goals first
    | exact ⟨⟨_, rfl, by omega⟩, HC.out.1.go HC.out.2 _⟩
    | (have hcp : cap = p := by omega
       have h9 := HC.out
       rw [hcp] at h9
       exact ⟨⟨_, rfl, by omega⟩, h9.1.go h9.2 _⟩)

set_option maxHeartbeats 1000000 in
theorem take_short0 (b p n L cap : Nat) (a : Option Addr) (w : World) (h : Blk w b [.slice a L cap, .int .i64 p, .bool false] 103) (hn : L < p + n) (hb : p ≤ L ∧ L ≤ 9223372036854775807 ∧ n ≤ 4294967296) :
    Calls Tryz.prog 50 #[.pointer (some ⟨b, 0, none⟩), .int .i64 n] w fun e w' => e = .returned (.slice none 0 0) ∧ Keeps (· = b) w w' := by
  have c2 := h.cell (i := 2) rfl
  have f2 := h.frozen 2
  have f1 := h.frozen 1
  have c0 := h.cell (i := 0) rfl
  have c1 := h.cell (i := 1) rfl
  have e1 : IntKind.i64.wrap ((L : Int) - (p : Int)) = (L : Int) - p := by rw [IntKind.wrap_i64]; omega
  have h1 : (L : Int) - p < n := by omega
  clear h hn hb
  go_enter Tryz.func50, Tryz.ntmps50
  go_wp2
  go_quiet (fail)
  go_wp2
  go_ret
  exact ⟨rfl, ((Keeps.refl (· = b) w).drewN _).setCell _ _ fun _ => rfl⟩
end Go.Proofs.YtjadpbkhfclldaaGreat
