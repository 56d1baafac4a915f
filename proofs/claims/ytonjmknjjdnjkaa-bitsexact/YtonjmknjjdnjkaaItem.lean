import Derived.Test.YtonjmknjjdnjkaaSum
namespace Go.Proofs.Ytonjmknjjdnjkaa
open Go.RowKit
set_option linter.unusedVariables false

/-- An item's bytes. -/
def encI (k : Int) (N : Nat) (s : ByteArray) : List UInt8 :=
  if pickZ k 4 = 0 then lowB 1 (N % 256) else if pickZ k 4 = 1 then lowB 4 (N % 4294967296) else if pickZ k 4 = 2 then lowB 8 N else lowB 4 s.size ++ s.data.toList

theorem pick4 (k : Int) : pickZ k 4 = 0 ∨ pickZ k 4 = 1 ∨ pickZ k 4 = 2 ∨ pickZ k 4 = 3 := by
  have := pickZ_bd k 4 (by omega)
  omega

theorem encI_len (k : Int) (N : Nat) (s : ByteArray) : 1 ≤ (encI k N s).length ∧ (encI k N s).length ≤ 8 + s.size := by
  have hs : s.data.toList.length = s.size := rfl
  unfold encI
  rcases pick4 k with h | h | h | h <;> simp [h, lowB_length, hs] <;> omega

theorem wr_box {w w1 : World} {b : Nat} {g : Option Nat} {xs : List UInt8} (h : Wr w b g xs) (hK : Keeps (fun _ => False) w w1) : Wr w1 b g xs := by
  cases g with
  | none => exact ⟨h.1, h.2.kept hK (fun e => e)⟩
  | some g =>
    obtain ⟨rest, a1, a2, a3, a4⟩ := h
    exact ⟨rest, a1, a2.kept hK (fun e => e), a3.kept hK (fun e => e), a4⟩

theorem keeps_box {w w1 w2 : World} {b : Nat} {g : Option Nat} (hK : Keeps (fun _ => False) w w1) (h : Keeps (fun k => k = b ∨ some k = g) w1 w2) : Keeps (fun k => k = b ∨ some k = g) w w2 :=
  (hK.mono fun _ _ h => h.elim).trans h fun _ _ h => h

set_option maxHeartbeats 400000 in
theorem write_any (b N : Nat) (k : Int) (s : ByteArray) (g : Option Nat) (xs : List UInt8) (w : World) (h : Wr w b g xs)
    (hk : -9223372036854775808 ≤ k) (hk' : k ≤ 9223372036854775807) (hN : N < 18446744073709551616) (hs : s.size < 4294967296) (hn : xs.length + 8 + s.size ≤ 140737488355328) :
    Calls Try.prog 23 #[.pointer (some ⟨b, 0, none⟩), .agg #[.int .i64 k, .int .u64 N, .string s]] w fun e w' => e = .returned (.tuple #[]) ∧ ∃ g', Wr w' b (some g') (xs ++ encI k N s) ∧ (g = some g' ∨ w.heap.size ≤ g') ∧ Keeps (fun k => k = b ∨ some k = g) w w' := by
  have HPK : Hid (∀ w, Calls Try.prog 32 #[.int .i64 k, .int .i64 4] w fun e w' => e = .returned (.int .i64 (pickZ k 4)) ∧ w' = w) := fun w => pick_any k 4 w (by omega) hk hk' (by omega)
  obtain ⟨W1, hW1⟩ : ∃ W1, W1 = w.alloc (.cells #[.int .i64 k, .int .u64 N, .string s] 63) := ⟨_, rfl⟩
  have hK1 : Keeps (fun _ => False) w W1 := by rw [hW1]; exact (Keeps.refl _ w).alloc _
  have hB : Blk W1 w.heap.size [.int .i64 k, .int .u64 N, .string s] 63 := by rw [hW1]; exact Blk.new w _ 63
  have c1 := hB.cell (i := 1) rfl
  have c2 := hB.cell (i := 2) rfl
  have hwr := wr_box h hK1
  have HW : Hid (Wr W1 b g xs) := hwr
  have HK : Hid (Keeps (fun _ => False) w W1) := hK1
  obtain ⟨A, hA⟩ : ∃ A, A = N % 256 := ⟨_, rfl⟩
  obtain ⟨B, hB'⟩ : ∃ B, B = N % 4294967296 := ⟨_, rfl⟩
  have m8 : ((N : Int) % 256) = (A : Int) := by omega
  have m32 : ((N : Int) % 4294967296) = (B : Int) := by omega
  have hA1 : A < 256 := by omega
  have hB1 : B < 4294967296 := by omega
  obtain ⟨Z, hZ⟩ : ∃ Z, Z = pickZ k 4 := ⟨_, rfl⟩
  have hZ4 := pick4 k
  have HE : Hid (encI k N s = if Z = 0 then lowB 1 A else if Z = 1 then lowB 4 B else if Z = 2 then lowB 8 N else lowB 4 s.size ++ s.data.toList) := by
    show encI k N s = _
    unfold encI; rw [← hZ, ← hA, ← hB']
  rw [← hZ] at HPK hZ4
  have HN : Hid (xs.length + 8 + s.size ≤ 140737488355328) := hn
  clear hK1 hB hwr h hZ hn hk hk' hA hB'
  go_enter Try.func23, Try.ntmps23
  go_wp2_with fail
  refine (HPK.out _).mono ?_
  rintro e w' ⟨rfl, hw'⟩; obtain rfl := hw'.symm
  rw [← hW1]
  clear hW1
  rcases hZ4 with rfl | rfl | rfl | rfl
  · have e : encI k N s = lowB 1 A := HE.out
    go_wp2_with fail
    refine (wU8_any b A g xs _ HW.out (by have := HN.out; omega) hA1).mono ?_
    rintro e w2 ⟨rfl, g', h1, h2, h3⟩
    go_wp2
    go_end0
    refine ⟨rfl, g', ?_, ?_, keeps_box HK.out h3⟩
    · rw [HE.out]; exact h1
    · rcases h2 with h | h
      · exact .inl h
      · exact .inr (Nat.le_trans HK.out.size h)
  · go_wp2_with fail
    refine (wU32_any b B g xs _ HW.out (by have := HN.out; omega) hB1).mono ?_
    rintro e w2 ⟨rfl, g', h1, h2, h3⟩
    go_wp2
    go_end0
    refine ⟨rfl, g', ?_, ?_, keeps_box HK.out h3⟩
    · rw [HE.out]; exact h1
    · rcases h2 with h | h
      · exact .inl h
      · exact .inr (Nat.le_trans HK.out.size h)
  · go_wp2_with fail
    refine (wU64_any b N g xs _ HW.out (by have := HN.out; omega) hN).mono ?_
    rintro e w2 ⟨rfl, g', h1, h2, h3⟩
    go_wp2
    go_end0
    refine ⟨rfl, g', ?_, ?_, keeps_box HK.out h3⟩
    · rw [HE.out]; exact h1
    · rcases h2 with h | h
      · exact .inl h
      · exact .inr (Nat.le_trans HK.out.size h)
  · go_wp2_with fail
    refine (wText_any b s g xs _ HW.out hs (by have := HN.out; omega)).mono ?_
    rintro e w2 ⟨rfl, g', h1, h2, h3⟩
    go_wp2
    go_end0
    refine ⟨rfl, g', ?_, ?_, keeps_box HK.out h3⟩
    · rw [HE.out]; exact h1
    · rcases h2 with h | h
      · exact .inl h
      · exact .inr (Nat.le_trans HK.out.size h)
theorem rd_box {w w1 : World} {b g p : Nat} {er : Int} {xs : List UInt8} (h : Rd w b g xs p er) (hK : Keeps (fun _ => False) w w1) : Rd w1 b g xs p er := h.kept hK (fun e => e) (fun e => e)
theorem keeps_rbox {w w1 w2 : World} {b : Nat} (hK : Keeps (fun _ => False) w w1) (h : Keeps (· = b) w1 w2) : Keeps (· = b) w w2 :=
  (hK.mono fun _ _ h => h.elim).trans h fun _ _ h => h

theorem beq_dec (a b : Nat) : ((a : Int) == (b : Int)) = decide (a = b) := by
  by_cases h : a = b
  · simp [h]
  · have : ¬ ((a : Int) = (b : Int)) := by omega
    rw [decide_eq_false h]
    exact beq_false_of_ne this

theorem beq_text (l : List UInt8) (s : ByteArray) : (l == s.toList) = decide (l = s.data.toList) := by
  rw [ByteArray.toList_eq]
  by_cases h : l = s.data.toList
  · simp [h]
  · rw [decide_eq_false h]
    exact beq_false_of_ne h

/-- What 'reads' answers of an item, and where it leaves the reader. -/
def readB (xs : List UInt8) (p : Nat) (er k : Int) (N : Nat) (s : ByteArray) : Bool :=
  if pickZ k 4 = 0 then decide (numV xs p er 1 = N % 256) else if pickZ k 4 = 1 then decide (numV xs p er 4 = N % 4294967296) else if pickZ k 4 = 2 then decide (numV xs p er 8 = N) else decide (txtV xs p er s.size = s.data.toList)
def readP (xs : List UInt8) (p : Nat) (er k : Int) (s : ByteArray) : Nat :=
  if pickZ k 4 = 0 then numP xs p er 1 else if pickZ k 4 = 1 then numP xs p er 4 else if pickZ k 4 = 2 then numP xs p er 8 else txtP xs p er s.size
def readE (xs : List UInt8) (p : Nat) (er k : Int) (s : ByteArray) : Int :=
  if pickZ k 4 = 0 then numE xs p er 1 else if pickZ k 4 = 1 then numE xs p er 4 else if pickZ k 4 = 2 then numE xs p er 8 else txtE xs p er s.size

set_option maxHeartbeats 400000 in
theorem reads_any (b g p N : Nat) (er k : Int) (s : ByteArray) (xs : List UInt8) (w : World) (h : Rd w b g xs p er)
    (hk : -9223372036854775808 ≤ k) (hk' : k ≤ 9223372036854775807) (hN : N < 18446744073709551616) (hs : s.size ≤ maxLen) :
    Calls Try.prog 27 #[.pointer (some ⟨b, 0, none⟩), .agg #[.int .i64 k, .int .u64 N, .string s]] w fun e w' => e = .returned (.bool (readB xs p er k N s)) ∧ Rd w' b g xs (readP xs p er k s) (readE xs p er k s) ∧ Keeps (· = b) w w' := by
  have HPK : Hid (∀ w, Calls Try.prog 32 #[.int .i64 k, .int .i64 4] w fun e w' => e = .returned (.int .i64 (pickZ k 4)) ∧ w' = w) := fun w => pick_any k 4 w (by omega) hk hk' (by omega)
  obtain ⟨W1, hW1⟩ : ∃ W1, W1 = w.alloc (.cells #[.int .i64 k, .int .u64 N, .string s] 63) := ⟨_, rfl⟩
  have hK1 : Keeps (fun _ => False) w W1 := by rw [hW1]; exact (Keeps.refl _ w).alloc _
  have hB : Blk W1 w.heap.size [.int .i64 k, .int .u64 N, .string s] 63 := by rw [hW1]; exact Blk.new w _ 63
  have hlt : w.heap.size < W1.heap.size := by rw [hW1]; simp
  have hne : w.heap.size ≠ b := by have := h.blk.lt; omega
  have hrd := rd_box h hK1
  have HR : Hid (Rd W1 b g xs p er) := hrd
  have HK : Hid (Keeps (fun _ => False) w W1) := hK1
  have HBK : Hid (Blk W1 w.heap.size [.int .i64 k, .int .u64 N, .string s] 63) := hB
  obtain ⟨A, hA⟩ : ∃ A, A = N % 256 := ⟨_, rfl⟩
  obtain ⟨B, hB'⟩ : ∃ B, B = N % 4294967296 := ⟨_, rfl⟩
  have m8 : ((N : Int) % 256) = (A : Int) := by omega
  have m32 : ((N : Int) % 4294967296) = (B : Int) := by omega
  obtain ⟨Z, hZ⟩ : ∃ Z, Z = pickZ k 4 := ⟨_, rfl⟩
  have hZ4 := pick4 k
  unfold maxLen at hs
  unfold readB readP readE
  rw [← hZ, ← hA, ← hB']
  rw [← hZ] at HPK hZ4
  clear hK1 hB hrd h hZ hk hk' hA hB'
  rcases hZ4 with rfl | rfl | rfl | rfl
  · go_enter Try.func27, Try.ntmps27
    go_wp2_with fail
    refine (HPK.out _).mono ?_
    rintro e w' ⟨rfl, hw'⟩; obtain rfl := hw'.symm
    rw [← hW1]
    clear hW1
    have c1' := HBK.out.cell (i := 1) rfl
    have c2' := HBK.out.cell (i := 2) rfl
    go_wp2_with fail
    refine (rU8_any b g p er xs _ HR.out).mono ?_
    rintro e w2 ⟨rfl, hr, hK2⟩
    clear c1' c2'
    have c1 := (HBK.out.kept hK2 hne).cell (i := 1) rfl
    have c2 := (HBK.out.kept hK2 hne).cell (i := 2) rfl
    go_wp2
    go_ret
    exact ⟨ret_bool2 (beq_dec _ _), hr, keeps_rbox HK.out hK2⟩
  · go_enter Try.func27, Try.ntmps27
    go_wp2_with fail
    refine (HPK.out _).mono ?_
    rintro e w' ⟨rfl, hw'⟩; obtain rfl := hw'.symm
    rw [← hW1]
    clear hW1
    have c1' := HBK.out.cell (i := 1) rfl
    have c2' := HBK.out.cell (i := 2) rfl
    go_wp2_with fail
    refine (rU32_any b g p er xs _ HR.out).mono ?_
    rintro e w2 ⟨rfl, hr, hK2⟩
    clear c1' c2'
    have c1 := (HBK.out.kept hK2 hne).cell (i := 1) rfl
    have c2 := (HBK.out.kept hK2 hne).cell (i := 2) rfl
    go_wp2
    go_ret
    exact ⟨ret_bool2 (beq_dec _ _), hr, keeps_rbox HK.out hK2⟩
  · go_enter Try.func27, Try.ntmps27
    go_wp2_with fail
    refine (HPK.out _).mono ?_
    rintro e w' ⟨rfl, hw'⟩; obtain rfl := hw'.symm
    rw [← hW1]
    clear hW1
    have c1' := HBK.out.cell (i := 1) rfl
    have c2' := HBK.out.cell (i := 2) rfl
    go_wp2_with fail
    refine (rU64_any b g p er xs _ HR.out).mono ?_
    rintro e w2 ⟨rfl, hr, hK2⟩
    clear c1' c2'
    have c1 := (HBK.out.kept hK2 hne).cell (i := 1) rfl
    have c2 := (HBK.out.kept hK2 hne).cell (i := 2) rfl
    go_wp2
    go_ret
    exact ⟨ret_bool2 (beq_dec _ _), hr, keeps_rbox HK.out hK2⟩
  · go_enter Try.func27, Try.ntmps27
    go_wp2_with fail
    refine (HPK.out _).mono ?_
    rintro e w' ⟨rfl, hw'⟩; obtain rfl := hw'.symm
    rw [← hW1]
    clear hW1
    have c1' := HBK.out.cell (i := 1) rfl
    have c2' := HBK.out.cell (i := 2) rfl
    go_wp2_with fail
    refine (rText_any b g p er s.size xs _ HR.out).mono ?_
    rintro e w2 ⟨rfl, hr, hK2⟩
    clear c1' c2'
    have c1 := (HBK.out.kept hK2 hne).cell (i := 1) rfl
    have c2 := (HBK.out.kept hK2 hne).cell (i := 2) rfl
    go_wp2
    go_ret
    exact ⟨ret_bool2 (beq_text _ _), hr, keeps_rbox HK.out hK2⟩

theorem highN_lowB (k N : Nat) : highN (lowB k N) = N % 256 ^ k := by
  induction k with
  | zero => simp [lowB, highN, Nat.mod_one]
  | succ k ih =>
    have e : (UInt8.ofNat (N / 256 ^ k)).toNat = N / 256 ^ k % 256 := UInt8.toNat_ofNat'
    have d : N % (256 ^ k * 256) = N % 256 ^ k + 256 ^ k * (N / 256 ^ k % 256) := Nat.mod_mul
    rw [lowB_succ, highN_snoc, lowB_length, ih, e, Nat.pow_succ, d, Nat.mul_comm (256 ^ k)]

/-- An item stands at p of B. -/
def Stands (B : List UInt8) (p : Nat) (E : List UInt8) : Prop := p + E.length ≤ B.length ∧ (B.drop p).take E.length = E

theorem stands_cut {B E : List UInt8} {p n : Nat} (h : Stands B p E) (hn : p + E.length ≤ n) : ((B.take n).drop p).take E.length = E := by
  rw [List.drop_take, List.take_take, Nat.min_eq_left (by omega)]
  exact h.2

theorem stands_part {B E : List UInt8} {p n : Nat} (h : Stands B p E) (k : Nat) (hk : k ≤ E.length) (hn : p + k ≤ n) : ((B.take n).drop p).take k = E.take k := by
  rw [List.drop_take, List.take_take, Nat.min_eq_left (by omega)]
  have := congrArg (List.take k) h.2
  rw [List.take_take, Nat.min_eq_left hk] at this
  exact this

theorem num_good {B E : List UInt8} {p n k M : Nat} (h : Stands B p E) (hE : E = lowB k M) (hM : M < 256 ^ k) (hn : p + E.length ≤ n) (hn' : n ≤ B.length) :
    numV (B.take n) p 0 k = M ∧ numP (B.take n) p 0 k = p + E.length ∧ numE (B.take n) p 0 k = 0 := by
  have hl : E.length = k := by rw [hE, lowB_length]
  have hlen : (B.take n).length = n := by rw [List.length_take, Nat.min_eq_left hn']
  have hs : ¬ (B.take n).length < p + k := by omega
  have e := stands_cut h hn
  rw [hl] at e
  refine ⟨?_, ?_, ?_⟩
  · unfold numV
    rw [if_neg (by simp), if_neg hs, e, hE, highN_lowB, Nat.mod_eq_of_lt hM]
  · unfold numP
    rw [if_neg (by simp), if_neg hs, hl]
  · unfold numE
    rw [if_neg (by simp), if_neg hs]

theorem num_bad {B : List UInt8} {p n k : Nat} (hn : n < p + k) (hn' : n ≤ B.length) : numV (B.take n) p 0 k = 0 ∧ numP (B.take n) p 0 k = p ∧ numE (B.take n) p 0 k = 12 := by
  have hlen : (B.take n).length = n := by rw [List.length_take, Nat.min_eq_left hn']
  have hs : (B.take n).length < p + k := by omega
  refine ⟨?_, ?_, ?_⟩
  · unfold numV; rw [if_neg (by simp), if_pos hs]
  · unfold numP; rw [if_neg (by simp), if_pos hs]
  · unfold numE; rw [if_neg (by simp), if_pos hs]

theorem num_fault (xs : List UInt8) (p k : Nat) : numV xs p 12 k = 0 ∧ numP xs p 12 k = p ∧ numE xs p 12 k = 12 := by
  refine ⟨?_, ?_, ?_⟩
  · unfold numV; rw [if_pos (by decide)]
  · unfold numP; rw [if_pos (by decide)]
  · unfold numE; rw [if_pos (by decide)]

theorem txt_good {B E : List UInt8} {p n : Nat} {s : ByteArray} (h : Stands B p E) (hE : E = lowB 4 s.size ++ s.data.toList) (hs : s.size < 4294967296) (hn : p + E.length ≤ n) (hn' : n ≤ B.length) :
    txtV (B.take n) p 0 s.size = s.data.toList ∧ txtP (B.take n) p 0 s.size = p + E.length ∧ txtE (B.take n) p 0 s.size = 0 := by
  have hsl : s.data.toList.length = s.size := rfl
  have hl : E.length = 4 + s.size := by rw [hE, List.length_append, lowB_length, hsl]
  have hlen : (B.take n).length = n := by rw [List.length_take, Nat.min_eq_left hn']
  have hN : txtN (B.take n) p = s.size := by
    unfold txtN
    rw [stands_part h 4 (by omega) (by omega), hE, List.take_append_of_le_length (by rw [lowB_length]; exact Nat.le_refl _), List.take_of_length_le (by rw [lowB_length]; exact Nat.le_refl _), highN_lowB]
    exact Nat.mod_eq_of_lt hs
  have hE0 : txtE (B.take n) p 0 s.size = 0 := by
    unfold txtE
    rw [hN, if_neg (by simp), if_neg (by omega), if_neg (by omega), if_neg (by omega)]
  refine ⟨?_, ?_, hE0⟩
  · unfold txtV
    rw [hE0, if_pos rfl, hN]
    have e := stands_cut h hn
    have e2 := congrArg (List.drop 4) e
    rw [List.drop_take, List.drop_drop, hl, Nat.add_sub_cancel_left] at e2
    rw [e2, hE, List.drop_append, lowB_length, List.drop_of_length_le (by rw [lowB_length]; exact Nat.le_refl _)]
    simp
  · unfold txtP
    rw [hE0, if_pos rfl, hN, hl, Nat.add_assoc]

theorem txt_bad {B E : List UInt8} {p n : Nat} {s : ByteArray} (h : Stands B p E) (hE : E = lowB 4 s.size ++ s.data.toList) (hs : s.size < 4294967296) (hn : n < p + E.length) (hn' : n ≤ B.length) :
    txtV (B.take n) p 0 s.size = [] ∧ txtP (B.take n) p 0 s.size = p ∧ txtE (B.take n) p 0 s.size = 12 := by
  have hsl : s.data.toList.length = s.size := rfl
  have hl : E.length = 4 + s.size := by rw [hE, List.length_append, lowB_length, hsl]
  have hlen : (B.take n).length = n := by rw [List.length_take, Nat.min_eq_left hn']
  have hE0 : txtE (B.take n) p 0 s.size = 12 := by
    unfold txtE
    rw [if_neg (by simp)]
    by_cases h4 : (B.take n).length < p + 4
    · rw [if_pos h4]
    · have hN : txtN (B.take n) p = s.size := by
        unfold txtN
        rw [stands_part h 4 (by omega) (by omega), hE, List.take_append_of_le_length (by rw [lowB_length]; exact Nat.le_refl _), List.take_of_length_le (by rw [lowB_length]; exact Nat.le_refl _), highN_lowB]
        exact Nat.mod_eq_of_lt hs
      rw [if_neg h4, hN, if_neg (by omega), if_pos (by omega)]
  refine ⟨?_, ?_, hE0⟩
  · unfold txtV; rw [hE0, if_neg (by decide)]
  · unfold txtP; rw [hE0, if_neg (by decide)]

theorem txt_fault (xs : List UInt8) (p : Nat) (m : Int) : txtV xs p 12 m = [] ∧ txtP xs p 12 m = p ∧ txtE xs p 12 m = 12 := by
  have hE0 : txtE xs p 12 m = 12 := by unfold txtE; rw [if_pos (by decide)]
  refine ⟨?_, ?_, hE0⟩
  · unfold txtV; rw [hE0, if_neg (by decide)]
  · unfold txtP; rw [hE0, if_neg (by decide)]

theorem read_good {B : List UInt8} {p n N : Nat} {k : Int} {s : ByteArray} (h : Stands B p (encI k N s)) (hN : N < 18446744073709551616) (hs : s.size < 4294967296) (hn : p + (encI k N s).length ≤ n) (hn' : n ≤ B.length) :
    readB (B.take n) p 0 k N s = true ∧ readP (B.take n) p 0 k s = p + (encI k N s).length ∧ readE (B.take n) p 0 k s = 0 := by
  unfold readB readP readE
  rcases pick4 k with hk | hk | hk | hk
  · have e : encI k N s = lowB 1 (N % 256) := by unfold encI; rw [if_pos hk]
    have := num_good h e (by omega) hn hn'
    rw [if_pos hk, if_pos hk, if_pos hk, this.1, this.2.1, this.2.2]
    simp
  · have e : encI k N s = lowB 4 (N % 4294967296) := by unfold encI; rw [hk]; rfl
    have := num_good h e (by omega) hn hn'
    rw [hk]
    simp [this.1, this.2.1, this.2.2]
  · have e : encI k N s = lowB 8 N := by unfold encI; rw [hk]; rfl
    have := num_good h e (by omega) hn hn'
    rw [hk]
    simp [this.1, this.2.1, this.2.2]
  · have e : encI k N s = lowB 4 s.size ++ s.data.toList := by unfold encI; rw [hk]; rfl
    have := txt_good h e hs hn hn'
    rw [hk]
    simp [this.1, this.2.1, this.2.2]

/-- An item's kind alone, read where there is nothing: zero. -/
theorem read_bad {B : List UInt8} {p n N : Nat} {k : Int} {s : ByteArray} (h : Stands B p (encI k N s)) (hk3 : pickZ k 4 ≠ 3) (hn : n < p + (encI k N s).length) (hn' : n ≤ B.length) :
    readB (B.take n) p 0 k 0 ⟨#[]⟩ = true ∧ readP (B.take n) p 0 k ⟨#[]⟩ = p ∧ readE (B.take n) p 0 k ⟨#[]⟩ = 12 := by
  unfold readB readP readE
  rcases pick4 k with hk | hk | hk | hk
  · have e : encI k N s = lowB 1 (N % 256) := by unfold encI; rw [if_pos hk]
    rw [e, lowB_length] at hn
    have := num_bad (B := B) hn hn'
    rw [hk]
    simp [this.1, this.2.1, this.2.2]
  · have e : encI k N s = lowB 4 (N % 4294967296) := by unfold encI; rw [hk]; rfl
    rw [e, lowB_length] at hn
    have := num_bad (B := B) hn hn'
    rw [hk]
    simp [this.1, this.2.1, this.2.2]
  · have e : encI k N s = lowB 8 N := by unfold encI; rw [hk]; rfl
    rw [e, lowB_length] at hn
    have := num_bad (B := B) hn hn'
    rw [hk]
    simp [this.1, this.2.1, this.2.2]
  · exact absurd hk hk3

theorem read_fault (xs : List UInt8) (p : Nat) (k : Int) (hk3 : pickZ k 4 ≠ 3) :
    readB xs p 12 k 0 ⟨#[]⟩ = true ∧ readP xs p 12 k ⟨#[]⟩ = p ∧ readE xs p 12 k ⟨#[]⟩ = 12 := by
  unfold readB readP readE
  rcases pick4 k with hk | hk | hk | hk
  · have := num_fault xs p 1
    rw [hk]
    simp [this.1, this.2.1, this.2.2]
  · have := num_fault xs p 4
    rw [hk]
    simp [this.1, this.2.1, this.2.2]
  · have := num_fault xs p 8
    rw [hk]
    simp [this.1, this.2.1, this.2.2]
  · exact absurd hk hk3

set_option maxHeartbeats 400000 in
theorem zero_any (b g p N : Nat) (er k : Int) (s : ByteArray) (xs : List UInt8) (w : World) (h : Rd w b g xs p er)
    (hk : -9223372036854775808 ≤ k) (hk' : k ≤ 9223372036854775807) :
    Calls Try.prog 34 #[.pointer (some ⟨b, 0, none⟩), .agg #[.int .i64 k, .int .u64 N, .string s]] w fun e w' => e = .returned (.bool (readB xs p er k 0 ⟨#[]⟩)) ∧ Rd w' b g xs (readP xs p er k ⟨#[]⟩) (readE xs p er k ⟨#[]⟩) ∧ Keeps (· = b) w w' := by
  obtain ⟨W1, hW1⟩ : ∃ W1, W1 = w.alloc (.cells #[.int .i64 k, .int .u64 N, .string s] 63) := ⟨_, rfl⟩
  have hK1 : Keeps (fun _ => False) w W1 := by rw [hW1]; exact (Keeps.refl _ w).alloc _
  have hrd := rd_box h hK1
  have HC : Hid (Calls _ _ _ _ _) := reads_any b g p 0 er k ⟨#[]⟩ xs W1 hrd hk hk' (by decide) (by decide)
  have HK : Hid (Keeps (fun _ => False) w W1) := hK1
  clear hK1 hrd h hk hk'
  go_enter Try.func34, Try.ntmps34
  go_wp2_with fail
  rw [← hW1]
  refine HC.out.mono ?_
  rintro e w2 ⟨rfl, hr, hK2⟩
  clear hW1
  go_wp2
  go_ret
  exact ⟨rfl, hr, keeps_rbox HK.out hK2⟩
end Go.Proofs.Ytonjmknjjdnjkaa
