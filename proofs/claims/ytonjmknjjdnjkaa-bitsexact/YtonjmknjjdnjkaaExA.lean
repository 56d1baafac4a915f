import Derived.Test.YtonjmknjjdnjkaaRefA
namespace Go.Proofs.Ytonjmknjjdnjkaa
open Go.RowKit
set_option linter.unusedVariables false

/-- An operation of a script, as its cells stand. -/
structure OpC where
  k : Int
  who : Int
  a : Int
  b : Int
  W : Nat
  V : Nat
  N : Nat
  pb : Option Addr
  lb : Nat
  cb : Nat
  pw : Option Addr
  lw : Nat
  cw : Nat
  s : ByteArray
def OpC.cells (o : OpC) : Array Value := #[.int .i64 o.k, .int .i64 o.who, .int .i64 o.a, .int .i64 o.b, .int .u32 o.W, .int .u32 o.V, .int .u64 o.N, .slice o.pb o.lb o.cb, .slice o.pw o.lw o.cw, .string o.s]
def OpC.agg (o : OpC) : Value := .agg #[.int .i64 o.k, .int .i64 o.who, .int .i64 o.a, .int .i64 o.b, .int .u32 o.W, .int .u32 o.V, .int .u64 o.N, .slice o.pb o.lb o.cb, .slice o.pw o.lw o.cw, .string o.s]
def in64 (n : Int) : Prop := -9223372036854775808 ≤ n ∧ n ≤ 9223372036854775807

/-- What Field answers, the program's and the document's. -/
theorem field_both (x : Nat) (f n : Int) (hx : x < 4294967296) (hn : n ≤ 9223372036854775807) :
    ∃ v er : Int, (∀ w, Calls Try.prog 18 #[.int .u32 x, .int .i64 f, .int .i64 n] w fun e w' => e = .returned (.tuple #[.int .u32 v, .int .i64 er]) ∧ Keeps (fun _ => False) w w') ∧
      (∀ w, Calls Try.prog 49 #[.int .u32 x, .int .i64 f, .int .i64 n] w fun e w' => e = .returned (.tuple #[.int .u32 v, .int .i64 er]) ∧ w' = w) := by
  by_cases h : f < 0 ∨ n < 1 ∨ 32 - n < f
  · exact ⟨0, 10, fun w => (field_no x f n w hn h).mono fun e w' ⟨h1, h2⟩ => ⟨h1, h2 ▸ Keeps.refl _ _⟩, fun w => refField_no x f n w h⟩
  · obtain ⟨F, rfl⟩ : ∃ F : Nat, f = (F : Int) := ⟨f.toNat, by omega⟩
    obtain ⟨M, rfl⟩ : ∃ M : Nat, n = (M : Int) := ⟨n.toNat, by omega⟩
    exact ⟨_, 0, fun w => (field_yes x F M w hx (by omega) (by omega)).mono fun e w' ⟨h1, k, h2⟩ => ⟨h1, h2 ▸ (Keeps.refl _ w).drewN k⟩, fun w => refField_yes x F M w hx (by omega) (by omega)⟩

theorem put_both (x v : Nat) (f n : Int) (hx : x < 4294967296) (hv : v < 4294967296) (hn : n ≤ 9223372036854775807) :
    ∃ r er : Int, (∀ w, Calls Try.prog 17 #[.int .u32 x, .int .i64 f, .int .i64 n, .int .u32 v] w fun e w' => e = .returned (.tuple #[.int .u32 r, .int .i64 er]) ∧ Keeps (fun _ => False) w w') ∧
      (∀ w, Calls Try.prog 50 #[.int .u32 x, .int .i64 f, .int .i64 n, .int .u32 v] w fun e w' => e = .returned (.tuple #[.int .u32 r, .int .i64 er]) ∧ w' = w) := by
  by_cases h : f < 0 ∨ n < 1 ∨ 32 - n < f
  · exact ⟨0, 10, fun w => (put_no x v f n w hn h).mono fun e w' ⟨h1, h2⟩ => ⟨h1, h2 ▸ Keeps.refl _ _⟩, fun w => refPut_no x v f n w h⟩
  · obtain ⟨F, rfl⟩ : ∃ F : Nat, f = (F : Int) := ⟨f.toNat, by omega⟩
    obtain ⟨M, rfl⟩ : ∃ M : Nat, n = (M : Int) := ⟨n.toNat, by omega⟩
    by_cases h4 : v < 2 ^ M
    · exact ⟨_, 0, fun w => (put_yes x F M v w hx (by omega) (by omega) h4).mono fun e w' ⟨h1, k, h2⟩ => ⟨h1, h2 ▸ (Keeps.refl _ w).drewN k⟩, fun w => refPut_yes x F M v w hx (by omega) (by omega) h4⟩
    · exact ⟨0, 11, fun w => (put_val x F M v w (by omega) (by omega) (by omega)).mono fun e w' ⟨h1, h2⟩ => ⟨h1, h2 ▸ Keeps.refl _ _⟩, fun w => refPut_val x F M v w (by omega) (by omega) (by omega) hv⟩

theorem signed_both (x : Nat) (n : Int) (hx : x < 4294967296) (hn : n ≤ 9223372036854775807) :
    ∃ r er : Int, (∀ w, Calls Try.prog 20 #[.int .u32 x, .int .i64 n] w fun e w' => e = .returned (.tuple #[.int .i64 r, .int .i64 er]) ∧ Keeps (fun _ => False) w w') ∧
      (∀ w, Calls Try.prog 51 #[.int .u32 x, .int .i64 n] w fun e w' => e = .returned (.tuple #[.int .i64 r, .int .i64 er]) ∧ w' = w) := by
  by_cases h : n < 1 ∨ 32 < n
  · exact ⟨0, 10, fun w => (signed_no x n w hn h).mono fun e w' ⟨h1, h2⟩ => ⟨h1, h2 ▸ Keeps.refl _ _⟩, fun w => refSigned_no x n w h⟩
  · obtain ⟨M, rfl⟩ : ∃ M : Nat, n = (M : Int) := ⟨n.toNat, by omega⟩
    have h1 : 1 ≤ M := by omega
    have h2 : M ≤ 32 := by omega
    obtain ⟨qa, qb, qc, qd, qe⟩ := pow_bd M h1 h2
    have hp := Nat.two_pow_pos M
    have R := fun w => refSigned_yes x M w h1 h2 hx
    by_cases a : (2 : Int) ^ M ≤ x
    · refine ⟨0, 11, fun w => (signed_val x M w h1 h2 (by omega)).mono fun e w' ⟨h1, h2⟩ => ⟨h1, h2 ▸ Keeps.refl _ _⟩, fun w => ?_⟩
      have := R w
      rw [if_pos a] at this
      exact this
    · by_cases b : (2 : Int) ^ (M - 1) ≤ x
      · have q : ((x : Int) / 2 ^ (M - 1) == 0) = false := by
          have : (1 : Int) ≤ (x : Int) / 2 ^ (M - 1) := by
            apply Int.le_ediv_of_mul_le qb
            omega
          exact beq_false_of_ne (by omega)
        refine ⟨_, 0, fun w => (signed_hi' x M w h1 h2 (by omega) q (by omega) (by omega) hx).mono fun e w' ⟨h1, h2⟩ => ⟨h1, h2 ▸ Keeps.refl _ _⟩, fun w => ?_⟩
        have := R w
        rw [if_neg a, if_pos b] at this
        exact this
      · have q : ((x : Int) / 2 ^ (M - 1) == 0) = true := by
          rw [Int.ediv_eq_zero_of_lt (by omega) (by omega)]; rfl
        refine ⟨_, 0, fun w => (signed_lo' x M w h1 h2 (by omega) q hx).mono fun e w' ⟨h1, h2⟩ => ⟨h1, h2 ▸ Keeps.refl _ _⟩, fun w => ?_⟩
        have := R w
        rw [if_neg a, if_neg b] at this
        exact this

theorem unsigned_both (x n : Int) (hn : n ≤ 9223372036854775807) :
    ∃ r er : Int, (∀ w, Calls Try.prog 19 #[.int .i64 x, .int .i64 n] w fun e w' => e = .returned (.tuple #[.int .u32 r, .int .i64 er]) ∧ Keeps (fun _ => False) w w') ∧
      (∀ w, Calls Try.prog 52 #[.int .i64 x, .int .i64 n] w fun e w' => e = .returned (.tuple #[.int .u32 r, .int .i64 er]) ∧ w' = w) := by
  by_cases h : n < 1 ∨ 32 < n
  · exact ⟨0, 10, fun w => (unsigned_no x n w hn h).mono fun e w' ⟨h1, h2⟩ => ⟨h1, h2 ▸ Keeps.refl _ _⟩, fun w => refUnsigned_no x n w h⟩
  · obtain ⟨M, rfl⟩ : ∃ M : Nat, n = (M : Int) := ⟨n.toNat, by omega⟩
    have h1 : 1 ≤ M := by omega
    have h2 : M ≤ 32 := by omega
    have qa := (pow_bd M h1 h2).1
    have qb := (pow_bd M h1 h2).2.1
    have R := fun w => refUnsigned_yes x M w h1 h2
    by_cases a : - 2 ^ (M - 1) ≤ x ∧ x < 2 ^ (M - 1)
    · refine ⟨_, 0, fun w => (unsigned_yes x M w h1 h2 qa qb (by omega) (by omega)).mono fun e w' ⟨h1, h2⟩ => ⟨h1, h2 ▸ Keeps.refl _ _⟩, fun w => ?_⟩
      have := R w
      rw [if_pos a] at this
      exact this
    · refine ⟨0, 11, fun w => ?_, fun w => ?_⟩
      · by_cases b : x < - 2 ^ (M - 1)
        · exact (unsigned_low x M w h1 h2 qa qb b).mono fun e w' ⟨h1, h2⟩ => ⟨h1, h2 ▸ Keeps.refl _ _⟩
        · exact (unsigned_high x M w h1 h2 qa qb b (by omega)).mono fun e w' ⟨h1, h2⟩ => ⟨h1, h2 ▸ Keeps.refl _ _⟩
      · have := R w
        rw [if_neg a] at this
        exact this

/-- Where the cells of a boxed operation stand, behind whatever keeps old memory. -/
theorem op_cells {w w1 : World} (o : OpC) (hK : Keeps (fun _ => False) (w.alloc (.cells o.cells 41)) w1) : Blk w1 w.heap.size o.cells.toList 41 := (Blk.new w _ 41).kept hK (fun e => e)

set_option maxRecDepth 100000 in
set_option maxHeartbeats 1000000 in
theorem numbers_any (o : OpC) (w : World) (hW : o.W < 4294967296) (hV : o.V < 4294967296) (ha : in64 o.a) (hb : in64 o.b) :
    Calls Try.prog 12 #[o.agg] w fun e w' => e = .returned (.bool true) ∧ Keeps (fun _ => False) w w' := by
  obtain ⟨k, who, a, b, W, V, N, pb, lb, cb, pw, lw, cw, s⟩ := o
  simp only at hW hV ha hb
  obtain ⟨r1, er1, f1, g1⟩ := field_both W a b hW hb.2
  obtain ⟨r2, er2, f2, g2⟩ := put_both W V a b hW hV hb.2
  obtain ⟨r3, er3, f3, g3⟩ := signed_both V a hV ha.2
  obtain ⟨r4, er4, f4, g4⟩ := unsigned_both a b hb.2
  have F1 : Hid (∀ w, _) := f1
  have F2 : Hid (∀ w, _) := f2
  have F3 : Hid (∀ w, _) := f3
  have F4 : Hid (∀ w, _) := f4
  have G1 : Hid (∀ w, _) := g1
  have G2 : Hid (∀ w, _) := g2
  have G3 : Hid (∀ w, _) := g3
  have G4 : Hid (∀ w, _) := g4
  clear f1 f2 f3 f4 g1 g2 g3 g4 ha hb
  have hK0 : Keeps (fun _ => False) w (w.alloc (.cells #[.int .i64 k, .int .i64 who, .int .i64 a, .int .i64 b, .int .u32 W, .int .u32 V, .int .u64 N, .slice pb lb cb, .slice pw lw cw, .string s] 41)) := (Keeps.refl _ w).alloc _
  have HK0 : Hid (Keeps _ _ _) := hK0
  clear hK0
  unfold OpC.agg
  dsimp only
  by_cases h1 : k = 1
  · subst h1
    go_enter Try.func12, Try.ntmps12
    go_wp2_with fail
    refine (F1.out _).mono ?_
    rintro e w1 ⟨rfl, hK1⟩
    have hB := (Blk.new w _ 41).kept hK1 (fun e => e)
    have hK2 := HK0.out.trans hK1 fun _ _ e => e
    have c2 := hB.cell (i := 2) rfl
    have c3 := hB.cell (i := 3) rfl
    have c4 := hB.cell (i := 4) rfl
    have c5 := hB.cell (i := 5) rfl
    clear hB hK1
    go_wp2_with fail
    refine (G1.out _).mono ?_
    rintro e w' ⟨rfl, hw'⟩; obtain rfl := hw'.symm
    go_wp2
    go_ret
    exact ⟨rfl, hK2⟩
  · have n1 : (k == 1) = false := beq_false_of_ne h1
    by_cases h2 : k = 2
    · subst h2
      go_enter Try.func12, Try.ntmps12
      go_wp2_with fail
      refine (F2.out _).mono ?_
      rintro e w1 ⟨rfl, hK1⟩
      have hB := (Blk.new w _ 41).kept hK1 (fun e => e)
      have hK2 := HK0.out.trans hK1 fun _ _ e => e
      have c2 := hB.cell (i := 2) rfl
      have c3 := hB.cell (i := 3) rfl
      have c4 := hB.cell (i := 4) rfl
      have c5 := hB.cell (i := 5) rfl
      clear hB hK1
      go_wp2_with fail
      refine (G2.out _).mono ?_
      rintro e w' ⟨rfl, hw'⟩; obtain rfl := hw'.symm
      go_wp2
      go_ret
      exact ⟨rfl, hK2⟩
    · have n2 : (k == 2) = false := beq_false_of_ne h2
      by_cases h3 : k = 3
      · subst h3
        go_enter Try.func12, Try.ntmps12
        go_wp2_with fail
        refine (F3.out _).mono ?_
        rintro e w1 ⟨rfl, hK1⟩
        have hB := (Blk.new w _ 41).kept hK1 (fun e => e)
        have hK2 := HK0.out.trans hK1 fun _ _ e => e
        have c2 := hB.cell (i := 2) rfl
        have c3 := hB.cell (i := 3) rfl
        have c4 := hB.cell (i := 4) rfl
        have c5 := hB.cell (i := 5) rfl
        clear hB hK1
        go_wp2_with fail
        refine (G3.out _).mono ?_
        rintro e w' ⟨rfl, hw'⟩; obtain rfl := hw'.symm
        go_wp2
        go_ret
        exact ⟨rfl, hK2⟩
      · have n3 : (k == 3) = false := beq_false_of_ne h3
        by_cases h4 : k = 4
        · subst h4
          go_enter Try.func12, Try.ntmps12
          go_wp2_with fail
          refine (F4.out _).mono ?_
          rintro e w1 ⟨rfl, hK1⟩
          have hB := (Blk.new w _ 41).kept hK1 (fun e => e)
          have hK2 := HK0.out.trans hK1 fun _ _ e => e
          have c2 := hB.cell (i := 2) rfl
          have c3 := hB.cell (i := 3) rfl
          have c4 := hB.cell (i := 4) rfl
          have c5 := hB.cell (i := 5) rfl
          clear hB hK1
          go_wp2_with fail
          refine (G4.out _).mono ?_
          rintro e w' ⟨rfl, hw'⟩; obtain rfl := hw'.symm
          go_wp2
          go_ret
          exact ⟨rfl, hK2⟩
        · have n4 : (k == 4) = false := beq_false_of_ne h4
          go_enter Try.func12, Try.ntmps12
          go_wp2
          go_ret
          exact ⟨rfl, HK0.out⟩

/-- How many bytes an operation hands in. -/
def weightN (o : OpC) : Int := if 2147483647 < o.s.size ∨ 2147483647 < o.lb ∨ 536870911 < o.lw then 2147483648 else 8 + (o.s.size : Int) + (o.lb : Int) + 4 * (o.lw : Int)

set_option maxRecDepth 100000 in
set_option maxHeartbeats 1000000 in
theorem weight_any (o : OpC) (w : World) (h1 : o.s.size ≤ 140737488355328) (h2 : o.lb ≤ 140737488355328) (h3 : o.lw ≤ 140737488355328) :
    Calls Try.prog 11 #[o.agg] w fun e w' => e = .returned (.int .i64 (weightN o)) ∧ Keeps (fun _ => False) w w' := by
  obtain ⟨k, who, a, b, W, V, N, pb, lb, cb, pw, lw, cw, s⟩ := o
  unfold weightN OpC.agg
  dsimp only at *
  have hK0 : Keeps (fun _ => False) w (w.alloc (.cells #[.int .i64 k, .int .i64 who, .int .i64 a, .int .i64 b, .int .u32 W, .int .u32 V, .int .u64 N, .slice pb lb cb, .slice pw lw cw, .string s] 41)) := (Keeps.refl _ w).alloc _
  by_cases a1 : (2147483647 : Int) < (s.size : Int)
  · rw [if_pos (by omega)]
    go_enter Try.func11, Try.ntmps11
    go_wp2
    go_ret
    exact ⟨rfl, hK0⟩
  · by_cases a2 : (2147483647 : Int) < (lb : Int)
    · rw [if_pos (by omega)]
      go_enter Try.func11, Try.ntmps11
      go_wp2
      go_ret
      exact ⟨rfl, hK0⟩
    · by_cases a3 : (536870911 : Int) < (lw : Int)
      · rw [if_pos (by omega)]
        go_enter Try.func11, Try.ntmps11
        go_wp2
        go_ret
        exact ⟨rfl, hK0⟩
      · rw [if_neg (by omega)]
        go_enter Try.func11, Try.ntmps11
        go_wp2
        go_ret
        exact ⟨rfl, hK0⟩
end Go.Proofs.Ytonjmknjjdnjkaa
