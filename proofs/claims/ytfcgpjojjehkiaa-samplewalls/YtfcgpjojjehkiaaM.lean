import Derived.Test.YtfcgpjojjehkiaaL
import Derived.OwnWalkIn
namespace Go.Proofs.Ytfcgpjojjehkiaa
open Go.RowKit
set_option linter.unusedVariables false
set_option linter.unusedSimpArgs false

theorem Try.mixd : Try.prog.follows Departure.mixedOrders = true := by kernel_rfl

/-- A box: where it lies, how many words stand ahead of the message, the most words of that. -/
structure Bx where
  p : Int
  h : Nat
  n : Int
instance : Inhabited Bx := ⟨⟨0, 0, 0⟩⟩
def Bx.vs (b : Bx) : List Value := [.int .i64 b.p, .int .i64 b.h, .int .i64 b.n]
abbrev Bx.v (b : Bx) : Value := bxv b.p b.h b.n
def BxAt (w : World) (g o : Nat) (b : Bx) : Prop := w.cell? ⟨g, o, none⟩ = some (.int .i64 b.p) ∧ w.cell? ⟨g, o + 1, none⟩ = some (.int .i64 b.h) ∧ w.cell? ⟨g, o + 2, none⟩ = some (.int .i64 b.n)
/-- These boxes can be read at this address. -/
def SegB (w : World) (a : Option Addr) (bs : List Bx) : Prop :=
  bs = [] ∨ ∃ g o, a = some ⟨g, o, none⟩ ∧ ∀ j b, bs[j]? = some b → BxAt w g (o + j * 3) b

theorem BxAt.kept {S : Nat → Prop} {w w' : World} {g o : Nat} {l : Bx} (h : BxAt w g o l) (hK : Keeps S w w') (hn : ¬ S g) : BxAt w' g o l := by
  have hlt : g < w.heap.size := World.block_lt_of_cell? w ⟨g, o, none⟩ h.1
  have e : ∀ i, w'.cell? ⟨g, i, none⟩ = w.cell? ⟨g, i, none⟩ := fun i => World.cell?_of_block (w := w) (hK.block g hlt hn)
  exact ⟨(e _).trans h.1, (e _).trans h.2.1, (e _).trans h.2.2⟩
theorem SegB.kept {S : Nat → Prop} {w w' : World} {a : Option Addr} {ls : List Bx} (h : SegB w a ls) (hK : Keeps S w w') (hn : ∀ x, a = some x → ¬ S x.block) : SegB w' a ls := by
  rcases h with h | ⟨g, o, ha, hc⟩
  · exact .inl h
  · exact .inr ⟨g, o, ha, fun j l hj => (hc j l hj).kept hK (hn _ ha)⟩
theorem SegB.grown {w w' : World} {a : Option Addr} {ls : List Bx} (h : SegB w a ls) (hK : Keeps (fun _ => False) w w') : SegB w' a ls := h.kept hK fun _ _ e => e
theorem SegB.at {w : World} {a : Option Addr} {ls : List Bx} (h : SegB w a ls) {j : Nat} {b : Bx} (hj : ls[j]? = some b) : ∃ g o, a = some ⟨g, o, none⟩ ∧ BxAt w g (o + j * 3) b := by
  rcases h with h | ⟨g, o, ha, hc⟩
  · rw [h] at hj; simp at hj
  · exact ⟨g, o, ha, hc j b hj⟩

/-- All its words lie in a memory. -/
def Bx.Fine (b : Bx) : Prop := 0 ≤ b.p ∧ b.p ≤ 16384 ∧ (b.h = 2 ∨ b.h = 3) ∧ 1 ≤ b.n ∧ b.n ≤ 16
def Bx.meets (b c : Bx) : Bool := decide (b.p < c.p + ((c.h : Int) + c.n)) && decide (c.p < b.p + ((b.h : Int) + b.n))

set_option maxRecDepth 20000 in
set_option maxHeartbeats 1000000 in
theorem meets_any (b c : Bx) (w : World) (hb : b.Fine) (hc : c.Fine) :
    Calls Try.prog 55 #[b.v, c.v] w fun e w' => e = .returned (.bool (b.meets c)) ∧ Keeps (fun _ => False) w w' := by
  obtain ⟨W, hW, hK, hB⟩ := box_new w b.p b.h b.n
  obtain ⟨W2, hW2, hK2, hB2⟩ := box_new W c.p c.h c.n
  obtain ⟨b1, b2, b3, b4, b5⟩ := hb
  obtain ⟨c1, c2, c3, c4, c5⟩ := hc
  have HSc := fun W1 (k : Keeps (fun _ => False) W2 W1) => (size_any c.p c.h c.n W1 ⟨by omega, by omega⟩ ⟨by omega, by omega⟩).mono fun e w' ⟨h1, h2⟩ => And.intro h1 (k.trans h2 fun _ _ e => e)
  have HSb := fun W1 (k : Keeps (fun _ => False) W2 W1) => (size_any b.p b.h b.n W1 ⟨by omega, by omega⟩ ⟨by omega, by omega⟩).mono fun e w' ⟨h1, h2⟩ => And.intro h1 (k.trans h2 fun _ _ e => e)
  obtain ⟨O, hO⟩ : ∃ O, O = w.heap.size := ⟨_, rfl⟩
  obtain ⟨Q, hQ⟩ : ∃ O, O = W.heap.size := ⟨_, rfl⟩
  have hBb := hB.kept hK2 fun e => e
  rw [← hO] at hBb
  rw [← hQ] at hB2
  have HR : Hid (b.meets c = (decide (b.p < c.p + ((c.h : Int) + c.n)) && decide (c.p < b.p + ((b.h : Int) + b.n)))) := by show b.meets c = _; rfl
  obtain ⟨bp, bh, bn⟩ := b
  obtain ⟨cp, ch, cn⟩ := c
  simp only at *
  obtain ⟨sb, hsb⟩ : ∃ s : Int, s = (bh : Int) + bn := ⟨_, rfl⟩
  obtain ⟨sc, hsc⟩ : ∃ s : Int, s = (ch : Int) + cn := ⟨_, rfl⟩
  rw [← hsb] at HSb HR
  rw [← hsc] at HSc HR
  have hS : W2.cell? ⟨O, 0, none⟩ = some (.int .i64 bp) ∧ W2.cell? ⟨O, 1, none⟩ = some (.int .i64 bh) ∧ W2.cell? ⟨O, 2, none⟩ = some (.int .i64 bn) ∧ W2.cell? ⟨Q, 0, none⟩ = some (.int .i64 cp) ∧ W2.cell? ⟨Q, 1, none⟩ = some (.int .i64 ch) ∧ W2.cell? ⟨Q, 2, none⟩ = some (.int .i64 cn) := ⟨hBb.cell rfl, hBb.cell rfl, hBb.cell rfl, hB2.cell rfl, hB2.cell rfl, hB2.cell rfl⟩
  have HB0 : Hid (∀ W', Keeps (fun _ => False) W2 W' → W'.cell? ⟨O, 0, none⟩ = some (.int .i64 bp) ∧ W'.cell? ⟨O, 1, none⟩ = some (.int .i64 bh) ∧ W'.cell? ⟨O, 2, none⟩ = some (.int .i64 bn) ∧ W'.cell? ⟨Q, 0, none⟩ = some (.int .i64 cp) ∧ W'.cell? ⟨Q, 1, none⟩ = some (.int .i64 ch) ∧ W'.cell? ⟨Q, 2, none⟩ = some (.int .i64 cn)) := fun W' k => by
    have q1 := hBb.kept k fun e => e
    have q2 := hB2.kept k fun e => e
    exact ⟨q1.cell rfl, q1.cell rfl, q1.cell rfl, q2.cell rfl, q2.cell rfl, q2.cell rfl⟩
  have HSb : Hid (∀ W1, Keeps (fun _ => False) W2 W1 → Calls Try.prog 57 #[bxv bp bh bn] W1 fun e w' => e = .returned (.int .i64 sb) ∧ Keeps (fun _ => False) W2 w') := HSb
  have HSc : Hid (∀ W1, Keeps (fun _ => False) W2 W1 → Calls Try.prog 57 #[bxv cp ch cn] W1 fun e w' => e = .returned (.int .i64 sc) ∧ Keeps (fun _ => False) W2 w') := HSc
  have HW : Hid (W = _ ∧ W2 = _ ∧ Keeps (fun _ => False) w W2 ∧ O = w.heap.size ∧ Q = w.heap.size + 1) := ⟨hW, hW2, hK.trans hK2 (fun _ _ e => e), hO, by rw [hQ, hW]; simp⟩
  have s1 : 0 ≤ sb := by omega
  have s2 : sb ≤ 19 := by omega
  have s3 : 0 ≤ sc := by omega
  have s4 : sc ≤ 19 := by omega
  have x1 : IntKind.i64.wrap (cp + sc) = cp + sc := by rw [IntKind.wrap_i64]; omega
  have x2 : IntKind.i64.wrap (bp + sb) = bp + sb := by rw [IntKind.wrap_i64]; omega
  clear hW hW2 hK hK2 hB hB2 hBb hO hQ hsb hsc b3 c3 b4 b5 c4 c5
  by_cases m1 : bp < cp + sc
  · go_enter Try.func55, Try.ntmps55
    go_wp2
    rw [← HW.out.1, ← HW.out.2.1, ← HW.out.2.2.2.2, ← HW.out.2.2.2.1]
    go_region_held3 (fun w' => w'.cell? ⟨O, 0, none⟩ = some (.int .i64 bp) ∧ w'.cell? ⟨O, 1, none⟩ = some (.int .i64 bh) ∧ w'.cell? ⟨O, 2, none⟩ = some (.int .i64 bn) ∧ w'.cell? ⟨Q, 0, none⟩ = some (.int .i64 cp) ∧ w'.cell? ⟨Q, 1, none⟩ = some (.int .i64 ch) ∧ w'.cell? ⟨Q, 2, none⟩ = some (.int .i64 cn)) (first | exact hS2 | exact hS1 | exact hS | go_keep)
      (first | (go_at_call 57; refine (HSb.out w1 hk1).mono ?_; rintro e w2 ⟨rfl, hk2⟩; have hS2 := HB0.out w2 hk2) | (go_at_call 57; refine (HSc.out _ ((Keeps.refl _ W2).drewN _)).mono ?_; rintro e w1 ⟨rfl, hk1⟩; have hS1 := HB0.out w1 hk1))
    go_wp2
    go_ret
    exact ⟨ret_bool (by rw [HR.out, decide_eq_true m1]; simp), HW.out.2.2.1.trans hk2 fun _ _ e => e⟩
  · have m2 : decide (bp < cp + sc) = false := decide_eq_false m1
    have HD : Hid (decide (bp < cp + sc) = false) := m2
    go_enter Try.func55, Try.ntmps55
    go_wp2
    rw [← HW.out.1, ← HW.out.2.1, ← HW.out.2.2.2.2, ← HW.out.2.2.2.1]
    refine wp_region_held_drew (S := (fun w' => w'.cell? ⟨O, 0, none⟩ = some (.int .i64 bp) ∧ w'.cell? ⟨O, 1, none⟩ = some (.int .i64 bh) ∧ w'.cell? ⟨O, 2, none⟩ = some (.int .i64 bn) ∧ w'.cell? ⟨Q, 0, none⟩ = some (.int .i64 cp) ∧ w'.cell? ⟨Q, 1, none⟩ = some (.int .i64 ch) ∧ w'.cell? ⟨Q, 2, none⟩ = some (.int .i64 cn))) Try.mixd hS (fun hHeld => ?_)
    simp only [List.size_toArray, List.length_cons, List.length_nil, Nat.reduceAdd, Array.replicate_succ, Array.replicate_zero, List.push_toArray, List.append_toArray, List.nil_append, List.cons_append]
    refine wpAnyH_take (i := 0) (oi := { dst := some 5, op := Op.fieldAddr 69 (Operand.tmp 2) 0, type := 0, pos := "box.go:97", after := #[], guard := none }) (v := .pointer (some ⟨O, 0, none⟩)) rfl (by kernel_rfl) (by kernel_rfl) (by kernel_rfl) (fun _ _ _ h => h) (Or.inl ⟨by kernel_rfl, by (intro w hSw; (try dsimp only at hSw); go_simp)⟩) hHeld ?_
    simp only [Act.put, List.setIfInBounds_toArray, List.set_cons_zero, List.set_cons_succ]
    refine wpAnyH_take (i := 1) (oi := { dst := some 6, op := Op.load 3 (Operand.tmp 5), type := 3, pos := "box.go:97", after := #[{ on := 0, ground := Ground.data }], guard := none }) (v := .int .i64 bp) rfl (by kernel_rfl) (by kernel_rfl) (by kernel_rfl) (fun _ _ _ h => h) (Or.inl ⟨by kernel_rfl, by (intro w hSw; (try dsimp only at hSw); go_simp)⟩) hHeld ?_
    simp only [Act.put, List.setIfInBounds_toArray, List.set_cons_zero, List.set_cons_succ]
    refine wpAnyH_take (i := 2) (oi := { dst := some 7, op := Op.fieldAddr 69 (Operand.tmp 3) 0, type := 0, pos := "box.go:97", after := #[], guard := none }) (v := .pointer (some ⟨Q, 0, none⟩)) rfl (by kernel_rfl) (by kernel_rfl) (by kernel_rfl) (fun _ _ _ h => h) (Or.inl ⟨by kernel_rfl, by (intro w hSw; (try dsimp only at hSw); go_simp)⟩) hHeld ?_
    simp only [Act.put, List.setIfInBounds_toArray, List.set_cons_zero, List.set_cons_succ]
    refine wpAnyH_take (i := 3) (oi := { dst := some 8, op := Op.load 3 (Operand.tmp 7), type := 3, pos := "box.go:97", after := #[{ on := 2, ground := Ground.data }], guard := none }) (v := .int .i64 cp) rfl (by kernel_rfl) (by kernel_rfl) (by kernel_rfl) (fun _ _ _ h => h) (Or.inl ⟨by kernel_rfl, by (intro w hSw; (try dsimp only at hSw); go_simp)⟩) hHeld ?_
    simp only [Act.put, List.setIfInBounds_toArray, List.set_cons_zero, List.set_cons_succ]
    refine wpAnyH_take (i := 4) (oi := { dst := some 9, op := Op.load 69 (Operand.tmp 3), type := 69, pos := "box.go:97", after := #[], guard := none }) (v := .agg #[.int .i64 cp, .int .i64 ch, .int .i64 cn]) rfl (by kernel_rfl) (by kernel_rfl) (by kernel_rfl) (fun _ _ _ h => h) (Or.inl ⟨by kernel_rfl, by (intro w hSw; (try dsimp only at hSw); go_simp)⟩) hHeld ?_
    simp only [Act.put, List.setIfInBounds_toArray, List.set_cons_zero, List.set_cons_succ]
    refine wpAnyH_ready (rs := [5]) (by kernel_rfl) (by simp) ?_
    refine AllReadyH.cons (o := { dst := some 10, op := Op.call { callee := Callee.value (Operand.func 57), args := #[Operand.tmp 9], argTypes := #[69] }, type := 3, pos := "box.go:97", after := #[{ on := 4, ground := Ground.data }], guard := none }) rfl (fun K hK => ?_) AllReadyH.nil
    go_simp
    refine (HSc.out _ ((Keeps.refl _ W2).drew)).mono ?_
    rintro e w1 ⟨rfl, hk1⟩
    refine hK.out _ _ (HB0.out w1 hk1) (fun hHeld => ?_)
    simp only [Act.put, List.setIfInBounds_toArray, List.set_cons_zero, List.set_cons_succ]
    refine wpAnyH_take (i := 6) (oi := { dst := some 11, op := Op.binOp BinOp.add 3 (Operand.tmp 8) (Operand.tmp 10) 3, type := 3, pos := "box.go:97", after := #[{ on := 3, ground := Ground.data }, { on := 5, ground := Ground.data }], guard := none }) (v := .int .i64 (cp + sc)) rfl (by kernel_rfl) (by kernel_rfl) (by kernel_rfl) (fun _ _ _ h => h) (Or.inl ⟨by kernel_rfl, by (intro w hSw; (try dsimp only at hSw); go_simp)⟩) hHeld ?_
    simp only [Act.put, List.setIfInBounds_toArray, List.set_cons_zero, List.set_cons_succ]
    refine wpAnyH_take (i := 7) (oi := { dst := some 12, op := Op.binOp BinOp.lss 3 (Operand.tmp 6) (Operand.tmp 11) 3, type := 4, pos := "box.go:97", after := #[{ on := 1, ground := Ground.data }, { on := 6, ground := Ground.data }], guard := none }) (v := .bool false) rfl (by kernel_rfl) (by kernel_rfl) (by kernel_rfl) (fun _ _ _ h => h) (Or.inl ⟨by kernel_rfl, by (intro w hSw; (try dsimp only at hSw); go_simp)⟩) hHeld ?_
    simp only [Act.put, List.setIfInBounds_toArray, List.set_cons_zero, List.set_cons_succ]
    refine wpAnyH_take (i := 8) (oi := { dst := some 13, op := Op.move (Operand.tmp 12), type := 4, pos := "box.go:97", after := #[{ on := 7, ground := Ground.data }, { on := 5, ground := Ground.chain }], guard := none }) (v := .bool false) rfl (by kernel_rfl) (by kernel_rfl) (by kernel_rfl) (fun _ _ _ h => h) (Or.inl ⟨by kernel_rfl, by (intro w hSw; (try dsimp only at hSw); go_simp)⟩) hHeld ?_
    simp only [Act.put, List.setIfInBounds_toArray, List.set_cons_zero, List.set_cons_succ]
    refine wpAnyH_take (i := 9) (oi := { dst := some 14, op := Op.fieldAddr 69 (Operand.tmp 3) 0, type := 0, pos := "box.go:97", after := #[{ on := 8, ground := Ground.guard }], guard := some (8, true) }) (v := undef) rfl (by kernel_rfl) (by kernel_rfl) (by kernel_rfl) (fun _ _ _ h => h) (Or.inr ⟨by kernel_rfl, rfl⟩) hHeld ?_
    simp only [Act.put, List.setIfInBounds_toArray, List.set_cons_zero, List.set_cons_succ]
    refine wpAnyH_take (i := 10) (oi := { dst := some 15, op := Op.load 3 (Operand.tmp 14), type := 3, pos := "box.go:97", after := #[{ on := 9, ground := Ground.data }, { on := 8, ground := Ground.guard }], guard := some (8, true) }) (v := undef) rfl (by kernel_rfl) (by kernel_rfl) (by kernel_rfl) (fun _ _ _ h => h) (Or.inr ⟨by kernel_rfl, rfl⟩) hHeld ?_
    simp only [Act.put, List.setIfInBounds_toArray, List.set_cons_zero, List.set_cons_succ]
    refine wpAnyH_take (i := 11) (oi := { dst := some 16, op := Op.fieldAddr 69 (Operand.tmp 2) 0, type := 0, pos := "box.go:97", after := #[{ on := 8, ground := Ground.guard }], guard := some (8, true) }) (v := undef) rfl (by kernel_rfl) (by kernel_rfl) (by kernel_rfl) (fun _ _ _ h => h) (Or.inr ⟨by kernel_rfl, rfl⟩) hHeld ?_
    simp only [Act.put, List.setIfInBounds_toArray, List.set_cons_zero, List.set_cons_succ]
    refine wpAnyH_take (i := 12) (oi := { dst := some 17, op := Op.load 3 (Operand.tmp 16), type := 3, pos := "box.go:97", after := #[{ on := 11, ground := Ground.data }, { on := 8, ground := Ground.guard }], guard := some (8, true) }) (v := undef) rfl (by kernel_rfl) (by kernel_rfl) (by kernel_rfl) (fun _ _ _ h => h) (Or.inr ⟨by kernel_rfl, rfl⟩) hHeld ?_
    simp only [Act.put, List.setIfInBounds_toArray, List.set_cons_zero, List.set_cons_succ]
    refine wpAnyH_take (i := 13) (oi := { dst := some 18, op := Op.load 69 (Operand.tmp 2), type := 69, pos := "box.go:97", after := #[{ on := 8, ground := Ground.guard }], guard := some (8, true) }) (v := undef) rfl (by kernel_rfl) (by kernel_rfl) (by kernel_rfl) (fun _ _ _ h => h) (Or.inr ⟨by kernel_rfl, rfl⟩) hHeld ?_
    simp only [Act.put, List.setIfInBounds_toArray, List.set_cons_zero, List.set_cons_succ]
    refine wpAnyH_take (i := 14) (oi := { dst := some 19, op := Op.call { callee := Callee.value (Operand.func 57), args := #[Operand.tmp 18], argTypes := #[69] }, type := 3, pos := "box.go:97", after := #[{ on := 13, ground := Ground.data }, { on := 8, ground := Ground.chain }, { on := 8, ground := Ground.guard }], guard := some (8, true) }) (v := undef) rfl (by kernel_rfl) (by kernel_rfl) (by kernel_rfl) (fun _ _ _ h => h) (Or.inr ⟨by kernel_rfl, rfl⟩) hHeld ?_
    simp only [Act.put, List.setIfInBounds_toArray, List.set_cons_zero, List.set_cons_succ]
    refine wpAnyH_take (i := 15) (oi := { dst := some 20, op := Op.binOp BinOp.add 3 (Operand.tmp 17) (Operand.tmp 19) 3, type := 3, pos := "box.go:97", after := #[{ on := 12, ground := Ground.data }, { on := 14, ground := Ground.data }, { on := 8, ground := Ground.guard }], guard := some (8, true) }) (v := undef) rfl (by kernel_rfl) (by kernel_rfl) (by kernel_rfl) (fun _ _ _ h => h) (Or.inr ⟨by kernel_rfl, rfl⟩) hHeld ?_
    simp only [Act.put, List.setIfInBounds_toArray, List.set_cons_zero, List.set_cons_succ]
    refine wpAnyH_take (i := 16) (oi := { dst := some 21, op := Op.binOp BinOp.lss 3 (Operand.tmp 15) (Operand.tmp 20) 3, type := 4, pos := "box.go:97", after := #[{ on := 10, ground := Ground.data }, { on := 15, ground := Ground.data }, { on := 8, ground := Ground.guard }], guard := some (8, true) }) (v := undef) rfl (by kernel_rfl) (by kernel_rfl) (by kernel_rfl) (fun _ _ _ h => h) (Or.inr ⟨by kernel_rfl, rfl⟩) hHeld ?_
    simp only [Act.put, List.setIfInBounds_toArray, List.set_cons_zero, List.set_cons_succ]
    refine wpAnyH_take (i := 17) (oi := { dst := some 22, op := Op.pick (Operand.tmp 13) (Operand.tmp 21) (Operand.const (Value.bool false)), type := 4, pos := "box.go:97", after := #[{ on := 8, ground := Ground.data }, { on := 16, ground := Ground.data }], guard := none }) (v := .bool false) rfl (by kernel_rfl) (by kernel_rfl) (by kernel_rfl) (fun _ _ _ h => h) (Or.inl ⟨by kernel_rfl, by (intro w hSw; (try dsimp only at hSw); go_simp)⟩) hHeld ?_
    simp only [Act.put, List.setIfInBounds_toArray, List.set_cons_zero, List.set_cons_succ]
    refine wpAnyH_take (i := 18) (oi := { dst := some 4, op := Op.assign (Operand.tmp 22), type := 4, pos := "box.go:97", after := #[{ on := 17, ground := Ground.data }, { on := 14, ground := Ground.chain }, { on := 0, ground := Ground.phase }, { on := 1, ground := Ground.phase }, { on := 2, ground := Ground.phase }, { on := 3, ground := Ground.phase }, { on := 4, ground := Ground.phase }, { on := 5, ground := Ground.phase }, { on := 6, ground := Ground.phase }, { on := 7, ground := Ground.phase }, { on := 8, ground := Ground.phase }, { on := 9, ground := Ground.phase }, { on := 10, ground := Ground.phase }, { on := 11, ground := Ground.phase }, { on := 12, ground := Ground.phase }, { on := 13, ground := Ground.phase }, { on := 14, ground := Ground.phase }, { on := 15, ground := Ground.phase }, { on := 16, ground := Ground.phase }, { on := 17, ground := Ground.phase }], guard := none }) (v := .bool false) rfl (by kernel_rfl) (by kernel_rfl) (by kernel_rfl) (fun _ _ _ h => h) (Or.inl ⟨by kernel_rfl, by (intro w hSw; (try dsimp only at hSw); go_simp)⟩) hHeld ?_
    simp only [Act.put, List.setIfInBounds_toArray, List.set_cons_zero, List.set_cons_succ]
    refine wpAnyH_done (by kernel_rfl) ?_ _
    clear hHeld
    go_wp2
    go_ret
    exact ⟨ret_bool (by rw [HR.out, HD.out]; simp), HW.out.2.2.1.trans hk1 fun _ _ e => e⟩

end Go.Proofs.Ytfcgpjojjehkiaa
