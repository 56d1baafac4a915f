import Derived.Test.YtfbapgcopidbpaaGreatQc
namespace Go.Proofs.YtfbapgcopidbpaaGreat
open Go.RowKit
set_option linter.unusedVariables false
set_option linter.unusedSimpArgs false
set_option maxRecDepth 6000

/-- A row of pages or frames. -/
structure Rn where
  f : Int
  s : Int
deriving DecidableEq
abbrev Rn.v (r : Rn) : Value := .agg #[.int .i64 r.f, .int .i64 r.s]
def Rgn.pg (r : Rgn) : Rn := ⟨r.page, r.pages⟩
def Rgn.fr (r : Rgn) : Rn := ⟨r.frame, r.pages⟩
def Rn.meets (r o : Rn) : Bool := decide (r.f < o.f + o.s) && decide (o.f < r.f + r.s)
/-- Numbers whose sum does not come round. -/
def Rn.Ok (r : Rn) : Prop := I64 (r.f + r.s)

theorem pagesOf_any (r : Rgn) (w : World) : Calls Tryz.prog 156 #[r.v] w fun e w' => e = .returned r.pg.v ∧ Keeps (fun _ => False) w w' := by
  obtain ⟨p, q, f, g⟩ := r
  go_enter Tryz.func156, Tryz.ntmps156
  go_wp2
  (try simp only [Exit.inBlock, Exit.then])
  have hB := Blk.new (w.alloc (.cells #[.int .i64 p, .int .i64 q, .int .i64 f, .int .i64 g] 97)) #[.int .i64 p, .int .i64 q] 176
  simp only [World.size_alloc] at hB
  refine bodyPost_ret (results_cell_row rfl _ _ (w.heap.size + 1) 176 _ (0, 0) _ rfl hB Tryz.underlying176 rfl (by kernel_rfl)) rfl ?_
  exact ⟨rfl, ((Keeps.refl _ _).alloc _).alloc _⟩
theorem framesOf_any (r : Rgn) (w : World) : Calls Tryz.prog 131 #[r.v] w fun e w' => e = .returned r.fr.v ∧ Keeps (fun _ => False) w w' := by
  obtain ⟨p, q, f, g⟩ := r
  go_enter Tryz.func131, Tryz.ntmps131
  go_wp2
  (try simp only [Exit.inBlock, Exit.then])
  have hB := Blk.new (w.alloc (.cells #[.int .i64 p, .int .i64 q, .int .i64 f, .int .i64 g] 97)) #[.int .i64 f, .int .i64 q] 176
  simp only [World.size_alloc] at hB
  refine bodyPost_ret (results_cell_row rfl _ _ (w.heap.size + 1) 176 _ (0, 0) _ rfl hB Tryz.underlying176 rfl (by kernel_rfl)) rfl ?_
  exact ⟨rfl, ((Keeps.refl _ _).alloc _).alloc _⟩
theorem meets_any (r o : Rn) (hr : r.Ok) (ho : o.Ok) (w : World) : Calls Tryz.prog 162 #[r.v, o.v] w fun e w' => e = .returned (.bool (r.meets o)) ∧ Keeps (fun _ => False) w w' := by
  obtain ⟨a, s⟩ := r
  obtain ⟨b, t⟩ := o
  unfold Rn.Ok I64 at hr ho
  dsimp only at hr ho
  unfold Rn.meets
  have q1 : IntKind.i64.wrap (b + t) = b + t := by rw [IntKind.wrap_i64]; omega
  have q2 : IntKind.i64.wrap (a + s) = a + s := by rw [IntKind.wrap_i64]; omega
  go_enter Tryz.func162, Tryz.ntmps162
  by_cases h : a < b + t
  · have q : decide (a < b + t) = true := by simpa using h
    go_wp2
    go_ret
    simp only [q, Bool.true_and]
    exact ⟨rfl, ((Keeps.refl _ _).alloc _).alloc _⟩
  · have q : decide (a < b + t) = false := by simpa using h
    go_wp2
    go_ret
    simp only [q, Bool.false_and]
    exact ⟨rfl, ((Keeps.refl _ _).alloc _).alloc _⟩
def letB (b : Nat) : Bool := decide (97 ≤ b) && decide (b ≤ 122)
theorem isLetter_any (b : Nat) (w : World) : Calls Tryz.prog 150 #[.int .u8 (b : Int)] w fun e w' => e = .returned (.bool (letB b)) ∧ w' = w := by
  unfold letB
  go_enter Tryz.func150, Tryz.ntmps150
  by_cases h : 97 ≤ b
  · have q : decide ((97 : Int) ≤ (b : Int)) = true := by simp; omega
    go_wp2
    go_ret
    have e1 : decide ((b : Int) ≤ 122) = decide (b ≤ 122) := by rw [decide_eq_decide]; omega
    simp [h, e1]
  · have q : decide ((97 : Int) ≤ (b : Int)) = false := by simp; omega
    go_wp2
    go_ret
    simp [h]
def Chn.most (h : Chn) : Int := if h.kind = 2 then 1 else 4
theorem mostDests_any (h : Chn) (w : World) : Calls Tryz.prog 123 #[h.v] w fun e w' => e = .returned (.int .i64 h.most) ∧ Keeps (fun _ => False) w w' := by
  obtain ⟨k, n, d⟩ := h
  unfold Chn.most
  go_enter Tryz.func123, Tryz.ntmps123
  by_cases h : k = 2
  · subst h
    go_wp2
    go_ret
    exact ⟨rfl, (Keeps.refl _ _).alloc _⟩
  · have q : (k == 2) = false := by simpa using h
    go_wp2
    go_ret
    simp only [h, if_false]
    exact ⟨rfl, (Keeps.refl _ _).alloc _⟩
def Chn.okB (h : Chn) : Bool := inR h.words 1 16 && (if h.kind = 1 then decide (h.depth = 0) else if h.kind = 2 then inR h.depth 1 8 else false)
set_option maxHeartbeats 1000000 in
theorem isChannel_any (h : Chn) (w : World) : Calls Tryz.prog 119 #[h.v] w fun e w' => e = .returned (.bool h.okB) ∧ Keeps (fun _ => False) w w' := by
  obtain ⟨k, n, d⟩ := h
  unfold Chn.okB
  have HC : Hid (∀ n a b w, Calls Tryz.prog 71 #[.int .i64 n, .int .i64 a, .int .i64 b] w fun e w' => e = .returned (.bool (inR n a b)) ∧ w' = w) := within_any
  dsimp only
  obtain ⟨b1, hb1⟩ : ∃ b, inR n 1 16 = b := ⟨_, rfl⟩
  obtain ⟨b2, hb2⟩ : ∃ b, inR d 1 8 = b := ⟨_, rfl⟩
  have HB : Hid (inR n 1 16 = b1 ∧ inR d 1 8 = b2) := ⟨hb1, hb2⟩
  rw [hb1, hb2]
  clear hb1 hb2
  go_enter Tryz.func119, Tryz.ntmps119
  go_wp2_with fail
  refine (HC.out _ _ _ _).mono ?_
  rintro e w1 ⟨rfl, rfl⟩
  rw [HB.out.1]
  cases b1 with
  | false =>
    go_wp2
    all_goals
      go_ret
      exact ⟨rfl, (Keeps.refl _ _).alloc _⟩
  | true =>
    by_cases h1 : k = 1
    · subst h1
      go_wp2
      go_ret
      refine ⟨?_, (Keeps.refl _ _).alloc _⟩
      have : (d == 0) = decide (d = 0) := by by_cases h : d = 0 <;> simp [h]
      simp [this]
    · have q1 : (k == 1) = false := by simpa using h1
      by_cases h2 : k = 2
      · subst h2
        go_wp2_with fail
        refine (HC.out _ _ _ _).mono ?_
        rintro e w1 ⟨rfl, rfl⟩
        rw [HB.out.2]
        go_wp2
        go_ret
        refine ⟨?_, (Keeps.refl _ _).alloc _⟩
        simp
      · have q2 : (k == 2) = false := by simpa using h2
        go_wp2
        go_ret
        refine ⟨?_, (Keeps.refl _ _).alloc _⟩
        simp [h1, h2]
def Rgn.okB (r : Rgn) (fr : Int) : Bool := inR r.page 0 255 && (inR r.pages 1 (256 - r.page) && (decide (0 ≤ r.frame) && (decide (r.pages ≤ fr - r.frame) && inR r.rights 1 7)))
set_option maxHeartbeats 4000000 in
theorem isRegion_any (r : Rgn) (fr : Int) (hr : r.Fine) (h1 : 1 ≤ fr) (h2 : fr ≤ 1024) (w : World) : Calls Tryz.prog 154 #[r.v, .int .i64 fr] w fun e w' => e = .returned (.bool (r.okB fr)) ∧ Keeps (fun _ => False) w w' := by
  obtain ⟨p, n, f, g⟩ := r
  unfold Rgn.Fine I64 at hr
  unfold Rgn.okB
  dsimp only at hr ⊢
  have HC : Hid (∀ n a b w, Calls Tryz.prog 71 #[.int .i64 n, .int .i64 a, .int .i64 b] w fun e w' => e = .returned (.bool (inR n a b)) ∧ w' = w) := within_any
  obtain ⟨b1, hb1⟩ : ∃ b, inR p 0 255 = b := ⟨_, rfl⟩
  have HB1 : Hid (inR p 0 255 = b1) := hb1
  obtain ⟨b2, hb2⟩ : ∃ b, inR n 1 (256 - p) = b := ⟨_, rfl⟩
  have HB2 : Hid (inR n 1 (256 - p) = b2) := hb2
  rw [hb1, hb2]
  clear hb2
  go_enter Tryz.func154, Tryz.ntmps154
  go_wp2_with fail
  refine (HC.out _ _ _ _).mono ?_
  rintro e w1 ⟨rfl, rfl⟩
  rw [HB1.out]
  cases b1 with
  | false =>
    clear hb1
    go_wp2
    go_ret
    exact ⟨rfl, (Keeps.refl _ _).alloc _⟩
  | true =>
    have hp : 0 ≤ p ∧ p ≤ 255 := by unfold inR at hb1; simpa using hb1
    have q1 : IntKind.i64.wrap (256 - p) = 256 - p := by rw [IntKind.wrap_i64]; omega
    clear hb1
    go_wp2_with fail
    refine (HC.out _ _ _ _).mono ?_
    rintro e w1 ⟨rfl, rfl⟩
    rw [HB2.out]
    cases b2 with
    | false =>
      go_wp2
      go_ret
      exact ⟨rfl, (Keeps.refl _ _).alloc _⟩
    | true =>
      by_cases hf : 0 ≤ f
      · have qf : decide (0 ≤ f) = true := by simpa using hf
        have q2 : IntKind.i64.wrap (fr - f) = fr - f := by rw [IntKind.wrap_i64]; omega
        by_cases hn : n ≤ fr - f
        · have qn : decide (n ≤ fr - f) = true := by simpa using hn
          go_wp2_with fail
          refine (HC.out _ _ _ _).mono ?_
          rintro e w1 ⟨rfl, rfl⟩
          go_wp2
          go_ret
          refine ⟨?_, (Keeps.refl _ _).alloc _⟩
          simp [qf, qn]
        · have qn : decide (n ≤ fr - f) = false := by simpa using hn
          go_wp2
          go_ret
          refine ⟨?_, (Keeps.refl _ _).alloc _⟩
          simp [qf, qn]
      · have qf : decide (0 ≤ f) = false := by simpa using hf
        go_wp2
        go_ret
        refine ⟨?_, (Keeps.refl _ _).alloc _⟩
        simp [qf]
end Go.Proofs.YtfbapgcopidbpaaGreat
