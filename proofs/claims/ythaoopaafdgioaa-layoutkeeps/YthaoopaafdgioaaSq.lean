import Derived.Test.YthaoopaafdgioaaSp
namespace Go.Proofs.Ythaoopaafdgioaa
open Go.RowKit
set_option linter.unusedVariables false
set_option linter.unusedSimpArgs false
set_option maxRecDepth 6000

def sumK (hist : List (Ow × Int)) : Int := (hist.map (·.2)).sum
theorem sumK_app (hist : List (Ow × Int)) (o : Ow) (k : Int) : sumK (hist ++ [(o, k)]) = sumK hist + k := by simp [sumK]
/-- Whose the word t is, of words that were dealt from s on: the last one's that got it. -/
def lastGo (t : Int) : Int → Ow → List (Ow × Int) → Ow
  | _, f, [] => f
  | s, f, (o, k) :: r => lastGo t (s + k) (if s ≤ t ∧ t < s + k then o else f) r
theorem lastGo_app (t : Int) (o : Ow) (k : Int) : ∀ (hist : List (Ow × Int)) (s : Int) (f : Ow), lastGo t s f (hist ++ [(o, k)]) = if s + sumK hist ≤ t ∧ t < s + sumK hist + k then o else lastGo t s f hist
  | [], s, f => by simp [lastGo, sumK]
  | (o', k') :: r, s, f => by
    have := lastGo_app t o k r (s + k') (if s ≤ t ∧ t < s + k' then o' else f)
    simp only [List.cons_append, lastGo]
    rw [this]
    have e : s + k' + sumK r = s + sumK ((o', k') :: r) := by simp [sumK]; omega
    rw [e]

/-- The counter of an owner: it counts, and keeps who got the word t. -/
structure JO (B K A F : Nat) (s t : Int) (w : World) (a : Int) (hist : List (Ow × Int)) : Prop where
  cnt : Blk w B [.int .i64 a] 3
  fn : Blk w K [.func (.func 51) #[] #[.pointer (some ⟨B, 0, none⟩)]] 67
  word : Blk w A [.int .i64 t] 3
  found : Blk w F (lastGo t s ⟨0, 0, 0⟩ hist).vs 40
  sum : a = s + sumK hist
  apart : B ≠ K ∧ B ≠ A ∧ B ≠ F ∧ K ≠ A ∧ K ≠ F ∧ A ≠ F
def SO (B K A F : Nat) : Nat → Prop := fun b => b = B ∨ b = K ∨ b = A ∨ b = F
theorem JO.kept {B K A F : Nat} {s t : Int} {w w' : World} {a : Int} {hist : List (Ow × Int)} {T : Nat → Prop} (h : JO B K A F s t w a hist) (hK : Keeps T w w') (hT : ∀ k, SO B K A F k → ¬ T k) : JO B K A F s t w' a hist :=
  ⟨h.cnt.kept hK (hT _ (.inl rfl)), h.fn.kept hK (hT _ (.inr (.inl rfl))), h.word.kept hK (hT _ (.inr (.inr (.inl rfl)))), h.found.kept hK (hT _ (.inr (.inr (.inr rfl)))), h.sum, h.apart⟩

set_option maxHeartbeats 2000000 in
theorem owner_deals (B K A F : Nat) (s t : Int) (w : World) (a : Int) (hist : List (Ow × Int)) (o : Ow) (k : Int) (hJ : JO B K A F s t w a hist) (h0 : 0 ≤ a) (h1 : a ≤ 1000000) (h2 : 0 ≤ k) (h3 : k ≤ 1000) :
    Calls Try.prog 55 #[Ow.v o, .int .i64 k, .pointer (some ⟨K, 0, none⟩), .pointer (some ⟨A, 0, none⟩), .pointer (some ⟨F, 0, none⟩)] w fun e w' => e = .returned (.int .i64 a) ∧ JO B K A F s t w' (a + k) (hist ++ [(o, k)]) ∧ Keeps (SO B K A F) w w' := by
  obtain ⟨W, hW⟩ : ∃ W, W = w.alloc (.cells #[.int .i64 o.kind, .int .i64 o.idx, .int .i64 o.port] 40) := ⟨_, rfl⟩
  obtain ⟨P, hP⟩ : ∃ P, P = w.heap.size := ⟨_, rfl⟩
  have hlt : B < P ∧ F < P := by rw [hP]; exact ⟨hJ.cnt.lt, hJ.found.lt⟩
  have HW : Hid (JO B K A F s t W a hist ∧ Blk W P o.vs 40 ∧ Keeps (SO B K A F) w W) := by
    rw [hW, hP]; exact ⟨hJ.kept ((Keeps.refl (fun _ => False) _).alloc _) (fun _ _ h => h), Blk.new _ _ _, (Keeps.refl _ _).alloc _⟩
  have HL : Hid (B < P ∧ F < P) := hlt
  have hent := (dl_count B).ent
  have c0 := HW.out.1.fn.cell (i := 0) rfl
  have p0 := HW.out.2.1.cell (i := 0) rfl
  have p1 := HW.out.2.1.cell (i := 1) rfl
  have p2 := HW.out.2.1.cell (i := 2) rfl
  clear hJ hlt
  go_enter Try.func55, Try.ntmps55
  go_upto_region 1 with fail
  rw [← hW, ← hP]
  clear hW hP
  go_wp2_with fail
  refine (count_any B o k a W HW.out.1.cnt h0 h1 h2 h3).mono ?_
  rintro e w1 ⟨rfl, hB1, hK1⟩
  have hap := HW.out.1.apart
  have HX : Hid (Blk w1 B [.int .i64 (a + k)] 3 ∧ Blk w1 K [.func (.func 51) #[] #[.pointer (some ⟨B, 0, none⟩)]] 67 ∧ Blk w1 A [.int .i64 t] 3 ∧ Blk w1 F (lastGo t s ⟨0, 0, 0⟩ hist).vs 40 ∧ Blk w1 P o.vs 40 ∧ Keeps (SO B K A F) w w1) :=
    ⟨hB1, HW.out.1.fn.kept hK1 (by omega), HW.out.1.word.kept hK1 (by omega), HW.out.1.found.kept hK1 (by omega), HW.out.2.1.kept hK1 (by have := HL.out; omega), HW.out.2.2.trans hK1 fun _ _ h => .inl h⟩
  have HA : Hid (a = s + sumK hist ∧ (B ≠ K ∧ B ≠ A ∧ B ≠ F ∧ K ≠ A ∧ K ≠ F ∧ A ≠ F)) := ⟨HW.out.1.sum, hap⟩
  clear hB1 hK1 hap HW c0 p0 p1 p2 hent
  have t0 := HX.out.2.2.1.cell (i := 0) rfl
  have p0 := HX.out.2.2.2.2.1.cell (i := 0) rfl
  have p1 := HX.out.2.2.2.2.1.cell (i := 1) rfl
  have p2 := HX.out.2.2.2.2.1.cell (i := 2) rfl
  have f0 := HX.out.2.2.2.1.frozen 0
  have f1 := HX.out.2.2.2.1.frozen 1
  have f2 := HX.out.2.2.2.1.frozen 2
  have a0 := HX.out.2.2.2.1.cell (i := 0) rfl
  have a1 := HX.out.2.2.2.1.cell (i := 1) rfl
  have a2 := HX.out.2.2.2.1.cell (i := 2) rfl
  have q1 : IntKind.i64.wrap (a + k) = a + k := by rw [IntKind.wrap_i64]; omega
  by_cases g1 : a ≤ t
  · have e1 : decide (a ≤ t) = true := by simp [g1]
    by_cases g2 : t < a + k
    · have e2 : decide (t < a + k) = true := by simp [g2]
      have HE : Hid (lastGo t s ⟨0, 0, 0⟩ (hist ++ [(o, k)]) = o) := by
        show _ = _; rw [lastGo_app, ← HA.out.1, if_pos ⟨g1, g2⟩]
      go_wp2
      go_ret
      obtain ⟨hB, hK3⟩ := set3 HX.out.2.2.2.1 (.int .i64 o.kind) (.int .i64 o.idx) (.int .i64 o.port)
      have hap := HA.out.2
      refine ⟨rfl, ⟨HX.out.1.kept hK3 (by omega), HX.out.2.1.kept hK3 (by omega), HX.out.2.2.1.kept hK3 (by omega), by rw [HE.out]; exact hB, by rw [sumK_app, HA.out.1]; omega, hap⟩, HX.out.2.2.2.2.2.trans hK3 fun _ _ h => .inr (.inr (.inr h))⟩
    · have e2 : decide (t < a + k) = false := by simp [g2]
      have HE : Hid (lastGo t s ⟨0, 0, 0⟩ (hist ++ [(o, k)]) = lastGo t s ⟨0, 0, 0⟩ hist) := by
        show _ = _; rw [lastGo_app, ← HA.out.1, if_neg (fun h => g2 h.2)]
      go_wp2
      go_ret
      have hap := HA.out.2
      refine ⟨rfl, ⟨HX.out.1, HX.out.2.1, HX.out.2.2.1, by rw [HE.out]; exact HX.out.2.2.2.1, by rw [sumK_app, HA.out.1]; omega, hap⟩, HX.out.2.2.2.2.2⟩
  · have e1 : decide (a ≤ t) = false := by simp [g1]
    have HE : Hid (lastGo t s ⟨0, 0, 0⟩ (hist ++ [(o, k)]) = lastGo t s ⟨0, 0, 0⟩ hist) := by
      show _ = _; rw [lastGo_app, ← HA.out.1, if_neg (fun h => g1 h.1)]
    go_wp2
    go_ret
    have hap := HA.out.2
    refine ⟨rfl, ⟨HX.out.1, HX.out.2.1, HX.out.2.2.1, by rw [HE.out]; exact HX.out.2.2.2.1, by rw [sumK_app, HA.out.1]; omega, hap⟩, HX.out.2.2.2.2.2⟩

theorem dl_owner (B K A F : Nat) (s t : Int) : Dl 55 #[.pointer (some ⟨K, 0, none⟩), .pointer (some ⟨A, 0, none⟩), .pointer (some ⟨F, 0, none⟩)] (SO B K A F) (JO B K A F s t) where
  ent := call_enter Try.func55 (by kernel_rfl) (by kernel_rfl)
  call := fun w a hist o k hJ h0 h1 h2 h3 => owner_deals B K A F s t w a hist o k hJ h0 h1 h2 h3
  kept := fun hJ hK hT => hJ.kept hK hT
end Go.Proofs.Ythaoopaafdgioaa
