import Derived.Test.YtmkeccibminnhaaPu
import Derived.Test.YtmkeccibminnhaaApp
import Derived.Deep.RegionHeld3
import Derived.Deep.RegionHeld2
namespace Go.Proofs.Ytmkeccibminnhaa
open Go.RowKit
set_option linter.unusedVariables false
set_option maxRecDepth 6000

/-- The reader gave up at this place. -/
abbrev refV (q : Nat) (k : Int) : Value := .iface 53 (.agg #[.int .i64 q, .int .i64 k])
abbrev gone (q : Nat) (k : Int) : Ending := .panicked [{ v := refV q k, recovered := false }]

/-- A post that says of a panic what the function's own says, and hangs on no slot. -/
def PanicTo (R : Ending → World → Prop) (Q : Exit → Act → World → Prop) : Exit → Act → World → Prop
  | .panic c, a, w => a.defers = [] ∧ R (.panicked c) w
  | e, a, w => Q e a w
theorem PanicTo.normal {R : Ending → World → Prop} {Q : Exit → Act → World → Prop} {a : Act} {w : World} (h : Q .normal a w) : PanicTo R Q .normal a w := h
theorem wp_region_panicTo {P : Program} {id : Nat} {ops : Array Oper} {b : Bool} {Q : Exit → Act → World → Prop} {a : Act} {w : World} (R : Ending → World → Prop)
    (hQ : ∀ c a w, a.defers = [] → R (.panicked c) w → Q (.panic c) a w) (h : (Code.region id ops b).wp P (PanicTo R Q) a w) : (Code.region id ops b).wp P Q a w :=
  Code.wp_mono (fun e a w h => by cases e <;> first | exact h | exact hQ _ _ _ h.1 h.2) h

theorem Rd.drew {w : World} {b g p : Nat} {B : List UInt8} {er : Int} (h : Rd w b g B p er) : Rd w.drew b g B p er := h.kept ((Keeps.refl (fun _ => False) w).drew) (fun e => e) (fun e => e)

set_option maxHeartbeats 400000 in
theorem item32_bad (b g p : Nat) (B : List UInt8) (er : Int) (v : Value) (w : World) (h : Rd w b g B p er) (he : er ≠ 0) :
    Calls Try.prog 66 #[.agg #[.pointer (some ⟨b, 0, none⟩)], v] w fun e w' => e = gone p 110 ∧ Keeps (fun _ => False) w w' := by
  have HR : Hid (Rd w b g B p er) := h
  have he' : (er != 0) = true := by simpa using he
  clear h
  go_enter Try.func66, Try.ntmps66
  go_wp2_with fail
  have hK : Keeps (fun _ => False) w (w.alloc (.cells #[.pointer (some ⟨b, 0, none⟩)] 99)) := (Keeps.refl _ w).alloc _
  have hR1 := HR.out.kept hK (fun e => e) (fun e => e)
  refine (rFault_any b g p er B _ hR1).mono ?_
  rintro e w1 ⟨rfl, rfl⟩
  go_wp2_with fail
  refine (rAt_any b g p er B _ hR1).mono ?_
  rintro e w1 ⟨rfl, rfl⟩
  go_wp2
  exact ⟨rfl, rfl, hK⟩

set_option maxHeartbeats 400000 in
theorem item32_good (b g p : Nat) (B : List UInt8) (v : Value) (w : World) (h : Rd w b g B p 0) :
    Calls Try.prog 66 #[.agg #[.pointer (some ⟨b, 0, none⟩)], v] w fun e w' => e = .returned v ∧ Keeps (fun _ => False) w w' := by
  have HR : Hid (Rd w b g B p 0) := h
  clear h
  go_enter Try.func66, Try.ntmps66
  go_wp2_with fail
  have hK : Keeps (fun _ => False) w (w.alloc (.cells #[.pointer (some ⟨b, 0, none⟩)] 99)) := (Keeps.refl _ w).alloc _
  have hR1 := HR.out.kept hK (fun e => e) (fun e => e)
  refine (rFault_any b g p 0 B _ hR1).mono ?_
  rintro e w1 ⟨rfl, rfl⟩
  go_wp2
  go_ret
  exact ⟨rfl, hK⟩

theorem item32_any (b g p : Nat) (B : List UInt8) (er : Int) (v : Value) (w : World) (h : Rd w b g B p er) :
    Calls Try.prog 66 #[.agg #[.pointer (some ⟨b, 0, none⟩)], v] w fun e w' => ((er = 0 ∧ e = .returned v) ∨ (er ≠ 0 ∧ e = gone p 110)) ∧ Keeps (fun _ => False) w w' := by
  by_cases he : er = 0
  · subst he
    exact (item32_good b g p B v w h).mono fun e w' h => ⟨.inl ⟨rfl, h.1⟩, h.2⟩
  · exact (item32_bad b g p B er v w h he).mono fun e w' h => ⟨.inr ⟨he, h.1⟩, h.2⟩

set_option maxHeartbeats 400000 in
theorem item8_bad (b g p : Nat) (B : List UInt8) (er : Int) (v : Value) (w : World) (h : Rd w b g B p er) (he : er ≠ 0) :
    Calls Try.prog 84 #[.agg #[.pointer (some ⟨b, 0, none⟩)], v] w fun e w' => e = gone p 110 ∧ Keeps (fun _ => False) w w' := by
  have HR : Hid (Rd w b g B p er) := h
  have he' : (er != 0) = true := by simpa using he
  clear h
  go_enter Try.func84, Try.ntmps84
  go_wp2_with fail
  have hK : Keeps (fun _ => False) w (w.alloc (.cells #[.pointer (some ⟨b, 0, none⟩)] 99)) := (Keeps.refl _ w).alloc _
  have hR1 := HR.out.kept hK (fun e => e) (fun e => e)
  refine (rFault_any b g p er B _ hR1).mono ?_
  rintro e w1 ⟨rfl, rfl⟩
  go_wp2_with fail
  refine (rAt_any b g p er B _ hR1).mono ?_
  rintro e w1 ⟨rfl, rfl⟩
  go_wp2
  exact ⟨rfl, rfl, hK⟩

set_option maxHeartbeats 400000 in
theorem item8_good (b g p : Nat) (B : List UInt8) (v : Value) (w : World) (h : Rd w b g B p 0) :
    Calls Try.prog 84 #[.agg #[.pointer (some ⟨b, 0, none⟩)], v] w fun e w' => e = .returned v ∧ Keeps (fun _ => False) w w' := by
  have HR : Hid (Rd w b g B p 0) := h
  clear h
  go_enter Try.func84, Try.ntmps84
  go_wp2_with fail
  have hK : Keeps (fun _ => False) w (w.alloc (.cells #[.pointer (some ⟨b, 0, none⟩)] 99)) := (Keeps.refl _ w).alloc _
  have hR1 := HR.out.kept hK (fun e => e) (fun e => e)
  refine (rFault_any b g p 0 B _ hR1).mono ?_
  rintro e w1 ⟨rfl, rfl⟩
  go_wp2
  go_ret
  exact ⟨rfl, hK⟩

theorem item8_any (b g p : Nat) (B : List UInt8) (er : Int) (v : Value) (w : World) (h : Rd w b g B p er) :
    Calls Try.prog 84 #[.agg #[.pointer (some ⟨b, 0, none⟩)], v] w fun e w' => ((er = 0 ∧ e = .returned v) ∨ (er ≠ 0 ∧ e = gone p 110)) ∧ Keeps (fun _ => False) w w' := by
  by_cases he : er = 0
  · subst he
    exact (item8_good b g p B v w h).mono fun e w' h => ⟨.inl ⟨rfl, h.1⟩, h.2⟩
  · exact (item8_bad b g p B er v w h he).mono fun e w' h => ⟨.inr ⟨he, h.1⟩, h.2⟩

set_option maxHeartbeats 400000 in
theorem itemT_bad (b g p : Nat) (B : List UInt8) (er : Int) (v : Value) (w : World) (h : Rd w b g B p er) (he : er ≠ 0) :
    Calls Try.prog 88 #[.agg #[.pointer (some ⟨b, 0, none⟩)], v] w fun e w' => e = gone p 110 ∧ Keeps (fun _ => False) w w' := by
  have HR : Hid (Rd w b g B p er) := h
  have he' : (er != 0) = true := by simpa using he
  clear h
  go_enter Try.func88, Try.ntmps88
  go_wp2_with fail
  have hK : Keeps (fun _ => False) w (w.alloc (.cells #[.pointer (some ⟨b, 0, none⟩)] 99)) := (Keeps.refl _ w).alloc _
  have hR1 := HR.out.kept hK (fun e => e) (fun e => e)
  refine (rFault_any b g p er B _ hR1).mono ?_
  rintro e w1 ⟨rfl, rfl⟩
  go_wp2_with fail
  refine (rAt_any b g p er B _ hR1).mono ?_
  rintro e w1 ⟨rfl, rfl⟩
  go_wp2
  exact ⟨rfl, rfl, hK⟩

set_option maxHeartbeats 400000 in
theorem itemT_good (b g p : Nat) (B : List UInt8) (v : Value) (w : World) (h : Rd w b g B p 0) :
    Calls Try.prog 88 #[.agg #[.pointer (some ⟨b, 0, none⟩)], v] w fun e w' => e = .returned v ∧ Keeps (fun _ => False) w w' := by
  have HR : Hid (Rd w b g B p 0) := h
  clear h
  go_enter Try.func88, Try.ntmps88
  go_wp2_with fail
  have hK : Keeps (fun _ => False) w (w.alloc (.cells #[.pointer (some ⟨b, 0, none⟩)] 99)) := (Keeps.refl _ w).alloc _
  have hR1 := HR.out.kept hK (fun e => e) (fun e => e)
  refine (rFault_any b g p 0 B _ hR1).mono ?_
  rintro e w1 ⟨rfl, rfl⟩
  go_wp2
  go_ret
  exact ⟨rfl, hK⟩

theorem itemT_any (b g p : Nat) (B : List UInt8) (er : Int) (v : Value) (w : World) (h : Rd w b g B p er) :
    Calls Try.prog 88 #[.agg #[.pointer (some ⟨b, 0, none⟩)], v] w fun e w' => ((er = 0 ∧ e = .returned v) ∨ (er ≠ 0 ∧ e = gone p 110)) ∧ Keeps (fun _ => False) w w' := by
  by_cases he : er = 0
  · subst he
    exact (itemT_good b g p B v w h).mono fun e w' h => ⟨.inl ⟨rfl, h.1⟩, h.2⟩
  · exact (itemT_bad b g p B er v w h he).mono fun e w' h => ⟨.inr ⟨he, h.1⟩, h.2⟩

theorem rdNum_bd {B : List UInt8} {p q : Nat} {n : Int} (h : rdNum B p = .ok (n, q)) : 0 ≤ n ∧ n < 4294967296 := by
  unfold rdNum at h
  split at h
  · cases h
  · cases h
    have := numV_lt B p 0 4
    unfold numV at this
    rw [if_neg (by omega), if_neg (by omega)] at this
    have e : (256 : Nat) ^ 4 = 4294967296 := by decide
    rw [e] at this
    exact ⟨by omega, by omega⟩
theorem rdNum_of (B : List UInt8) (p : Nat) : (numE B p 0 4 = 0 ∧ rdNum B p = .ok ((numV B p 0 4 : Nat), numP B p 0 4)) ∨ (numE B p 0 4 ≠ 0 ∧ rdNum B p = .error p ∧ numP B p 0 4 = p) := by
  unfold numE rdNum numV numP
  by_cases hl : B.length < p + 4
  · right; simp [hl]
  · left; simp [hl]
theorem rdU8_of (B : List UInt8) (p : Nat) : (numE B p 0 1 = 0 ∧ rdU8 B p = .ok (numV B p 0 1, numP B p 0 1)) ∨ (numE B p 0 1 ≠ 0 ∧ rdU8 B p = .error p ∧ numP B p 0 1 = p) := by
  unfold numE rdU8 numV numP
  by_cases hl : B.length < p + 1
  · right; simp [hl]
  · left; simp [hl]
theorem rdText_of (B : List UInt8) (p : Nat) : (txtE B p 0 255 = 0 ∧ rdText B p = .ok (⟨(txtV B p 0 255).toArray⟩, txtP B p 0 255)) ∨ (txtE B p 0 255 ≠ 0 ∧ rdText B p = .error p ∧ txtP B p 0 255 = p) := by
  unfold rdText
  by_cases hl : txtE B p 0 255 = 0
  · left; simp [hl]
  · right; simp [hl, txtP]

set_option maxHeartbeats 1000000 in
theorem number_any (b g p : Nat) (B : List UInt8) (w : World) (h : Rd w b g B p 0) :
    Calls Try.prog 68 #[.agg #[.pointer (some ⟨b, 0, none⟩)]] w fun e w' => ((∃ n q, rdNum B p = .ok (n, q) ∧ e = .returned (.int .i64 n) ∧ Rd w' b g B q 0) ∨ (∃ q, rdNum B p = .error q ∧ e = gone q 110)) ∧ Keeps (· = b) w w' := by
  obtain ⟨c, hc⟩ : ∃ c, c = w.heap.size := ⟨_, rfl⟩
  have HR : Hid (Rd w b g B p 0 ∧ c = w.heap.size) := ⟨h, hc⟩
  have hb : c ≠ b := by have := h.blk.lt; omega
  clear h
  go_enter Try.func68, Try.ntmps68
  go_wp2
  rw [← hc]
  obtain ⟨W, hW⟩ : ∃ W, W = w.alloc (.cells #[.pointer (some ⟨b, 0, none⟩)] 99) := ⟨_, rfl⟩
  have hB : Blk W c [.pointer (some ⟨b, 0, none⟩)] 99 := by rw [hW, hc]; exact Blk.new w _ _
  have hR : Rd W b g B p 0 := by rw [hW]; exact HR.out.1.kept ((Keeps.refl (fun _ => False) w).alloc _) (fun e => e) (fun e => e)
  have HK : Hid (Keeps (· = b) w W) := by rw [hW]; exact (Keeps.refl _ w).alloc _
  have p0 := hB.cell (i := 0) rfl
  rw [← hW]
  have HB : Hid (Blk W c [.pointer (some ⟨b, 0, none⟩)] 99 ∧ Rd W b g B p 0) := ⟨hB, hR⟩
  clear hW hB hR HR hc
  refine wp_region_panicTo (fun e w' => ((∃ n q, rdNum B p = .ok (n, q) ∧ e = .returned (.int .i64 n) ∧ Rd w' b g B q 0) ∨ (∃ q, rdNum B p = .error q ∧ e = gone q 110)) ∧ Keeps (· = b) w w') (fun c a w h1 h2 => ⟨h1, h2⟩) ?_
  obtain ⟨V, hV⟩ : ∃ V, numV B p 0 4 = V := ⟨_, rfl⟩
  have hlt := numV_lt B p 0 4
  rw [hV, show (256 : Nat) ^ 4 = 4294967296 from by decide] at hlt
  have hcv : IntKind.i64.wrap (V : Int) = V := by rw [IntKind.wrap_i64]; omega
  have HV : Hid (numV B p 0 4 = V) := hV
  clear hV
  go_region_held2 (fun w' => w'.cell? ⟨c, 0, none⟩ = some (.pointer (some ⟨b, 0, none⟩))) (first | exact hS | go_keep)
    (first
      | (go_at_call 67; refine (rU32_any b g p 0 B _ HB.out.2.drew).mono ?_; rintro e w2 ⟨rfl, hR2, hK2⟩; rw [HV.out]; have hS : w2.cell? ⟨c, 0, none⟩ = some (.pointer (some ⟨b, 0, none⟩)) := (HB.out.1.drew.kept hK2 hb).cell (i := 0) rfl)
      | (go_at_call 66; refine (item32_any b g _ B _ _ _ hR2).mono ?_; rintro e w3 ⟨⟨he, rfl⟩ | ⟨he, rfl⟩, hK3⟩; rotate_left; exact ⟨rfl, .inr ⟨p, (rdNum_of B p).elim (fun h => absurd h.1 he) (fun h => h.2.1), by rw [(rdNum_of B p).elim (fun h => absurd h.1 he) (fun h => h.2.2)]⟩, (HK.out.drew.trans hK2 fun _ _ e => e).trans hK3 fun _ _ e => e.elim⟩; have hS : w3.cell? ⟨c, 0, none⟩ = some (.pointer (some ⟨b, 0, none⟩)) := ((HB.out.1.drew.kept hK2 hb).kept hK3 fun e => e).cell (i := 0) rfl))
  refine PanicTo.normal ?_
  have HF : Hid ((∃ n q, rdNum B p = .ok (n, q) ∧ Ending.returned (Value.int .i64 V) = .returned (.int .i64 n) ∧ Rd w3 b g B q 0) ∧ Keeps (· = b) w w3) := by
    refine ⟨⟨V, numP B p 0 4, ?_, rfl, ?_⟩, (HK.out.drew.trans hK2 fun _ _ e => e).trans hK3 fun _ _ e => e.elim⟩
    · rcases rdNum_of B p with h | h
      · rw [h.2, HV.out]
      · exact absurd he h.1
    · have := hR2.kept hK3 (fun e => e) (fun e => e)
      rw [he] at this; exact this
  clear hR2 hK2 hK3 hS he
  go_wp2
  go_ret
  exact ⟨.inl HF.out.1, HF.out.2⟩
end Go.Proofs.Ytmkeccibminnhaa
