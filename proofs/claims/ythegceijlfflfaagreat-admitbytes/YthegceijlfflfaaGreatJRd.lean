import Derived.Test.YthegceijlfflfaaGreatJPu
import Derived.Test.YthegceijlfflfaaGreatRo
import Derived.Deep.RegionHeld3
import Derived.Deep.RegionHeld2
namespace Go.Proofs.YthegceijlfflfaaGreat
open Go.RowKit
set_option linter.unusedVariables false
set_option maxRecDepth 6000
abbrev refV (q : Nat) (k : Int) : Value := .iface 94 (.agg #[.int .i64 q, .int .i64 k])
abbrev gone (q : Nat) (k : Int) : Ending := .panicked [{ v := refV q k, recovered := false }]
def PanicTo (R : Ending → World → Prop) (Q : Exit → Act → World → Prop) : Exit → Act → World → Prop
 | .panic c, a, w => a.defers = [] ∧ R (.panicked c) w
 | e, a, w => Q e a w
theorem PanicTo.normal {R : Ending → World → Prop} {Q : Exit → Act → World → Prop} {a : Act} {w : World} (h : Q .normal a w) : PanicTo R Q .normal a w := h
theorem wp_region_panicTo {P : Program} {id : Nat} {ops : Array Oper} {b : Bool} {Q : Exit → Act → World → Prop} {a : Act} {w : World} (R : Ending → World → Prop)
  (hQ : ∀ c a w, a.defers = [] → R (.panicked c) w → Q (.panic c) a w) (h : (Code.region id ops b).wp P (PanicTo R Q) a w) : (Code.region id ops b).wp P Q a w :=
 Code.wp_mono (fun e a w h => by cases e <;> first | exact h | exact hQ _ _ _ h.1 h.2) h
theorem Rd.drew {w : World} {b g p : Nat} {B : List UInt8} {er : Int} (h : Rd w b g B p er) : Rd w.drew b g B p er := h.kept ((Keeps.refl (fun _ => False) w).drew) (fun e => e) (fun e => e)
set_option maxHeartbeats 400000 in
theorem item32_bad (b g p : Nat) (B : List UInt8) (er : Int) (v : Value) (w : World) (h : Rd w b g B p er) (he : er ≠ 0) :
  Calls Tryz.prog 119 #[.agg #[.pointer (some ⟨b, 0, none⟩)], v] w fun e w' => e = gone p 110 ∧ Keeps (fun _ => False) w w' := by
 have HR : Hid (Rd w b g B p er) := h
 have he' : (er != 0) = true := by simpa using he
 clear h
 go_enter Tryz.func119, Tryz.ntmps119
 go_wp2_with fail
 have hK : Keeps (fun _ => False) w (w.alloc (.cells #[.pointer (some ⟨b, 0, none⟩)] 134)) := (Keeps.refl _ w).alloc _
 have hR1 := HR.out.kept hK (fun e => e) (fun e => e)
 refine (rFault_any b g p er B _ hR1).mono ?_
 rintro e w1 ⟨rfl, rfl⟩
 go_wp2_with fail
 refine (rAt_any b g p er B _ hR1).mono ?_
 rintro e w1 ⟨rfl, rfl⟩
 go_wp2
 exact ⟨rfl, rfl, hK⟩
set_option maxHeartbeats 400000 in
theorem item32_good (b g p : Nat) (B : List UInt8) (v : Value) (w : World) (h : Rd w b g B p 0) :
  Calls Tryz.prog 119 #[.agg #[.pointer (some ⟨b, 0, none⟩)], v] w fun e w' => e = .returned v ∧ Keeps (fun _ => False) w w' := by
 have HR : Hid (Rd w b g B p 0) := h
 clear h
 go_enter Tryz.func119, Tryz.ntmps119
 go_wp2_with fail
 have hK : Keeps (fun _ => False) w (w.alloc (.cells #[.pointer (some ⟨b, 0, none⟩)] 134)) := (Keeps.refl _ w).alloc _
 have hR1 := HR.out.kept hK (fun e => e) (fun e => e)
 refine (rFault_any b g p 0 B _ hR1).mono ?_
 rintro e w1 ⟨rfl, rfl⟩
 go_wp2
 go_ret
 exact ⟨rfl, hK⟩
theorem item32_any (b g p : Nat) (B : List UInt8) (er : Int) (v : Value) (w : World) (h : Rd w b g B p er) :
  Calls Tryz.prog 119 #[.agg #[.pointer (some ⟨b, 0, none⟩)], v] w fun e w' => ((er = 0 ∧ e = .returned v) ∨ (er ≠ 0 ∧ e = gone p 110)) ∧ Keeps (fun _ => False) w w' := by
 by_cases he : er = 0
 ·
  subst he
  exact (item32_good b g p B v w h).mono fun e w' h => ⟨.inl ⟨rfl, h.1⟩, h.2⟩
 ·
  exact (item32_bad b g p B er v w h he).mono fun e w' h => ⟨.inr ⟨he, h.1⟩, h.2⟩
set_option maxHeartbeats 400000 in
theorem item8_bad (b g p : Nat) (B : List UInt8) (er : Int) (v : Value) (w : World) (h : Rd w b g B p er) (he : er ≠ 0) :
  Calls Tryz.prog 142 #[.agg #[.pointer (some ⟨b, 0, none⟩)], v] w fun e w' => e = gone p 110 ∧ Keeps (fun _ => False) w w' := by
 have HR : Hid (Rd w b g B p er) := h
 have he' : (er != 0) = true := by simpa using he
 clear h
 go_enter Tryz.func142, Tryz.ntmps142
 go_wp2_with fail
 have hK : Keeps (fun _ => False) w (w.alloc (.cells #[.pointer (some ⟨b, 0, none⟩)] 134)) := (Keeps.refl _ w).alloc _
 have hR1 := HR.out.kept hK (fun e => e) (fun e => e)
 refine (rFault_any b g p er B _ hR1).mono ?_
 rintro e w1 ⟨rfl, rfl⟩
 go_wp2_with fail
 refine (rAt_any b g p er B _ hR1).mono ?_
 rintro e w1 ⟨rfl, rfl⟩
 go_wp2
 exact ⟨rfl, rfl, hK⟩
set_option maxHeartbeats 400000 in
theorem item8_good (b g p : Nat) (B : List UInt8) (v : Value) (w : World) (h : Rd w b g B p 0) :
  Calls Tryz.prog 142 #[.agg #[.pointer (some ⟨b, 0, none⟩)], v] w fun e w' => e = .returned v ∧ Keeps (fun _ => False) w w' := by
 have HR : Hid (Rd w b g B p 0) := h
 clear h
 go_enter Tryz.func142, Tryz.ntmps142
 go_wp2_with fail
 have hK : Keeps (fun _ => False) w (w.alloc (.cells #[.pointer (some ⟨b, 0, none⟩)] 134)) := (Keeps.refl _ w).alloc _
 have hR1 := HR.out.kept hK (fun e => e) (fun e => e)
 refine (rFault_any b g p 0 B _ hR1).mono ?_
 rintro e w1 ⟨rfl, rfl⟩
 go_wp2
 go_ret
 exact ⟨rfl, hK⟩
theorem item8_any (b g p : Nat) (B : List UInt8) (er : Int) (v : Value) (w : World) (h : Rd w b g B p er) :
  Calls Tryz.prog 142 #[.agg #[.pointer (some ⟨b, 0, none⟩)], v] w fun e w' => ((er = 0 ∧ e = .returned v) ∨ (er ≠ 0 ∧ e = gone p 110)) ∧ Keeps (fun _ => False) w w' := by
 by_cases he : er = 0
 ·
  subst he
  exact (item8_good b g p B v w h).mono fun e w' h => ⟨.inl ⟨rfl, h.1⟩, h.2⟩
 ·
  exact (item8_bad b g p B er v w h he).mono fun e w' h => ⟨.inr ⟨he, h.1⟩, h.2⟩
set_option maxHeartbeats 400000 in
theorem itemT_bad (b g p : Nat) (B : List UInt8) (er : Int) (v : Value) (w : World) (h : Rd w b g B p er) (he : er ≠ 0) :
  Calls Tryz.prog 146 #[.agg #[.pointer (some ⟨b, 0, none⟩)], v] w fun e w' => e = gone p 110 ∧ Keeps (fun _ => False) w w' := by
 have HR : Hid (Rd w b g B p er) := h
 have he' : (er != 0) = true := by simpa using he
 clear h
 go_enter Tryz.func146, Tryz.ntmps146
 go_wp2_with fail
 have hK : Keeps (fun _ => False) w (w.alloc (.cells #[.pointer (some ⟨b, 0, none⟩)] 134)) := (Keeps.refl _ w).alloc _
 have hR1 := HR.out.kept hK (fun e => e) (fun e => e)
 refine (rFault_any b g p er B _ hR1).mono ?_
 rintro e w1 ⟨rfl, rfl⟩
 go_wp2_with fail
 refine (rAt_any b g p er B _ hR1).mono ?_
 rintro e w1 ⟨rfl, rfl⟩
 go_wp2
 exact ⟨rfl, rfl, hK⟩
set_option maxHeartbeats 400000 in
theorem itemT_good (b g p : Nat) (B : List UInt8) (v : Value) (w : World) (h : Rd w b g B p 0) :
  Calls Tryz.prog 146 #[.agg #[.pointer (some ⟨b, 0, none⟩)], v] w fun e w' => e = .returned v ∧ Keeps (fun _ => False) w w' := by
 have HR : Hid (Rd w b g B p 0) := h
 clear h
 go_enter Tryz.func146, Tryz.ntmps146
 go_wp2_with fail
 have hK : Keeps (fun _ => False) w (w.alloc (.cells #[.pointer (some ⟨b, 0, none⟩)] 134)) := (Keeps.refl _ w).alloc _
 have hR1 := HR.out.kept hK (fun e => e) (fun e => e)
 refine (rFault_any b g p 0 B _ hR1).mono ?_
 rintro e w1 ⟨rfl, rfl⟩
 go_wp2
 go_ret
 exact ⟨rfl, hK⟩
theorem itemT_any (b g p : Nat) (B : List UInt8) (er : Int) (v : Value) (w : World) (h : Rd w b g B p er) :
  Calls Tryz.prog 146 #[.agg #[.pointer (some ⟨b, 0, none⟩)], v] w fun e w' => ((er = 0 ∧ e = .returned v) ∨ (er ≠ 0 ∧ e = gone p 110)) ∧ Keeps (fun _ => False) w w' := by
 by_cases he : er = 0
 ·
  subst he
  exact (itemT_good b g p B v w h).mono fun e w' h => ⟨.inl ⟨rfl, h.1⟩, h.2⟩
 ·
  exact (itemT_bad b g p B er v w h he).mono fun e w' h => ⟨.inr ⟨he, h.1⟩, h.2⟩
theorem rdNum_bd {B : List UInt8} {p q : Nat} {n : Int} (h : rdNum B p = .ok (n, q)) : 0 ≤ n ∧ n < 4294967296 := by
 unfold rdNum at h
 split at h
 ·
  cases h
 ·
  cases h
  have := numV_lt B p 0 4
  unfold numV at this
  rw [if_neg (by omega), if_neg (by omega)] at this
  have e : (256 : Nat) ^ 4 = 4294967296 := by decide
  rw [e] at this
  exact ⟨by omega, by omega⟩
theorem rdNum_of (B : List UInt8) (p : Nat) : (numE B p 0 4 = 0 ∧ rdNum B p = .ok ((numV B p 0 4 : Nat), numP B p 0 4)) ∨ (numE B p 0 4 ≠ 0 ∧ rdNum B p = .error p ∧ numP B p 0 4 = p) := by
 unfold numE rdNum numV numP
 by_cases hl : B.length < p + 4
 ·
  right; simp [hl]
 ·
  left; simp [hl]
theorem rdU8_of (B : List UInt8) (p : Nat) : (numE B p 0 1 = 0 ∧ rdU8 B p = .ok (numV B p 0 1, numP B p 0 1)) ∨ (numE B p 0 1 ≠ 0 ∧ rdU8 B p = .error p ∧ numP B p 0 1 = p) := by
 unfold numE rdU8 numV numP
 by_cases hl : B.length < p + 1
 ·
  right; simp [hl]
 ·
  left; simp [hl]
theorem rdText_of (B : List UInt8) (p : Nat) : (txtE B p 0 255 = 0 ∧ rdText B p = .ok (⟨(txtV B p 0 255).toArray⟩, txtP B p 0 255)) ∨ (txtE B p 0 255 ≠ 0 ∧ rdText B p = .error p ∧ txtP B p 0 255 = p) := by
 unfold rdText
 by_cases hl : txtE B p 0 255 = 0
 ·
  left; simp [hl]
 ·
  right; simp [hl, txtP]
set_option maxHeartbeats 1000000 in
theorem number_any (b g p : Nat) (B : List UInt8) (w : World) (h : Rd w b g B p 0) :
  Calls Tryz.prog 121 #[.agg #[.pointer (some ⟨b, 0, none⟩)]] w fun e w' => ((∃ n q, rdNum B p = .ok (n, q) ∧ e = .returned (.int .i64 n) ∧ Rd w' b g B q 0) ∨ (∃ q, rdNum B p = .error q ∧ e = gone q 110)) ∧ Keeps (· = b) w w' := by
 obtain ⟨c, hc⟩ : ∃ c, c = w.heap.size := ⟨_, rfl⟩
 have HR : Hid (Rd w b g B p 0 ∧ c = w.heap.size) := ⟨h, hc⟩
 have hb : c ≠ b := by have := h.blk.lt; omega
 clear h
 go_enter Tryz.func121, Tryz.ntmps121
 go_wp2
 rw [← hc]
 obtain ⟨W, hW⟩ : ∃ W, W = w.alloc (.cells #[.pointer (some ⟨b, 0, none⟩)] 134) := ⟨_, rfl⟩
 have hB : Blk W c [.pointer (some ⟨b, 0, none⟩)] 134 := by rw [hW, hc]; exact Blk.new w _ _
 have hR : Rd W b g B p 0 := by rw [hW]; exact HR.out.1.kept ((Keeps.refl (fun _ => False) w).alloc _) (fun e => e) (fun e => e)
 have HK : Hid (Keeps (· = b) w W) := by rw [hW]; exact (Keeps.refl _ w).alloc _
 have p0 := hB.cell (i := 0) rfl
 rw [← hW]
 have HB : Hid (Blk W c [.pointer (some ⟨b, 0, none⟩)] 134 ∧ Rd W b g B p 0) := ⟨hB, hR⟩
 clear hW hB hR HR hc
 refine wp_region_panicTo (fun e w' => ((∃ n q, rdNum B p = .ok (n, q) ∧ e = .returned (.int .i64 n) ∧ Rd w' b g B q 0) ∨ (∃ q, rdNum B p = .error q ∧ e = gone q 110)) ∧ Keeps (· = b) w w') (fun c a w h1 h2 => ⟨h1, h2⟩) ?_
 obtain ⟨V, hV⟩ : ∃ V, numV B p 0 4 = V := ⟨_, rfl⟩
 have hlt := numV_lt B p 0 4
 rw [hV, show (256 : Nat) ^ 4 = 4294967296 from by decide] at hlt
 have hcv : IntKind.i64.wrap (V : Int) = V := by rw [IntKind.wrap_i64]; omega
 have HV : Hid (numV B p 0 4 = V) := hV
 clear hV
 go_region_held2 (fun w' => w'.cell? ⟨c, 0, none⟩ = some (.pointer (some ⟨b, 0, none⟩))) (first | exact hS | go_keep)
  (first
   | (go_at_call 120; refine (rU32_any b g p 0 B _ HB.out.2.drew).mono ?_; rintro e w2 ⟨rfl, hR2, hK2⟩; rw [HV.out]; have hS : w2.cell? ⟨c, 0, none⟩ = some (.pointer (some ⟨b, 0, none⟩)) := (HB.out.1.drew.kept hK2 hb).cell (i := 0) rfl)
   | (go_at_call 119; refine (item32_any b g _ B _ _ _ hR2).mono ?_; rintro e w3 ⟨⟨he, rfl⟩ | ⟨he, rfl⟩, hK3⟩; rotate_left; exact ⟨rfl, .inr ⟨p, (rdNum_of B p).elim (fun h => absurd h.1 he) (fun h => h.2.1), by rw [(rdNum_of B p).elim (fun h => absurd h.1 he) (fun h => h.2.2)]⟩, (HK.out.drew.trans hK2 fun _ _ e => e).trans hK3 fun _ _ e => e.elim⟩; have hS : w3.cell? ⟨c, 0, none⟩ = some (.pointer (some ⟨b, 0, none⟩)) := ((HB.out.1.drew.kept hK2 hb).kept hK3 fun e => e).cell (i := 0) rfl))
 refine PanicTo.normal ?_
 have HF : Hid ((∃ n q, rdNum B p = .ok (n, q) ∧ Ending.returned (Value.int .i64 V) = .returned (.int .i64 n) ∧ Rd w3 b g B q 0) ∧ Keeps (· = b) w w3) := by
  refine ⟨⟨V, numP B p 0 4, ?_, rfl, ?_⟩, (HK.out.drew.trans hK2 fun _ _ e => e).trans hK3 fun _ _ e => e.elim⟩
  ·
   rcases rdNum_of B p with h | h
   ·
    rw [h.2, HV.out]
   ·
    exact absurd he h.1
  ·
   have := hR2.kept hK3 (fun e => e) (fun e => e)
   rw [he] at this; exact this
 clear hR2 hK2 hK3 hS he
 go_wp2
 go_ret
 exact ⟨.inl HF.out.1, HF.out.2⟩
end Go.Proofs.YthegceijlfflfaaGreat
namespace Go.Proofs.YthegceijlfflfaaGreat
open Go.RowKit
set_option linter.unusedVariables false
set_option maxRecDepth 6000
structure Gon (w0 w : World) (b g : Nat) (B : List UInt8) (p : Nat) : Prop where
 rd : Rd w b g B p 0
 kp : Keeps (· = b) w0 w
theorem Gon.drew {w0 w : World} {b g p : Nat} {B : List UInt8} (h : Gon w0 w b g B p) : Gon w0 w.drew b g B p := ⟨h.rd.drew, h.kp.drew⟩
theorem number_step {w0 w : World} {b g p : Nat} {B : List UInt8} (h : Gon w0 w b g B p) :
  Calls Tryz.prog 121 #[.agg #[.pointer (some ⟨b, 0, none⟩)]] w fun e w' => ((∃ n q, rdNum B p = .ok (n, q) ∧ e = .returned (.int .i64 n) ∧ Gon w0 w' b g B q) ∨ (∃ q, rdNum B p = .error q ∧ e = gone q 110 ∧ Keeps (· = b) w0 w')) ∧ Keeps (· = b) w w' := by
 refine (number_any b g p B w h.rd).mono ?_
 rintro e w' ⟨⟨n, q, h1, h2, h3⟩ | ⟨q, h1, h2⟩, hK⟩
 ·
  exact ⟨.inl ⟨n, q, h1, h2, h3, h.kp.trans hK fun _ _ e => e⟩, hK⟩
 ·
  exact ⟨.inr ⟨q, h1, h2, h.kp.trans hK fun _ _ e => e⟩, hK⟩
theorem i64_of {n : Int} (h : 0 ≤ n ∧ n < 4294967296) : I64 n := ⟨by omega, by omega⟩
theorem i64_dec {n : Int} (h : 0 ≤ n ∧ n < 4294967296) : I64 (n - 1) := ⟨by omega, by omega⟩
theorem wrap_dec {n : Int} (h : 0 ≤ n ∧ n < 4294967296) : IntKind.i64.wrap (n - 1) = n - 1 := by rw [IntKind.wrap_i64]; omega
def SrcP (B : List UInt8) (p b g : Nat) (e : Ending) (w' : World) : Prop := ∃ n q, rdSrc B p = .ok (n, q) ∧ e = .returned (.bool n) ∧ Rd w' b g B q 0
set_option maxHeartbeats 1000000 in
theorem source_any (b g p : Nat) (B : List UInt8) (w : World) (h : Rd w b g B p 0) :
  Calls Tryz.prog 166 #[.agg #[.pointer (some ⟨b, 0, none⟩)]] w fun e w' => (SrcP B p b g e w' ∨ (∃ q, rdSrc B p = .error q ∧ e = gone q 110)) ∧ Keeps (· = b) w w' := by
 obtain ⟨c, hc⟩ : ∃ c, c = w.heap.size := ⟨_, rfl⟩
 have HR : Hid (Rd w b g B p 0 ∧ c = w.heap.size) := ⟨h, hc⟩
 have hb : c ≠ b := by have := h.blk.lt; omega
 clear h
 go_enter Tryz.func166, Tryz.ntmps166
 go_wp2_with fail
 rw [← hc]
 obtain ⟨W, hW⟩ : ∃ W, W = w.alloc (.cells #[.pointer (some ⟨b, 0, none⟩)] 134) := ⟨_, rfl⟩
 have hB : Blk W c [.pointer (some ⟨b, 0, none⟩)] 134 := by rw [hW, hc]; exact Blk.new w _ _
 have hR : Rd W b g B p 0 := by rw [hW]; exact HR.out.1.kept ((Keeps.refl (fun _ => False) w).alloc _) (fun e => e) (fun e => e)
 have HK : Hid (Keeps (· = b) w W) := by rw [hW]; exact (Keeps.refl _ w).alloc _
 have p0 := hB.cell (i := 0) rfl
 rw [← hW]
 have HB : Hid (Blk W c [.pointer (some ⟨b, 0, none⟩)] 134 ∧ Rd W b g B p 0) := ⟨hB, hR⟩
 clear hW hB hR HR hc
 refine (rAt_any b g p 0 B W HB.out.2).mono ?_
 rintro e w1 ⟨rfl, hw⟩
 obtain rfl := hw.symm
 clear hw
 go_wp2
 refine wp_region_panicTo (fun e w' => (SrcP B p b g e w' ∨ (∃ q, rdSrc B p = .error q ∧ e = gone q 110)) ∧ Keeps (· = b) w w') (fun c a w h1 h2 => ⟨h1, h2⟩) ?_
 obtain ⟨V, hV⟩ : ∃ V, numV B p 0 1 = V := ⟨_, rfl⟩
 have hlt := numV_lt B p 0 1
 rw [hV, show (256 : Nat) ^ 1 = 256 from by decide] at hlt
 have HV : Hid (numV B p 0 1 = V) := hV
 have HC : Hid (rdSrc B p = (rdU8 B p).bind _) := rfl
 clear hV
 go_region_held2 (fun w' => w'.cell? ⟨c, 0, none⟩ = some (.pointer (some ⟨b, 0, none⟩))) (first | exact hS | go_keep)
  (first
   | (go_at_call 143; refine (rU8_any b g p 0 B _ HB.out.2.drew).mono ?_; rintro e w2 ⟨rfl, hR2, hK2⟩; rw [HV.out]; have hS : w2.cell? ⟨c, 0, none⟩ = some (.pointer (some ⟨b, 0, none⟩)) := (HB.out.1.drew.kept hK2 hb).cell (i := 0) rfl)
   | (go_at_call 142; refine (item8_any b g _ B _ _ _ hR2).mono ?_; rintro e w3 ⟨⟨he, rfl⟩ | ⟨he, rfl⟩, hK3⟩; rotate_left; exact ⟨rfl, .inr ⟨p, bind_err HC.out ((rdU8_of B p).elim (fun h => absurd h.1 he) (fun h => h.2.1)), by rw [(rdU8_of B p).elim (fun h => absurd h.1 he) (fun h => h.2.2)]⟩, (HK.out.drew.trans hK2 fun _ _ e => e).trans hK3 fun _ _ e => e.elim⟩; have hS : w3.cell? ⟨c, 0, none⟩ = some (.pointer (some ⟨b, 0, none⟩)) := ((HB.out.1.drew.kept hK2 hb).kept hK3 fun e => e).cell (i := 0) rfl))
 refine PanicTo.normal ?_
 have hv : rdU8 B p = .ok (V, numP B p 0 1) := by
  rcases rdU8_of B p with h | h
  ·
   rw [h.2, HV.out]
  ·
   exact absurd he h.1
 have HF : Hid (rdSrc B p = (if 1 < V then .error p else .ok (V == 1, numP B p 0 1)) ∧ Rd w3 b g B (numP B p 0 1) 0 ∧ Keeps (· = b) w w3) := by
  refine ⟨bind_ok HC.out hv, ?_, (HK.out.drew.trans hK2 fun _ _ e => e).trans hK3 fun _ _ e => e.elim⟩
  have := hR2.kept hK3 (fun e => e) (fun e => e)
  rw [he] at this; exact this
 clear hR2 hK2 hK3 hS he hv
 by_cases h1 : 1 < V
 ·
  have h1' : (1 : Int) < V := by omega
  go_wp2
  exact ⟨rfl, .inr ⟨p, by rw [HF.out.1, if_pos h1], rfl⟩, HF.out.2.2⟩
 ·
  have h1' : ¬ (1 : Int) < V := by omega
  go_wp2
  go_ret
  refine ⟨.inl ⟨V == 1, _, by rw [HF.out.1, if_neg h1], ?_, HF.out.2.1⟩, HF.out.2.2⟩
  have : ((V : Int) == 1) = (V == 1) := by
   rw [Bool.eq_iff_iff]; simp; omega
  rw [← this]
  rfl
theorem source_step {w0 w : World} {b g p : Nat} {B : List UInt8} (h : Gon w0 w b g B p) :
  Calls Tryz.prog 166 #[.agg #[.pointer (some ⟨b, 0, none⟩)]] w fun e w' => ((∃ n q, rdSrc B p = .ok (n, q) ∧ e = .returned (.bool n) ∧ Gon w0 w' b g B q) ∨ (∃ q, rdSrc B p = .error q ∧ e = gone q 110 ∧ Keeps (· = b) w0 w')) ∧ Keeps (· = b) w w' := by
 refine (source_any b g p B w h.rd).mono ?_
 rintro e w' ⟨⟨n, q, h1, h2, h3⟩ | ⟨q, h1, h2⟩, hK⟩
 ·
  exact ⟨.inl ⟨n, q, h1, h2, h3, h.kp.trans hK fun _ _ e => e⟩, hK⟩
 ·
  exact ⟨.inr ⟨q, h1, h2, h.kp.trans hK fun _ _ e => e⟩, hK⟩
end Go.Proofs.YthegceijlfflfaaGreat
namespace Go.Proofs.YthegceijlfflfaaGreat
open Go.RowKit
set_option linter.unusedVariables false
set_option maxRecDepth 6000
set_option maxHeartbeats 2000000 in
theorem rwindow_any (b g p : Nat) (B : List UInt8) (w : World) (h : Rd w b g B p 0) :
  Calls Tryz.prog 145 #[.agg #[.pointer (some ⟨b, 0, none⟩)]] w fun e w' => ((∃ (x : Win) (q : Nat), rdWin B p = .ok (x, q) ∧ e = .returned x.v ∧ x.Fine ∧ Rd w' b g B q 0) ∨ (∃ q, rdWin B p = .error q ∧ e = gone q 110)) ∧ Keeps (· = b) w w' := by
 obtain ⟨c, hc⟩ : ∃ c, c = w.heap.size := ⟨_, rfl⟩
 have HR : Hid (Rd w b g B p 0) := h
 have hb : c ≠ b := by have := h.blk.lt; omega
 have hb1 : c + 1 ≠ b := by have := h.blk.lt; omega
 have HW : Hid (w.heap.size ≤ c) := by rw [hc]; exact Nat.le_refl _
 clear h
 go_enter Tryz.func145, Tryz.ntmps145
 go_wp2
 rw [← hc]
 obtain ⟨W, hW⟩ : ∃ W, W = (w.alloc (.cells #[.pointer (some ⟨b, 0, none⟩)] 134)).alloc (.cells #[.int .i64 0, .int .i64 0, .int .i64 0] 65) := ⟨_, rfl⟩
 have hB : Blk W c [.pointer (some ⟨b, 0, none⟩)] 134 := by rw [hW, hc]; exact (Blk.new w _ _).alloc _
 have hD : Blk W (c + 1) [.int .i64 0, .int .i64 0, .int .i64 0] 65 := by rw [hW, hc]; have := Blk.new (w.alloc (.cells #[.pointer (some ⟨b, 0, none⟩)] 134)) #[.int .i64 0, .int .i64 0, .int .i64 0] 65; simpa using this
 have hG0 : Gon w W b g B p := by rw [hW]; exact ⟨HR.out.kept (((Keeps.refl (fun _ => False) w).alloc _).alloc _) (fun e => e) (fun e => e), ((Keeps.refl _ w).alloc _).alloc _⟩
 have p0 := hB.cell (i := 0) rfl
 rw [← hW]
 have HB1 : Hid (Blk W.drew c [.pointer (some ⟨b, 0, none⟩)] 134) := hB.drew
 have HD1 : Hid (Blk W.drew (c + 1) [.int .i64 0, .int .i64 0, .int .i64 0] 65) := hD.drew
 have HG1 : Hid (Gon w W.drew b g B p) := hG0.drew
 have HC1 : Hid (rdWin B p = (rdNum B p).bind _) := rfl
 have HGB : Hid (g < c) := by rw [hc]; exact HR.out.bytes.lt
 clear hW hB hD hG0 HR hc
 refine wp_region_panicTo (fun e w' => ((∃ (x : Win) (q : Nat), rdWin B p = .ok (x, q) ∧ e = .returned x.v ∧ x.Fine ∧ Rd w' b g B q 0) ∨ (∃ q, rdWin B p = .error q ∧ e = gone q 110)) ∧ Keeps (· = b) w w') (fun c a w h1 h2 => ⟨h1, h2⟩) ?_
 go_region_held2 (fun w' => w'.cell? ⟨c, 0, none⟩ = some (.pointer (some ⟨b, 0, none⟩))) (first | exact hS | go_keep)
  (first
   | (go_at_call 121; refine (number_step HG3.out).mono ?_; rintro e w4 ⟨⟨n3, q3, hr, rfl, hG⟩ | ⟨q, hr, rfl, hK⟩, hK2⟩; rotate_left; exact ⟨rfl, .inr ⟨q, bind_err HC3.out hr, rfl⟩, hK⟩; have hS : w4.cell? ⟨c, 0, none⟩ = some (.pointer (some ⟨b, 0, none⟩)) := (HB3.out.kept hK2 hb).cell (i := 0) rfl; have HN3 : Hid (0 ≤ n3 ∧ n3 < 4294967296) := rdNum_bd hr; have HC' := bind_ok HC3.out hr; have HC4 : Hid (rdWin B p = _) := HC'; have HB4 : Hid (Blk w4 c [.pointer (some ⟨b, 0, none⟩)] 134) := HB3.out.kept hK2 hb; have HD' := HD3.out.kept hK2 hb1; have HD4 : Hid (Blk w4 (c + 1) [.int .i64 0, .int .i64 0, .int .i64 0] 65) := HD'; have HG4 : Hid (Gon w w4 b g B q3) := hG; have z0 := HD'.cell (i := 0) rfl; have f0 := HD'.frozen 0; have z1 := HD'.cell (i := 1) rfl; have f1 := HD'.frozen 1; have z2 := HD'.cell (i := 2) rfl; have f2 := HD'.frozen 2; clear hr hG hK2 HC' HD' HC3 HB3 HD3 HG3)
   | (go_at_call 121; refine (number_step HG2.out).mono ?_; rintro e w3 ⟨⟨n2, q2, hr, rfl, hG⟩ | ⟨q, hr, rfl, hK⟩, hK2⟩; rotate_left; exact ⟨rfl, .inr ⟨q, bind_err HC2.out hr, rfl⟩, hK⟩; have hS : w3.cell? ⟨c, 0, none⟩ = some (.pointer (some ⟨b, 0, none⟩)) := (HB2.out.kept hK2 hb).cell (i := 0) rfl; have HN2 : Hid (0 ≤ n2 ∧ n2 < 4294967296) := rdNum_bd hr; have HC' := bind_ok HC2.out hr; have HC3 : Hid (rdWin B p = _) := HC'; have HB3 : Hid (Blk w3 c [.pointer (some ⟨b, 0, none⟩)] 134) := HB2.out.kept hK2 hb; have HD' := HD2.out.kept hK2 hb1; have HD3 : Hid (Blk w3 (c + 1) [.int .i64 0, .int .i64 0, .int .i64 0] 65) := HD'; have HG3 : Hid (Gon w w3 b g B q2) := hG; skip; clear hr hG hK2 HC' HD' HC2 HB2 HD2 HG2)
   | (go_at_call 121; refine (number_step HG1.out).mono ?_; rintro e w2 ⟨⟨n1, q1, hr, rfl, hG⟩ | ⟨q, hr, rfl, hK⟩, hK2⟩; rotate_left; exact ⟨rfl, .inr ⟨q, bind_err HC1.out hr, rfl⟩, hK⟩; have hS : w2.cell? ⟨c, 0, none⟩ = some (.pointer (some ⟨b, 0, none⟩)) := (HB1.out.kept hK2 hb).cell (i := 0) rfl; have HN1 : Hid (0 ≤ n1 ∧ n1 < 4294967296) := rdNum_bd hr; have HC' := bind_ok HC1.out hr; have HC2 : Hid (rdWin B p = _) := HC'; have HB2 : Hid (Blk w2 c [.pointer (some ⟨b, 0, none⟩)] 134) := HB1.out.kept hK2 hb; have HD' := HD1.out.kept hK2 hb1; have HD2 : Hid (Blk w2 (c + 1) [.int .i64 0, .int .i64 0, .int .i64 0] 65) := HD'; have HG2 : Hid (Gon w w2 b g B q1) := hG; skip; clear hr hG hK2 HC' HD' HC1 HB1 HD1 HG1))
 refine PanicTo.normal ?_
 have HE : Hid (Blk (((w4.setCell ⟨c + 1, 0, none⟩ (.int .i64 (IntKind.i64.wrap (n1 - 1)))).setCell ⟨c + 1, 1, none⟩ (.int .i64 n2)).setCell ⟨c + 1, 2, none⟩ (.int .i64 n3)) (c + 1) [.int .i64 (IntKind.i64.wrap (n1 - 1)), .int .i64 n2, .int .i64 n3] 65) := (((HD4.out.setCell 0 (.int .i64 (IntKind.i64.wrap (n1 - 1)))).setCell 1 (.int .i64 n2)).setCell 2 (.int .i64 n3))
 have HKF : Hid (Keeps (· = b) w (((w4.setCell ⟨c + 1, 0, none⟩ (.int .i64 (IntKind.i64.wrap (n1 - 1)))).setCell ⟨c + 1, 1, none⟩ (.int .i64 n2)).setCell ⟨c + 1, 2, none⟩ (.int .i64 n3))) := (((HG4.out.kp.setCell ⟨c + 1, 0, none⟩ (.int .i64 (IntKind.i64.wrap (n1 - 1))) (fun h => by have := HW.out; simp at h; omega)).setCell ⟨c + 1, 1, none⟩ (.int .i64 n2) (fun h => by have := HW.out; simp at h; omega)).setCell ⟨c + 1, 2, none⟩ (.int .i64 n3) (fun h => by have := HW.out; simp at h; omega))
 have HRF : Hid (Rd (((w4.setCell ⟨c + 1, 0, none⟩ (.int .i64 (IntKind.i64.wrap (n1 - 1)))).setCell ⟨c + 1, 1, none⟩ (.int .i64 n2)).setCell ⟨c + 1, 2, none⟩ (.int .i64 n3)) b g B q3 0) := HG4.out.rd.kept ((((((Keeps.refl (· = c + 1) w4).setCell ⟨c + 1, 0, none⟩ (.int .i64 (IntKind.i64.wrap (n1 - 1))) (fun _ => rfl))).setCell ⟨c + 1, 1, none⟩ (.int .i64 n2) (fun _ => rfl))).setCell ⟨c + 1, 2, none⟩ (.int .i64 n3) (fun _ => rfl)) (fun e => hb1 e.symm) (fun e => by have := HG4.out.rd.ne; have := HGB.out; omega)
 obtain ⟨F, hF⟩ : ∃ F, F = (((w4.setCell ⟨c + 1, 0, none⟩ (.int .i64 (IntKind.i64.wrap (n1 - 1)))).setCell ⟨c + 1, 1, none⟩ (.int .i64 n2)).setCell ⟨c + 1, 2, none⟩ (.int .i64 n3)) := ⟨_, rfl⟩
 rw [← hF] at HE HKF HRF ⊢
 clear z0 f0 z1 f1 z2 f2 hF p0 hS HB4 HD4 HG4
 go_wp2
 refine bodyPost_ret (results_cell_row rfl _ _ (c + 1) 65 _ (0, 0) _ rfl HE.out Tryz.underlying65 rfl (by kernel_rfl)) rfl ?_
 refine ⟨.inl ⟨⟨n1 - 1, n2, n3⟩, q3, HC4.out, by rw [wrap_dec HN1.out], ⟨i64_dec HN1.out, i64_of HN2.out, i64_of HN3.out⟩, HRF.out⟩, HKF.out⟩
set_option maxHeartbeats 2000000 in
theorem rchannel_any (b g p : Nat) (B : List UInt8) (w : World) (h : Rd w b g B p 0) :
  Calls Tryz.prog 127 #[.agg #[.pointer (some ⟨b, 0, none⟩)]] w fun e w' => ((∃ (x : Chn) (q : Nat), rdChn B p = .ok (x, q) ∧ e = .returned x.v ∧ x.Fine ∧ Rd w' b g B q 0) ∨ (∃ q, rdChn B p = .error q ∧ e = gone q 110)) ∧ Keeps (· = b) w w' := by
 obtain ⟨c, hc⟩ : ∃ c, c = w.heap.size := ⟨_, rfl⟩
 have HR : Hid (Rd w b g B p 0) := h
 have hb : c ≠ b := by have := h.blk.lt; omega
 have hb1 : c + 1 ≠ b := by have := h.blk.lt; omega
 have HW : Hid (w.heap.size ≤ c) := by rw [hc]; exact Nat.le_refl _
 clear h
 go_enter Tryz.func127, Tryz.ntmps127
 go_wp2
 rw [← hc]
 obtain ⟨W, hW⟩ : ∃ W, W = (w.alloc (.cells #[.pointer (some ⟨b, 0, none⟩)] 134)).alloc (.cells #[.int .i64 0, .int .i64 0, .int .i64 0] 63) := ⟨_, rfl⟩
 have hB : Blk W c [.pointer (some ⟨b, 0, none⟩)] 134 := by rw [hW, hc]; exact (Blk.new w _ _).alloc _
 have hD : Blk W (c + 1) [.int .i64 0, .int .i64 0, .int .i64 0] 63 := by rw [hW, hc]; have := Blk.new (w.alloc (.cells #[.pointer (some ⟨b, 0, none⟩)] 134)) #[.int .i64 0, .int .i64 0, .int .i64 0] 63; simpa using this
 have hG0 : Gon w W b g B p := by rw [hW]; exact ⟨HR.out.kept (((Keeps.refl (fun _ => False) w).alloc _).alloc _) (fun e => e) (fun e => e), ((Keeps.refl _ w).alloc _).alloc _⟩
 have p0 := hB.cell (i := 0) rfl
 rw [← hW]
 have HB1 : Hid (Blk W.drew c [.pointer (some ⟨b, 0, none⟩)] 134) := hB.drew
 have HD1 : Hid (Blk W.drew (c + 1) [.int .i64 0, .int .i64 0, .int .i64 0] 63) := hD.drew
 have HG1 : Hid (Gon w W.drew b g B p) := hG0.drew
 have HC1 : Hid (rdChn B p = (rdNum B p).bind _) := rfl
 have HGB : Hid (g < c) := by rw [hc]; exact HR.out.bytes.lt
 clear hW hB hD hG0 HR hc
 refine wp_region_panicTo (fun e w' => ((∃ (x : Chn) (q : Nat), rdChn B p = .ok (x, q) ∧ e = .returned x.v ∧ x.Fine ∧ Rd w' b g B q 0) ∨ (∃ q, rdChn B p = .error q ∧ e = gone q 110)) ∧ Keeps (· = b) w w') (fun c a w h1 h2 => ⟨h1, h2⟩) ?_
 go_region_held2 (fun w' => w'.cell? ⟨c, 0, none⟩ = some (.pointer (some ⟨b, 0, none⟩))) (first | exact hS | go_keep)
  (first
   | (go_at_call 121; refine (number_step HG3.out).mono ?_; rintro e w4 ⟨⟨n3, q3, hr, rfl, hG⟩ | ⟨q, hr, rfl, hK⟩, hK2⟩; rotate_left; exact ⟨rfl, .inr ⟨q, bind_err HC3.out hr, rfl⟩, hK⟩; have hS : w4.cell? ⟨c, 0, none⟩ = some (.pointer (some ⟨b, 0, none⟩)) := (HB3.out.kept hK2 hb).cell (i := 0) rfl; have HN3 : Hid (0 ≤ n3 ∧ n3 < 4294967296) := rdNum_bd hr; have HC' := bind_ok HC3.out hr; have HC4 : Hid (rdChn B p = _) := HC'; have HB4 : Hid (Blk w4 c [.pointer (some ⟨b, 0, none⟩)] 134) := HB3.out.kept hK2 hb; have HD' := HD3.out.kept hK2 hb1; have HD4 : Hid (Blk w4 (c + 1) [.int .i64 0, .int .i64 0, .int .i64 0] 63) := HD'; have HG4 : Hid (Gon w w4 b g B q3) := hG; have z0 := HD'.cell (i := 0) rfl; have f0 := HD'.frozen 0; have z1 := HD'.cell (i := 1) rfl; have f1 := HD'.frozen 1; have z2 := HD'.cell (i := 2) rfl; have f2 := HD'.frozen 2; clear hr hG hK2 HC' HD' HC3 HB3 HD3 HG3)
   | (go_at_call 121; refine (number_step HG2.out).mono ?_; rintro e w3 ⟨⟨n2, q2, hr, rfl, hG⟩ | ⟨q, hr, rfl, hK⟩, hK2⟩; rotate_left; exact ⟨rfl, .inr ⟨q, bind_err HC2.out hr, rfl⟩, hK⟩; have hS : w3.cell? ⟨c, 0, none⟩ = some (.pointer (some ⟨b, 0, none⟩)) := (HB2.out.kept hK2 hb).cell (i := 0) rfl; have HN2 : Hid (0 ≤ n2 ∧ n2 < 4294967296) := rdNum_bd hr; have HC' := bind_ok HC2.out hr; have HC3 : Hid (rdChn B p = _) := HC'; have HB3 : Hid (Blk w3 c [.pointer (some ⟨b, 0, none⟩)] 134) := HB2.out.kept hK2 hb; have HD' := HD2.out.kept hK2 hb1; have HD3 : Hid (Blk w3 (c + 1) [.int .i64 0, .int .i64 0, .int .i64 0] 63) := HD'; have HG3 : Hid (Gon w w3 b g B q2) := hG; skip; clear hr hG hK2 HC' HD' HC2 HB2 HD2 HG2)
   | (go_at_call 121; refine (number_step HG1.out).mono ?_; rintro e w2 ⟨⟨n1, q1, hr, rfl, hG⟩ | ⟨q, hr, rfl, hK⟩, hK2⟩; rotate_left; exact ⟨rfl, .inr ⟨q, bind_err HC1.out hr, rfl⟩, hK⟩; have hS : w2.cell? ⟨c, 0, none⟩ = some (.pointer (some ⟨b, 0, none⟩)) := (HB1.out.kept hK2 hb).cell (i := 0) rfl; have HN1 : Hid (0 ≤ n1 ∧ n1 < 4294967296) := rdNum_bd hr; have HC' := bind_ok HC1.out hr; have HC2 : Hid (rdChn B p = _) := HC'; have HB2 : Hid (Blk w2 c [.pointer (some ⟨b, 0, none⟩)] 134) := HB1.out.kept hK2 hb; have HD' := HD1.out.kept hK2 hb1; have HD2 : Hid (Blk w2 (c + 1) [.int .i64 0, .int .i64 0, .int .i64 0] 63) := HD'; have HG2 : Hid (Gon w w2 b g B q1) := hG; skip; clear hr hG hK2 HC' HD' HC1 HB1 HD1 HG1))
 refine PanicTo.normal ?_
 have HE : Hid (Blk (((w4.setCell ⟨c + 1, 0, none⟩ (.int .i64 n1)).setCell ⟨c + 1, 1, none⟩ (.int .i64 n2)).setCell ⟨c + 1, 2, none⟩ (.int .i64 n3)) (c + 1) [.int .i64 n1, .int .i64 n2, .int .i64 n3] 63) := (((HD4.out.setCell 0 (.int .i64 n1)).setCell 1 (.int .i64 n2)).setCell 2 (.int .i64 n3))
 have HKF : Hid (Keeps (· = b) w (((w4.setCell ⟨c + 1, 0, none⟩ (.int .i64 n1)).setCell ⟨c + 1, 1, none⟩ (.int .i64 n2)).setCell ⟨c + 1, 2, none⟩ (.int .i64 n3))) := (((HG4.out.kp.setCell ⟨c + 1, 0, none⟩ (.int .i64 n1) (fun h => by have := HW.out; simp at h; omega)).setCell ⟨c + 1, 1, none⟩ (.int .i64 n2) (fun h => by have := HW.out; simp at h; omega)).setCell ⟨c + 1, 2, none⟩ (.int .i64 n3) (fun h => by have := HW.out; simp at h; omega))
 have HRF : Hid (Rd (((w4.setCell ⟨c + 1, 0, none⟩ (.int .i64 n1)).setCell ⟨c + 1, 1, none⟩ (.int .i64 n2)).setCell ⟨c + 1, 2, none⟩ (.int .i64 n3)) b g B q3 0) := HG4.out.rd.kept ((((((Keeps.refl (· = c + 1) w4).setCell ⟨c + 1, 0, none⟩ (.int .i64 n1) (fun _ => rfl))).setCell ⟨c + 1, 1, none⟩ (.int .i64 n2) (fun _ => rfl))).setCell ⟨c + 1, 2, none⟩ (.int .i64 n3) (fun _ => rfl)) (fun e => hb1 e.symm) (fun e => by have := HG4.out.rd.ne; have := HGB.out; omega)
 obtain ⟨F, hF⟩ : ∃ F, F = (((w4.setCell ⟨c + 1, 0, none⟩ (.int .i64 n1)).setCell ⟨c + 1, 1, none⟩ (.int .i64 n2)).setCell ⟨c + 1, 2, none⟩ (.int .i64 n3)) := ⟨_, rfl⟩
 rw [← hF] at HE HKF HRF ⊢
 clear z0 f0 z1 f1 z2 f2 hF p0 hS HB4 HD4 HG4
 go_wp2
 refine bodyPost_ret (results_cell_row rfl _ _ (c + 1) 63 _ (0, 0) _ rfl HE.out Tryz.underlying63 rfl (by kernel_rfl)) rfl ?_
 refine ⟨.inl ⟨⟨n1, n2, n3⟩, q3, HC4.out, rfl, ⟨i64_of HN1.out, i64_of HN2.out, i64_of HN3.out⟩, HRF.out⟩, HKF.out⟩
end Go.Proofs.YthegceijlfflfaaGreat
namespace Go.Proofs.YthegceijlfflfaaGreat
open Go.RowKit
set_option linter.unusedVariables false
set_option maxRecDepth 6000
set_option maxHeartbeats 2000000 in
theorem rregion_any (b g p : Nat) (B : List UInt8) (w : World) (h : Rd w b g B p 0) :
  Calls Tryz.prog 149 #[.agg #[.pointer (some ⟨b, 0, none⟩)]] w fun e w' => ((∃ (x : Rgn) (q : Nat), rdRgn B p = .ok (x, q) ∧ e = .returned x.v ∧ x.Fine ∧ Rd w' b g B q 0) ∨ (∃ q, rdRgn B p = .error q ∧ e = gone q 110)) ∧ Keeps (· = b) w w' := by
 obtain ⟨c, hc⟩ : ∃ c, c = w.heap.size := ⟨_, rfl⟩
 have HR : Hid (Rd w b g B p 0) := h
 have hb : c ≠ b := by have := h.blk.lt; omega
 have hb1 : c + 1 ≠ b := by have := h.blk.lt; omega
 have HW : Hid (w.heap.size ≤ c) := by rw [hc]; exact Nat.le_refl _
 clear h
 go_enter Tryz.func149, Tryz.ntmps149
 go_wp2
 rw [← hc]
 obtain ⟨W, hW⟩ : ∃ W, W = (w.alloc (.cells #[.pointer (some ⟨b, 0, none⟩)] 134)).alloc (.cells #[.int .i64 0, .int .i64 0, .int .i64 0, .int .i64 0] 98) := ⟨_, rfl⟩
 have hB : Blk W c [.pointer (some ⟨b, 0, none⟩)] 134 := by rw [hW, hc]; exact (Blk.new w _ _).alloc _
 have hD : Blk W (c + 1) [.int .i64 0, .int .i64 0, .int .i64 0, .int .i64 0] 98 := by rw [hW, hc]; have := Blk.new (w.alloc (.cells #[.pointer (some ⟨b, 0, none⟩)] 134)) #[.int .i64 0, .int .i64 0, .int .i64 0, .int .i64 0] 98; simpa using this
 have hG0 : Gon w W b g B p := by rw [hW]; exact ⟨HR.out.kept (((Keeps.refl (fun _ => False) w).alloc _).alloc _) (fun e => e) (fun e => e), ((Keeps.refl _ w).alloc _).alloc _⟩
 have p0 := hB.cell (i := 0) rfl
 rw [← hW]
 have HB1 : Hid (Blk W.drew c [.pointer (some ⟨b, 0, none⟩)] 134) := hB.drew
 have HD1 : Hid (Blk W.drew (c + 1) [.int .i64 0, .int .i64 0, .int .i64 0, .int .i64 0] 98) := hD.drew
 have HG1 : Hid (Gon w W.drew b g B p) := hG0.drew
 have HC1 : Hid (rdRgn B p = (rdNum B p).bind _) := rfl
 have HGB : Hid (g < c) := by rw [hc]; exact HR.out.bytes.lt
 clear hW hB hD hG0 HR hc
 refine wp_region_panicTo (fun e w' => ((∃ (x : Rgn) (q : Nat), rdRgn B p = .ok (x, q) ∧ e = .returned x.v ∧ x.Fine ∧ Rd w' b g B q 0) ∨ (∃ q, rdRgn B p = .error q ∧ e = gone q 110)) ∧ Keeps (· = b) w w') (fun c a w h1 h2 => ⟨h1, h2⟩) ?_
 go_region_held2 (fun w' => w'.cell? ⟨c, 0, none⟩ = some (.pointer (some ⟨b, 0, none⟩))) (first | exact hS | go_keep)
  (first
   | (go_at_call 121; refine (number_step HG4.out).mono ?_; rintro e w5 ⟨⟨n4, q4, hr, rfl, hG⟩ | ⟨q, hr, rfl, hK⟩, hK2⟩; rotate_left; exact ⟨rfl, .inr ⟨q, bind_err HC4.out hr, rfl⟩, hK⟩; have hS : w5.cell? ⟨c, 0, none⟩ = some (.pointer (some ⟨b, 0, none⟩)) := (HB4.out.kept hK2 hb).cell (i := 0) rfl; have HN4 : Hid (0 ≤ n4 ∧ n4 < 4294967296) := rdNum_bd hr; have HC' := bind_ok HC4.out hr; have HC5 : Hid (rdRgn B p = _) := HC'; have HB5 : Hid (Blk w5 c [.pointer (some ⟨b, 0, none⟩)] 134) := HB4.out.kept hK2 hb; have HD' := HD4.out.kept hK2 hb1; have HD5 : Hid (Blk w5 (c + 1) [.int .i64 0, .int .i64 0, .int .i64 0, .int .i64 0] 98) := HD'; have HG5 : Hid (Gon w w5 b g B q4) := hG; have z0 := HD'.cell (i := 0) rfl; have f0 := HD'.frozen 0; have z1 := HD'.cell (i := 1) rfl; have f1 := HD'.frozen 1; have z2 := HD'.cell (i := 2) rfl; have f2 := HD'.frozen 2; have z3 := HD'.cell (i := 3) rfl; have f3 := HD'.frozen 3; clear hr hG hK2 HC' HD' HC4 HB4 HD4 HG4)
   | (go_at_call 121; refine (number_step HG3.out).mono ?_; rintro e w4 ⟨⟨n3, q3, hr, rfl, hG⟩ | ⟨q, hr, rfl, hK⟩, hK2⟩; rotate_left; exact ⟨rfl, .inr ⟨q, bind_err HC3.out hr, rfl⟩, hK⟩; have hS : w4.cell? ⟨c, 0, none⟩ = some (.pointer (some ⟨b, 0, none⟩)) := (HB3.out.kept hK2 hb).cell (i := 0) rfl; have HN3 : Hid (0 ≤ n3 ∧ n3 < 4294967296) := rdNum_bd hr; have HC' := bind_ok HC3.out hr; have HC4 : Hid (rdRgn B p = _) := HC'; have HB4 : Hid (Blk w4 c [.pointer (some ⟨b, 0, none⟩)] 134) := HB3.out.kept hK2 hb; have HD' := HD3.out.kept hK2 hb1; have HD4 : Hid (Blk w4 (c + 1) [.int .i64 0, .int .i64 0, .int .i64 0, .int .i64 0] 98) := HD'; have HG4 : Hid (Gon w w4 b g B q3) := hG; skip; clear hr hG hK2 HC' HD' HC3 HB3 HD3 HG3)
   | (go_at_call 121; refine (number_step HG2.out).mono ?_; rintro e w3 ⟨⟨n2, q2, hr, rfl, hG⟩ | ⟨q, hr, rfl, hK⟩, hK2⟩; rotate_left; exact ⟨rfl, .inr ⟨q, bind_err HC2.out hr, rfl⟩, hK⟩; have hS : w3.cell? ⟨c, 0, none⟩ = some (.pointer (some ⟨b, 0, none⟩)) := (HB2.out.kept hK2 hb).cell (i := 0) rfl; have HN2 : Hid (0 ≤ n2 ∧ n2 < 4294967296) := rdNum_bd hr; have HC' := bind_ok HC2.out hr; have HC3 : Hid (rdRgn B p = _) := HC'; have HB3 : Hid (Blk w3 c [.pointer (some ⟨b, 0, none⟩)] 134) := HB2.out.kept hK2 hb; have HD' := HD2.out.kept hK2 hb1; have HD3 : Hid (Blk w3 (c + 1) [.int .i64 0, .int .i64 0, .int .i64 0, .int .i64 0] 98) := HD'; have HG3 : Hid (Gon w w3 b g B q2) := hG; skip; clear hr hG hK2 HC' HD' HC2 HB2 HD2 HG2)
   | (go_at_call 121; refine (number_step HG1.out).mono ?_; rintro e w2 ⟨⟨n1, q1, hr, rfl, hG⟩ | ⟨q, hr, rfl, hK⟩, hK2⟩; rotate_left; exact ⟨rfl, .inr ⟨q, bind_err HC1.out hr, rfl⟩, hK⟩; have hS : w2.cell? ⟨c, 0, none⟩ = some (.pointer (some ⟨b, 0, none⟩)) := (HB1.out.kept hK2 hb).cell (i := 0) rfl; have HN1 : Hid (0 ≤ n1 ∧ n1 < 4294967296) := rdNum_bd hr; have HC' := bind_ok HC1.out hr; have HC2 : Hid (rdRgn B p = _) := HC'; have HB2 : Hid (Blk w2 c [.pointer (some ⟨b, 0, none⟩)] 134) := HB1.out.kept hK2 hb; have HD' := HD1.out.kept hK2 hb1; have HD2 : Hid (Blk w2 (c + 1) [.int .i64 0, .int .i64 0, .int .i64 0, .int .i64 0] 98) := HD'; have HG2 : Hid (Gon w w2 b g B q1) := hG; skip; clear hr hG hK2 HC' HD' HC1 HB1 HD1 HG1))
 refine PanicTo.normal ?_
 have HE : Hid (Blk ((((w5.setCell ⟨c + 1, 0, none⟩ (.int .i64 n1)).setCell ⟨c + 1, 1, none⟩ (.int .i64 n2)).setCell ⟨c + 1, 2, none⟩ (.int .i64 n3)).setCell ⟨c + 1, 3, none⟩ (.int .i64 n4)) (c + 1) [.int .i64 n1, .int .i64 n2, .int .i64 n3, .int .i64 n4] 98) := ((((HD5.out.setCell 0 (.int .i64 n1)).setCell 1 (.int .i64 n2)).setCell 2 (.int .i64 n3)).setCell 3 (.int .i64 n4))
 have HKF : Hid (Keeps (· = b) w ((((w5.setCell ⟨c + 1, 0, none⟩ (.int .i64 n1)).setCell ⟨c + 1, 1, none⟩ (.int .i64 n2)).setCell ⟨c + 1, 2, none⟩ (.int .i64 n3)).setCell ⟨c + 1, 3, none⟩ (.int .i64 n4))) := ((((HG5.out.kp.setCell ⟨c + 1, 0, none⟩ (.int .i64 n1) (fun h => by have := HW.out; simp at h; omega)).setCell ⟨c + 1, 1, none⟩ (.int .i64 n2) (fun h => by have := HW.out; simp at h; omega)).setCell ⟨c + 1, 2, none⟩ (.int .i64 n3) (fun h => by have := HW.out; simp at h; omega)).setCell ⟨c + 1, 3, none⟩ (.int .i64 n4) (fun h => by have := HW.out; simp at h; omega))
 have HRF : Hid (Rd ((((w5.setCell ⟨c + 1, 0, none⟩ (.int .i64 n1)).setCell ⟨c + 1, 1, none⟩ (.int .i64 n2)).setCell ⟨c + 1, 2, none⟩ (.int .i64 n3)).setCell ⟨c + 1, 3, none⟩ (.int .i64 n4)) b g B q4 0) := HG5.out.rd.kept ((((((((Keeps.refl (· = c + 1) w5).setCell ⟨c + 1, 0, none⟩ (.int .i64 n1) (fun _ => rfl))).setCell ⟨c + 1, 1, none⟩ (.int .i64 n2) (fun _ => rfl))).setCell ⟨c + 1, 2, none⟩ (.int .i64 n3) (fun _ => rfl))).setCell ⟨c + 1, 3, none⟩ (.int .i64 n4) (fun _ => rfl)) (fun e => hb1 e.symm) (fun e => by have := HG5.out.rd.ne; have := HGB.out; omega)
 obtain ⟨F, hF⟩ : ∃ F, F = ((((w5.setCell ⟨c + 1, 0, none⟩ (.int .i64 n1)).setCell ⟨c + 1, 1, none⟩ (.int .i64 n2)).setCell ⟨c + 1, 2, none⟩ (.int .i64 n3)).setCell ⟨c + 1, 3, none⟩ (.int .i64 n4)) := ⟨_, rfl⟩
 rw [← hF] at HE HKF HRF ⊢
 clear z0 f0 z1 f1 z2 f2 z3 f3 hF p0 hS HB5 HD5 HG5
 go_wp2
 refine bodyPost_ret (results_cell_row rfl _ _ (c + 1) 98 _ (0, 0) _ rfl HE.out Tryz.underlying98 rfl (by kernel_rfl)) rfl ?_
 refine ⟨.inl ⟨⟨n1, n2, n3, n4⟩, q4, HC5.out, rfl, ⟨i64_of HN1.out, i64_of HN2.out, i64_of HN3.out, i64_of HN4.out⟩, HRF.out⟩, HKF.out⟩
set_option maxHeartbeats 2000000 in
theorem rport_any (b g p : Nat) (B : List UInt8) (w : World) (h : Rd w b g B p 0) :
  Calls Tryz.prog 151 #[.agg #[.pointer (some ⟨b, 0, none⟩)]] w fun e w' => ((∃ (x : Prt) (q : Nat), rdPrt B p = .ok (x, q) ∧ e = .returned x.v ∧ x.Fine ∧ Rd w' b g B q 0) ∨ (∃ q, rdPrt B p = .error q ∧ e = gone q 110)) ∧ Keeps (· = b) w w' := by
 obtain ⟨c, hc⟩ : ∃ c, c = w.heap.size := ⟨_, rfl⟩
 have HR : Hid (Rd w b g B p 0) := h
 have hb : c ≠ b := by have := h.blk.lt; omega
 have hb1 : c + 1 ≠ b := by have := h.blk.lt; omega
 have HW : Hid (w.heap.size ≤ c) := by rw [hc]; exact Nat.le_refl _
 clear h
 go_enter Tryz.func151, Tryz.ntmps151
 go_wp2
 rw [← hc]
 obtain ⟨W, hW⟩ : ∃ W, W = (w.alloc (.cells #[.pointer (some ⟨b, 0, none⟩)] 134)).alloc (.cells #[.int .i64 0, .bool false] 100) := ⟨_, rfl⟩
 have hB : Blk W c [.pointer (some ⟨b, 0, none⟩)] 134 := by rw [hW, hc]; exact (Blk.new w _ _).alloc _
 have hD : Blk W (c + 1) [.int .i64 0, .bool false] 100 := by rw [hW, hc]; have := Blk.new (w.alloc (.cells #[.pointer (some ⟨b, 0, none⟩)] 134)) #[.int .i64 0, .bool false] 100; simpa using this
 have hG0 : Gon w W b g B p := by rw [hW]; exact ⟨HR.out.kept (((Keeps.refl (fun _ => False) w).alloc _).alloc _) (fun e => e) (fun e => e), ((Keeps.refl _ w).alloc _).alloc _⟩
 have p0 := hB.cell (i := 0) rfl
 rw [← hW]
 have HB1 : Hid (Blk W.drew c [.pointer (some ⟨b, 0, none⟩)] 134) := hB.drew
 have HD1 : Hid (Blk W.drew (c + 1) [.int .i64 0, .bool false] 100) := hD.drew
 have HG1 : Hid (Gon w W.drew b g B p) := hG0.drew
 have HC1 : Hid (rdPrt B p = (rdNum B p).bind _) := rfl
 have HGB : Hid (g < c) := by rw [hc]; exact HR.out.bytes.lt
 clear hW hB hD hG0 HR hc
 refine wp_region_panicTo (fun e w' => ((∃ (x : Prt) (q : Nat), rdPrt B p = .ok (x, q) ∧ e = .returned x.v ∧ x.Fine ∧ Rd w' b g B q 0) ∨ (∃ q, rdPrt B p = .error q ∧ e = gone q 110)) ∧ Keeps (· = b) w w') (fun c a w h1 h2 => ⟨h1, h2⟩) ?_
 go_region_held2 (fun w' => w'.cell? ⟨c, 0, none⟩ = some (.pointer (some ⟨b, 0, none⟩))) (first | exact hS | go_keep)
  (first
   | (go_at_call 166; refine (source_step HG2.out).mono ?_; rintro e w3 ⟨⟨n2, q2, hr, rfl, hG⟩ | ⟨q, hr, rfl, hK⟩, hK2⟩; rotate_left; exact ⟨rfl, .inr ⟨q, bind_err HC2.out hr, rfl⟩, hK⟩; have hS : w3.cell? ⟨c, 0, none⟩ = some (.pointer (some ⟨b, 0, none⟩)) := (HB2.out.kept hK2 hb).cell (i := 0) rfl; have HC' := bind_ok HC2.out hr; have HC3 : Hid (rdPrt B p = _) := HC'; have HB3 : Hid (Blk w3 c [.pointer (some ⟨b, 0, none⟩)] 134) := HB2.out.kept hK2 hb; have HD' := HD2.out.kept hK2 hb1; have HD3 : Hid (Blk w3 (c + 1) [.int .i64 0, .bool false] 100) := HD'; have HG3 : Hid (Gon w w3 b g B q2) := hG; have z0 := HD'.cell (i := 0) rfl; have f0 := HD'.frozen 0; have z1 := HD'.cell (i := 1) rfl; have f1 := HD'.frozen 1; clear hr hG hK2 HC' HD' HC2 HB2 HD2 HG2)
   | (go_at_call 121; refine (number_step HG1.out).mono ?_; rintro e w2 ⟨⟨n1, q1, hr, rfl, hG⟩ | ⟨q, hr, rfl, hK⟩, hK2⟩; rotate_left; exact ⟨rfl, .inr ⟨q, bind_err HC1.out hr, rfl⟩, hK⟩; have hS : w2.cell? ⟨c, 0, none⟩ = some (.pointer (some ⟨b, 0, none⟩)) := (HB1.out.kept hK2 hb).cell (i := 0) rfl; have HN1 : Hid (0 ≤ n1 ∧ n1 < 4294967296) := rdNum_bd hr; have HC' := bind_ok HC1.out hr; have HC2 : Hid (rdPrt B p = _) := HC'; have HB2 : Hid (Blk w2 c [.pointer (some ⟨b, 0, none⟩)] 134) := HB1.out.kept hK2 hb; have HD' := HD1.out.kept hK2 hb1; have HD2 : Hid (Blk w2 (c + 1) [.int .i64 0, .bool false] 100) := HD'; have HG2 : Hid (Gon w w2 b g B q1) := hG; skip; clear hr hG hK2 HC' HD' HC1 HB1 HD1 HG1))
 refine PanicTo.normal ?_
 have HE : Hid (Blk ((w3.setCell ⟨c + 1, 0, none⟩ (.int .i64 n1)).setCell ⟨c + 1, 1, none⟩ (.bool n2)) (c + 1) [.int .i64 n1, .bool n2] 100) := ((HD3.out.setCell 0 (.int .i64 n1)).setCell 1 (.bool n2))
 have HKF : Hid (Keeps (· = b) w ((w3.setCell ⟨c + 1, 0, none⟩ (.int .i64 n1)).setCell ⟨c + 1, 1, none⟩ (.bool n2))) := ((HG3.out.kp.setCell ⟨c + 1, 0, none⟩ (.int .i64 n1) (fun h => by have := HW.out; simp at h; omega)).setCell ⟨c + 1, 1, none⟩ (.bool n2) (fun h => by have := HW.out; simp at h; omega))
 have HRF : Hid (Rd ((w3.setCell ⟨c + 1, 0, none⟩ (.int .i64 n1)).setCell ⟨c + 1, 1, none⟩ (.bool n2)) b g B q2 0) := HG3.out.rd.kept ((((Keeps.refl (· = c + 1) w3).setCell ⟨c + 1, 0, none⟩ (.int .i64 n1) (fun _ => rfl))).setCell ⟨c + 1, 1, none⟩ (.bool n2) (fun _ => rfl)) (fun e => hb1 e.symm) (fun e => by have := HG3.out.rd.ne; have := HGB.out; omega)
 obtain ⟨F, hF⟩ : ∃ F, F = ((w3.setCell ⟨c + 1, 0, none⟩ (.int .i64 n1)).setCell ⟨c + 1, 1, none⟩ (.bool n2)) := ⟨_, rfl⟩
 rw [← hF] at HE HKF HRF ⊢
 clear z0 f0 z1 f1 hF p0 hS HB3 HD3 HG3
 go_wp2
 refine bodyPost_ret (results_cell_row rfl _ _ (c + 1) 100 _ (0, 0) _ rfl HE.out Tryz.underlying100 rfl (by kernel_rfl)) rfl ?_
 refine ⟨.inl ⟨⟨n1, n2⟩, q2, HC3.out, rfl, i64_of HN1.out, HRF.out⟩, HKF.out⟩
end Go.Proofs.YthegceijlfflfaaGreat
