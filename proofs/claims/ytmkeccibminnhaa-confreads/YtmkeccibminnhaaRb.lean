import Derived.Test.YtmkeccibminnhaaRa
namespace Go.Proofs.Ytmkeccibminnhaa
open Go.RowKit
set_option linter.unusedVariables false
set_option maxRecDepth 6000

/-- The reader goes on. -/
structure Gon (w0 w : World) (b g : Nat) (B : List UInt8) (p : Nat) : Prop where
  rd : Rd w b g B p 0
  kp : Keeps (· = b) w0 w
theorem Gon.drew {w0 w : World} {b g p : Nat} {B : List UInt8} (h : Gon w0 w b g B p) : Gon w0 w.drew b g B p := ⟨h.rd.drew, h.kp.drew⟩
theorem number_step {w0 w : World} {b g p : Nat} {B : List UInt8} (h : Gon w0 w b g B p) :
    Calls Try.prog 68 #[.agg #[.pointer (some ⟨b, 0, none⟩)]] w fun e w' => ((∃ n q, rdNum B p = .ok (n, q) ∧ e = .returned (.int .i64 n) ∧ Gon w0 w' b g B q) ∨ (∃ q, rdNum B p = .error q ∧ e = gone q 110 ∧ Keeps (· = b) w0 w')) ∧ Keeps (· = b) w w' := by
  refine (number_any b g p B w h.rd).mono ?_
  rintro e w' ⟨⟨n, q, h1, h2, h3⟩ | ⟨q, h1, h2⟩, hK⟩
  · exact ⟨.inl ⟨n, q, h1, h2, h3, h.kp.trans hK fun _ _ e => e⟩, hK⟩
  · exact ⟨.inr ⟨q, h1, h2, h.kp.trans hK fun _ _ e => e⟩, hK⟩

theorem i64_of {n : Int} (h : 0 ≤ n ∧ n < 4294967296) : I64 n := ⟨by omega, by omega⟩
theorem i64_dec {n : Int} (h : 0 ≤ n ∧ n < 4294967296) : I64 (n - 1) := ⟨by omega, by omega⟩
theorem wrap_dec {n : Int} (h : 0 ≤ n ∧ n < 4294967296) : IntKind.i64.wrap (n - 1) = n - 1 := by rw [IntKind.wrap_i64]; omega
def SrcP (B : List UInt8) (p b g : Nat) (e : Ending) (w' : World) : Prop := ∃ n q, rdSrc B p = .ok (n, q) ∧ e = .returned (.bool n) ∧ Rd w' b g B q 0
set_option maxHeartbeats 1000000 in
theorem source_any (b g p : Nat) (B : List UInt8) (w : World) (h : Rd w b g B p 0) :
    Calls Try.prog 98 #[.agg #[.pointer (some ⟨b, 0, none⟩)]] w fun e w' => (SrcP B p b g e w' ∨ (∃ q, rdSrc B p = .error q ∧ e = gone q 110)) ∧ Keeps (· = b) w w' := by
  obtain ⟨c, hc⟩ : ∃ c, c = w.heap.size := ⟨_, rfl⟩
  have HR : Hid (Rd w b g B p 0 ∧ c = w.heap.size) := ⟨h, hc⟩
  have hb : c ≠ b := by have := h.blk.lt; omega
  clear h
  go_enter Try.func98, Try.ntmps98
  go_wp2_with fail
  rw [← hc]
  obtain ⟨W, hW⟩ : ∃ W, W = w.alloc (.cells #[.pointer (some ⟨b, 0, none⟩)] 99) := ⟨_, rfl⟩
  have hB : Blk W c [.pointer (some ⟨b, 0, none⟩)] 99 := by rw [hW, hc]; exact Blk.new w _ _
  have hR : Rd W b g B p 0 := by rw [hW]; exact HR.out.1.kept ((Keeps.refl (fun _ => False) w).alloc _) (fun e => e) (fun e => e)
  have HK : Hid (Keeps (· = b) w W) := by rw [hW]; exact (Keeps.refl _ w).alloc _
  have p0 := hB.cell (i := 0) rfl
  rw [← hW]
  have HB : Hid (Blk W c [.pointer (some ⟨b, 0, none⟩)] 99 ∧ Rd W b g B p 0) := ⟨hB, hR⟩
  clear hW hB hR HR hc
  refine (rAt_any b g p 0 B W HB.out.2).mono ?_
  rintro e w1 ⟨rfl, hw⟩
  obtain rfl := hw.symm
  clear hw
  go_wp2
  refine wp_region_panicTo (fun e w' => (SrcP B p b g e w' ∨ (∃ q, rdSrc B p = .error q ∧ e = gone q 110)) ∧ Keeps (· = b) w w') (fun c a w h1 h2 => ⟨h1, h2⟩) ?_
  obtain ⟨V, hV⟩ : ∃ V, numV B p 0 1 = V := ⟨_, rfl⟩
  have hlt := numV_lt B p 0 1
  rw [hV, show (256 : Nat) ^ 1 = 256 from by decide] at hlt
  have HV : Hid (numV B p 0 1 = V) := hV
  have HC : Hid (rdSrc B p = (rdU8 B p).bind _) := rfl
  clear hV
  go_region_held2 (fun w' => w'.cell? ⟨c, 0, none⟩ = some (.pointer (some ⟨b, 0, none⟩))) (first | exact hS | go_keep)
    (first
      | (go_at_call 85; refine (rU8_any b g p 0 B _ HB.out.2.drew).mono ?_; rintro e w2 ⟨rfl, hR2, hK2⟩; rw [HV.out]; have hS : w2.cell? ⟨c, 0, none⟩ = some (.pointer (some ⟨b, 0, none⟩)) := (HB.out.1.drew.kept hK2 hb).cell (i := 0) rfl)
      | (go_at_call 84; refine (item8_any b g _ B _ _ _ hR2).mono ?_; rintro e w3 ⟨⟨he, rfl⟩ | ⟨he, rfl⟩, hK3⟩; rotate_left; exact ⟨rfl, .inr ⟨p, bind_err HC.out ((rdU8_of B p).elim (fun h => absurd h.1 he) (fun h => h.2.1)), by rw [(rdU8_of B p).elim (fun h => absurd h.1 he) (fun h => h.2.2)]⟩, (HK.out.drew.trans hK2 fun _ _ e => e).trans hK3 fun _ _ e => e.elim⟩; have hS : w3.cell? ⟨c, 0, none⟩ = some (.pointer (some ⟨b, 0, none⟩)) := ((HB.out.1.drew.kept hK2 hb).kept hK3 fun e => e).cell (i := 0) rfl))
  refine PanicTo.normal ?_
  have hv : rdU8 B p = .ok (V, numP B p 0 1) := by
    rcases rdU8_of B p with h | h
    · rw [h.2, HV.out]
    · exact absurd he h.1
  have HF : Hid (rdSrc B p = (if 1 < V then .error p else .ok (V == 1, numP B p 0 1)) ∧ Rd w3 b g B (numP B p 0 1) 0 ∧ Keeps (· = b) w w3) := by
    refine ⟨bind_ok HC.out hv, ?_, (HK.out.drew.trans hK2 fun _ _ e => e).trans hK3 fun _ _ e => e.elim⟩
    have := hR2.kept hK3 (fun e => e) (fun e => e)
    rw [he] at this; exact this
  clear hR2 hK2 hK3 hS he hv
  by_cases h1 : 1 < V
  · have h1' : (1 : Int) < V := by omega
    go_wp2
    exact ⟨rfl, .inr ⟨p, by rw [HF.out.1, if_pos h1], rfl⟩, HF.out.2.2⟩
  · have h1' : ¬ (1 : Int) < V := by omega
    go_wp2
    go_ret
    refine ⟨.inl ⟨V == 1, _, by rw [HF.out.1, if_neg h1], ?_, HF.out.2.1⟩, HF.out.2.2⟩
    have : ((V : Int) == 1) = (V == 1) := by
      rw [Bool.eq_iff_iff]; simp; omega
    rw [← this]
    rfl
theorem source_step {w0 w : World} {b g p : Nat} {B : List UInt8} (h : Gon w0 w b g B p) :
    Calls Try.prog 98 #[.agg #[.pointer (some ⟨b, 0, none⟩)]] w fun e w' => ((∃ n q, rdSrc B p = .ok (n, q) ∧ e = .returned (.bool n) ∧ Gon w0 w' b g B q) ∨ (∃ q, rdSrc B p = .error q ∧ e = gone q 110 ∧ Keeps (· = b) w0 w')) ∧ Keeps (· = b) w w' := by
  refine (source_any b g p B w h.rd).mono ?_
  rintro e w' ⟨⟨n, q, h1, h2, h3⟩ | ⟨q, h1, h2⟩, hK⟩
  · exact ⟨.inl ⟨n, q, h1, h2, h3, h.kp.trans hK fun _ _ e => e⟩, hK⟩
  · exact ⟨.inr ⟨q, h1, h2, h.kp.trans hK fun _ _ e => e⟩, hK⟩

end Go.Proofs.Ytmkeccibminnhaa
