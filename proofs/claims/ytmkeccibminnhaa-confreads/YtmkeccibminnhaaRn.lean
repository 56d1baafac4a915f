import Derived.Test.YtmkeccibminnhaaRa
namespace Go.Proofs.Ytmkeccibminnhaa
open Go.RowKit
set_option linter.unusedVariables false
set_option maxRecDepth 6000

/-- The reader goes on. -/
structure Gon (w0 w : World) (b g : Nat) (B : List UInt8) (p : Nat) : Prop where
  rd : Rd w b g B p 0
  kp : Keeps (· = b) w0 w
theorem Gon.drew {w0 w : World} {b g p : Nat} {B : List UInt8} (h : Gon w0 w b g B p) : Gon w0 w.drew b g B p := ⟨h.rd.drew, h.kp.drew⟩
theorem number_step {w0 w : World} {b g p : Nat} {B : List UInt8} (h : Gon w0 w b g B p) :
    Calls Try.prog 68 #[.agg #[.pointer (some ⟨b, 0, none⟩)]] w fun e w' => ((∃ n q, rdNum B p = .ok (n, q) ∧ e = .returned (.int .i64 n) ∧ Gon w0 w' b g B q) ∨ (∃ q, rdNum B p = .error q ∧ e = gone q 110 ∧ Keeps (· = b) w0 w')) ∧ Keeps (· = b) w w' := by
  refine (number_any b g p B w h.rd).mono ?_
  rintro e w' ⟨⟨n, q, h1, h2, h3⟩ | ⟨q, h1, h2⟩, hK⟩
  · exact ⟨.inl ⟨n, q, h1, h2, h3, h.kp.trans hK fun _ _ e => e⟩, hK⟩
  · exact ⟨.inr ⟨q, h1, h2, h.kp.trans hK fun _ _ e => e⟩, hK⟩

theorem i64_of {n : Int} (h : 0 ≤ n ∧ n < 4294967296) : I64 n := ⟨by omega, by omega⟩
theorem i64_dec {n : Int} (h : 0 ≤ n ∧ n < 4294967296) : I64 (n - 1) := ⟨by omega, by omega⟩
theorem wrap_dec {n : Int} (h : 0 ≤ n ∧ n < 4294967296) : IntKind.i64.wrap (n - 1) = n - 1 := by rw [IntKind.wrap_i64]; omega
def SrcP (B : List UInt8) (p b g : Nat) (e : Ending) (w' : World) : Prop := ∃ n q, rdSrc B p = .ok (n, q) ∧ e = .returned (.bool n) ∧ Rd w' b g B q 0
set_option maxHeartbeats 1000000 in
theorem source_any (b g p : Nat) (B : List UInt8) (w : World) (h : Rd w b g B p 0) :
    Calls Try.prog 98 #[.agg #[.pointer (some ⟨b, 0, none⟩)]] w fun e w' => (SrcP B p b g e w' ∨ (∃ q, rdSrc B p = .error q ∧ e = gone q 110)) ∧ Keeps (· = b) w w' := by
  obtain ⟨c, hc⟩ : ∃ c, c = w.heap.size := ⟨_, rfl⟩
  have HR : Hid (Rd w b g B p 0 ∧ c = w.heap.size) := ⟨h, hc⟩
  have hb : c ≠ b := by have := h.blk.lt; omega
  clear h
  go_enter Try.func98, Try.ntmps98
  go_wp2_with fail
  rw [← hc]
  obtain ⟨W, hW⟩ : ∃ W, W = w.alloc (.cells #[.pointer (some ⟨b, 0, none⟩)] 99) := ⟨_, rfl⟩
  have hB : Blk W c [.pointer (some ⟨b, 0, none⟩)] 99 := by rw [hW, hc]; exact Blk.new w _ _
  have hR : Rd W b g B p 0 := by rw [hW]; exact HR.out.1.kept ((Keeps.refl (fun _ => False) w).alloc _) (fun e => e) (fun e => e)
  have HK : Hid (Keeps (· = b) w W) := by rw [hW]; exact (Keeps.refl _ w).alloc _
  have p0 := hB.cell (i := 0) rfl
  rw [← hW]
  have HB : Hid (Blk W c [.pointer (some ⟨b, 0, none⟩)] 99 ∧ Rd W b g B p 0) := ⟨hB, hR⟩
  clear hW hB hR HR hc
  refine (rAt_any b g p 0 B W HB.out.2).mono ?_
  rintro e w1 ⟨rfl, hw⟩
  obtain rfl := hw.symm
  clear hw
  go_wp2
  refine wp_region_panicTo (fun e w' => (SrcP B p b g e w' ∨ (∃ q, rdSrc B p = .error q ∧ e = gone q 110)) ∧ Keeps (· = b) w w') (fun c a w h1 h2 => ⟨h1, h2⟩) ?_
  obtain ⟨V, hV⟩ : ∃ V, numV B p 0 1 = V := ⟨_, rfl⟩
  have hlt := numV_lt B p 0 1
  rw [hV, show (256 : Nat) ^ 1 = 256 from by decide] at hlt
  have HV : Hid (numV B p 0 1 = V) := hV
  have HC : Hid (rdSrc B p = (rdU8 B p).bind _) := rfl
  clear hV
  go_region_held2 (fun w' => w'.cell? ⟨c, 0, none⟩ = some (.pointer (some ⟨b, 0, none⟩))) (first | exact hS | go_keep)
    (first
      | (go_at_call 85; refine (rU8_any b g p 0 B _ HB.out.2.drew).mono ?_; rintro e w2 ⟨rfl, hR2, hK2⟩; rw [HV.out]; have hS : w2.cell? ⟨c, 0, none⟩ = some (.pointer (some ⟨b, 0, none⟩)) := (HB.out.1.drew.kept hK2 hb).cell (i := 0) rfl)
      | (go_at_call 84; refine (item8_any b g _ B _ _ _ hR2).mono ?_; rintro e w3 ⟨⟨he, rfl⟩ | ⟨he, rfl⟩, hK3⟩; rotate_left; exact ⟨rfl, .inr ⟨p, bind_err HC.out ((rdU8_of B p).elim (fun h => absurd h.1 he) (fun h => h.2.1)), by rw [(rdU8_of B p).elim (fun h => absurd h.1 he) (fun h => h.2.2)]⟩, (HK.out.drew.trans hK2 fun _ _ e => e).trans hK3 fun _ _ e => e.elim⟩; have hS : w3.cell? ⟨c, 0, none⟩ = some (.pointer (some ⟨b, 0, none⟩)) := ((HB.out.1.drew.kept hK2 hb).kept hK3 fun e => e).cell (i := 0) rfl))
  refine PanicTo.normal ?_
  have hv : rdU8 B p = .ok (V, numP B p 0 1) := by
    rcases rdU8_of B p with h | h
    · rw [h.2, HV.out]
    · exact absurd he h.1
  have HF : Hid (rdSrc B p = (if 1 < V then .error p else .ok (V == 1, numP B p 0 1)) ∧ Rd w3 b g B (numP B p 0 1) 0 ∧ Keeps (· = b) w w3) := by
    refine ⟨bind_ok HC.out hv, ?_, (HK.out.drew.trans hK2 fun _ _ e => e).trans hK3 fun _ _ e => e.elim⟩
    have := hR2.kept hK3 (fun e => e) (fun e => e)
    rw [he] at this; exact this
  clear hR2 hK2 hK3 hS he hv
  by_cases h1 : 1 < V
  · have h1' : (1 : Int) < V := by omega
    go_wp2
    exact ⟨rfl, .inr ⟨p, by rw [HF.out.1, if_pos h1], rfl⟩, HF.out.2.2⟩
  · have h1' : ¬ (1 : Int) < V := by omega
    go_wp2
    go_ret
    refine ⟨.inl ⟨V == 1, _, by rw [HF.out.1, if_neg h1], ?_, HF.out.2.1⟩, HF.out.2.2⟩
    have : ((V : Int) == 1) = (V == 1) := by
      rw [Bool.eq_iff_iff]; simp; omega
    rw [← this]
    rfl
theorem source_step {w0 w : World} {b g p : Nat} {B : List UInt8} (h : Gon w0 w b g B p) :
    Calls Try.prog 98 #[.agg #[.pointer (some ⟨b, 0, none⟩)]] w fun e w' => ((∃ n q, rdSrc B p = .ok (n, q) ∧ e = .returned (.bool n) ∧ Gon w0 w' b g B q) ∨ (∃ q, rdSrc B p = .error q ∧ e = gone q 110 ∧ Keeps (· = b) w0 w')) ∧ Keeps (· = b) w w' := by
  refine (source_any b g p B w h.rd).mono ?_
  rintro e w' ⟨⟨n, q, h1, h2, h3⟩ | ⟨q, h1, h2⟩, hK⟩
  · exact ⟨.inl ⟨n, q, h1, h2, h3, h.kp.trans hK fun _ _ e => e⟩, hK⟩
  · exact ⟨.inr ⟨q, h1, h2, h.kp.trans hK fun _ _ e => e⟩, hK⟩

end Go.Proofs.Ytmkeccibminnhaa
namespace Go.Proofs.Ytmkeccibminnhaa
open Go.RowKit
set_option linter.unusedVariables false
set_option maxRecDepth 6000

def rdMark (B : List UInt8) (p : Nat) : Rs Unit := (rdNum B p).bind fun r => if r.1 = 826493762 then .ok ((), r.2) else .error p

set_option maxHeartbeats 1000000 in
theorem mark_any (b g p : Nat) (B : List UInt8) (w : World) (h : Rd w b g B p 0) :
    Calls Try.prog 49 #[.agg #[.pointer (some ⟨b, 0, none⟩)]] w fun e w' => ((∃ q, rdMark B p = .ok ((), q) ∧ e = .returned (.tuple #[]) ∧ Rd w' b g B q 0) ∨ (∃ q, rdMark B p = .error q ∧ e = gone q 110)) ∧ Keeps (· = b) w w' := by
  have HC : Hid (rdMark B p = (rdNum B p).bind _) := rfl
  obtain ⟨c, hc⟩ : ∃ c, c = w.heap.size := ⟨_, rfl⟩
  have HR : Hid (Rd w b g B p 0 ∧ c = w.heap.size) := ⟨h, hc⟩
  have hb : c ≠ b := by have := h.blk.lt; omega
  clear h
  go_enter Try.func49, Try.ntmps49
  go_wp2_with fail
  rw [← hc]
  obtain ⟨W, hW⟩ : ∃ W, W = w.alloc (.cells #[.pointer (some ⟨b, 0, none⟩)] 99) := ⟨_, rfl⟩
  have hB : Blk W c [.pointer (some ⟨b, 0, none⟩)] 99 := by rw [hW, hc]; exact Blk.new w _ _
  have hR : Rd W b g B p 0 := by rw [hW]; exact HR.out.1.kept ((Keeps.refl (fun _ => False) w).alloc _) (fun e => e) (fun e => e)
  have HK : Hid (Keeps (· = b) w W) := by rw [hW]; exact (Keeps.refl _ w).alloc _
  have p0 := hB.cell (i := 0) rfl
  rw [← hW]
  have HB : Hid (Blk W c [.pointer (some ⟨b, 0, none⟩)] 99 ∧ Rd W b g B p 0) := ⟨hB, hR⟩
  clear hW hB hR HR hc
  refine (rAt_any b g p 0 B W HB.out.2).mono ?_
  rintro e w1 ⟨rfl, hw⟩
  obtain rfl := hw.symm
  clear hw
  go_wp2
  refine wp_region_panicTo (fun e w' => ((∃ q, rdMark B p = .ok ((), q) ∧ e = .returned (.tuple #[]) ∧ Rd w' b g B q 0) ∨ (∃ q, rdMark B p = .error q ∧ e = gone q 110)) ∧ Keeps (· = b) w w') (fun c a w h1 h2 => ⟨h1, h2⟩) ?_
  obtain ⟨V, hV⟩ : ∃ V, numV B p 0 4 = V := ⟨_, rfl⟩
  have hlt := numV_lt B p 0 4
  rw [hV, show (256 : Nat) ^ 4 = 4294967296 from by decide] at hlt
  have HV : Hid (numV B p 0 4 = V) := hV
  clear hV
  go_region_held2 (fun w' => w'.cell? ⟨c, 0, none⟩ = some (.pointer (some ⟨b, 0, none⟩))) (first | exact hS | go_keep)
    (first
      | (go_at_call 67; refine (rU32_any b g p 0 B _ HB.out.2.drew).mono ?_; rintro e w2 ⟨rfl, hR2, hK2⟩; rw [HV.out]; have hS : w2.cell? ⟨c, 0, none⟩ = some (.pointer (some ⟨b, 0, none⟩)) := (HB.out.1.drew.kept hK2 hb).cell (i := 0) rfl)
      | (go_at_call 66; refine (item32_any b g _ B _ _ _ hR2).mono ?_; rintro e w3 ⟨⟨he, rfl⟩ | ⟨he, rfl⟩, hK3⟩; rotate_left; exact ⟨rfl, .inr ⟨p, bind_err HC.out ((rdNum_of B p).elim (fun h => absurd h.1 he) (fun h => h.2.1)), by rw [(rdNum_of B p).elim (fun h => absurd h.1 he) (fun h => h.2.2)]⟩, (HK.out.drew.trans hK2 fun _ _ e => e).trans hK3 fun _ _ e => e.elim⟩; have hS : w3.cell? ⟨c, 0, none⟩ = some (.pointer (some ⟨b, 0, none⟩)) := ((HB.out.1.drew.kept hK2 hb).kept hK3 fun e => e).cell (i := 0) rfl))
  refine PanicTo.normal ?_
  have hv : rdNum B p = .ok ((V : Int), numP B p 0 4) := by
    rcases rdNum_of B p with h | h
    · rw [h.2, HV.out]
    · exact absurd he h.1
  obtain ⟨P1, hP1⟩ : ∃ P1, numP B p 0 4 = P1 := ⟨_, rfl⟩
  rw [hP1] at hv hR2
  have HF : Hid (rdNum B p = .ok ((V : Int), P1) ∧ Rd w3 b g B P1 0 ∧ Keeps (· = b) w w3 ∧ Blk w3 c [.pointer (some ⟨b, 0, none⟩)] 99) := by
    refine ⟨hv, ?_, (HK.out.drew.trans hK2 fun _ _ e => e).trans hK3 fun _ _ e => e.elim, (HB.out.1.drew.kept hK2 hb).kept hK3 fun e => e⟩
    have := hR2.kept hK3 (fun e => e) (fun e => e)
    rw [he] at this; exact this
  clear hR2 hK2 hK3 hS he hv hP1 HB HV p0
  have HD := bind_ok HC.out HF.out.1
  by_cases hm : V = 826493762
  · have HM : Hid (rdMark B p = .ok ((), P1)) := by
      show rdMark B p = .ok ((), P1)
      rw [HD, if_pos (show ((V : Int), P1).1 = 826493762 by show (V : Int) = 826493762; omega)]
    have hm' : ((V : Int) != 826493762) = false := by simp; omega
    clear HD hm
    go_wp2
    go_end0
    exact ⟨.inl ⟨P1, HM.out, rfl, HF.out.2.1⟩, HF.out.2.2.1⟩
  · have HM : Hid (rdMark B p = .error p) := by
      show rdMark B p = .error p
      rw [HD, if_neg (show ¬ ((V : Int), P1).1 = 826493762 by show ¬ (V : Int) = 826493762; omega)]
    have hm' : ((V : Int) != 826493762) = true := by simp; omega
    clear HD hm
    go_wp2
    exact ⟨rfl, .inr ⟨p, HM.out, rfl⟩, HF.out.2.2.1⟩

/-- The end: the sum, and nothing behind it. -/
def rdEnd (B : List UInt8) (p : Nat) : Except (Nat × Int) Unit :=
  if B.length < p + 4 then .error (p, 110) else if p + 4 < B.length then .error (p + 4, 110) else if highN ((B.drop p).take 4) = sumN (B.take p) then .ok () else .error (p, 111)

theorem seg_take (w : World) (a : Option Addr) (xs : List UInt8) (h : Seg w a xs) (n : Nat) : Seg w a (xs.take n) := by
  rcases h with h | ⟨g, o, ha, hc⟩
  · left; rw [h]; simp
  · refine .inr ⟨g, o, ha, fun j hj => ?_⟩
    rw [List.length_take] at hj
    have := hc j (by omega)
    rw [List.getElem_take]; exact this
theorem Seg.keptB {S : Nat → Prop} {w w' : World} {a : Option Addr} {xs : List UInt8} (h : Seg w a xs) (hK : Keeps S w w') (hn : xs ≠ [] → ∀ y, a = some y → ¬ S y.block) : Seg w' a xs := by
  rcases h with h | ⟨g, o, ha, hc⟩
  · exact .inl h
  · refine .inr ⟨g, o, ha, fun j hj => ?_⟩
    have h1 := hc j hj
    rw [World.cell?_of_block (w := w) (hK.block g (World.block_lt_of_cell? w _ h1) (hn (fun e => by rw [e] at hj; simp at hj) _ ha))]
    exact h1

theorem rdNum_len {B : List UInt8} {p q : Nat} (h : rdNum B p = .error q) : B.length < p + 4 := by
  unfold rdNum at h; split at h
  · assumption
  · cases h
theorem rdNum_ok {B : List UInt8} {p q V : Nat} (h : rdNum B p = .ok ((V : Int), q)) : ¬ B.length < p + 4 ∧ q = p + 4 ∧ V = highN ((B.drop p).take 4) := by
  unfold rdNum at h; split at h
  · cases h
  · rename_i hn
    injection h with h
    injection h with h1 h2
    exact ⟨hn, h2.symm, by omega⟩
theorem rdEnd_short {B : List UInt8} {p : Nat} (h : B.length < p + 4) : rdEnd B p = .error (p, 110) := by unfold rdEnd; rw [if_pos h]

set_option maxHeartbeats 1000000 in
theorem rsum_any (b g p : Nat) (B : List UInt8) (a : Option Addr) (cap : Nat) (w : World) (h : Rd w b g B p 0) (hs : Seg w a B) (hno : B ≠ [] → ∀ y, a = some y → y.block ≠ b) (hcap : B.length ≤ cap ∧ cap ≤ maxLen) :
    Calls Try.prog 51 #[.agg #[.pointer (some ⟨b, 0, none⟩)], .slice a B.length cap] w fun e w' => ((rdEnd B p = .ok () ∧ e = .returned (.tuple #[])) ∨ (∃ q k, rdEnd B p = .error (q, k) ∧ e = gone q k)) ∧ Keeps (· = b) w w' := by
  obtain ⟨L, hL⟩ : ∃ L, B.length = L := ⟨_, rfl⟩
  have HL : Hid (B.length = L ∧ Seg w a B ∧ (B ≠ [] → ∀ y, a = some y → y.block ≠ b)) := ⟨hL, hs, hno⟩
  rw [hL] at hcap ⊢
  obtain ⟨hc1, hc2⟩ := hcap
  have hc1' : (L : Int) ≤ cap := by omega
  have hc2' : (cap : Int) ≤ 9223372036854775807 := by unfold maxLen at hc2; omega
  clear hL hs hno hc2
  obtain ⟨c, hc⟩ : ∃ c, c = w.heap.size := ⟨_, rfl⟩
  have HR : Hid (Rd w b g B p 0 ∧ c = w.heap.size) := ⟨h, hc⟩
  have hb : c ≠ b := by have := h.blk.lt; omega
  clear h
  go_enter Try.func51, Try.ntmps51
  go_wp2_with fail
  rw [← hc]
  obtain ⟨W, hW⟩ : ∃ W, W = w.alloc (.cells #[.pointer (some ⟨b, 0, none⟩)] 99) := ⟨_, rfl⟩
  have hB : Blk W c [.pointer (some ⟨b, 0, none⟩)] 99 := by rw [hW, hc]; exact Blk.new w _ _
  have hR : Rd W b g B p 0 := by rw [hW]; exact HR.out.1.kept ((Keeps.refl (fun _ => False) w).alloc _) (fun e => e) (fun e => e)
  have HK : Hid (Keeps (· = b) w W) := by rw [hW]; exact (Keeps.refl _ w).alloc _
  have p0 := hB.cell (i := 0) rfl
  rw [← hW]
  have HB : Hid (Blk W c [.pointer (some ⟨b, 0, none⟩)] 99 ∧ Rd W b g B p 0) := ⟨hB, hR⟩
  clear hW hB hR HR hc
  refine (rAt_any b g p 0 B W HB.out.2).mono ?_
  rintro e w1 ⟨rfl, hw⟩
  obtain rfl := hw.symm
  clear hw
  go_wp2
  refine wp_region_panicTo (fun e w' => ((rdEnd B p = .ok () ∧ e = .returned (.tuple #[])) ∨ (∃ q k, rdEnd B p = .error (q, k) ∧ e = gone q k)) ∧ Keeps (· = b) w w') (fun c a w h1 h2 => ⟨h1, h2⟩) ?_
  obtain ⟨V, hV⟩ : ∃ V, numV B p 0 4 = V := ⟨_, rfl⟩
  have hlt := numV_lt B p 0 4
  rw [hV, show (256 : Nat) ^ 4 = 4294967296 from by decide] at hlt
  have HV : Hid (numV B p 0 4 = V) := hV
  clear hV
  go_region_held2 (fun w' => w'.cell? ⟨c, 0, none⟩ = some (.pointer (some ⟨b, 0, none⟩))) (first | exact hS | go_keep)
    (first
      | (go_at_call 67; refine (rU32_any b g p 0 B _ HB.out.2.drew).mono ?_; rintro e w2 ⟨rfl, hR2, hK2⟩; rw [HV.out]; have hS : w2.cell? ⟨c, 0, none⟩ = some (.pointer (some ⟨b, 0, none⟩)) := (HB.out.1.drew.kept hK2 hb).cell (i := 0) rfl)
      | (go_at_call 66; refine (item32_any b g _ B _ _ _ hR2).mono ?_; rintro e w3 ⟨⟨he, rfl⟩ | ⟨he, rfl⟩, hK3⟩; rotate_left; exact ⟨rfl, .inr ⟨p, 110, rdEnd_short (rdNum_len ((rdNum_of B p).elim (fun h => absurd h.1 he) (fun h => h.2.1))), by rw [(rdNum_of B p).elim (fun h => absurd h.1 he) (fun h => h.2.2)]⟩, (HK.out.drew.trans hK2 fun _ _ e => e).trans hK3 fun _ _ e => e.elim⟩; have hS : w3.cell? ⟨c, 0, none⟩ = some (.pointer (some ⟨b, 0, none⟩)) := ((HB.out.1.drew.kept hK2 hb).kept hK3 fun e => e).cell (i := 0) rfl))
  refine PanicTo.normal ?_
  have hv : rdNum B p = .ok ((V : Int), numP B p 0 4) := by
    rcases rdNum_of B p with h | h
    · rw [h.2, HV.out]
    · exact absurd he h.1
  obtain ⟨P1, hP1⟩ : ∃ P1, numP B p 0 4 = P1 := ⟨_, rfl⟩
  rw [hP1] at hv hR2
  have HF : Hid (rdNum B p = .ok ((V : Int), P1) ∧ Rd w3 b g B P1 0 ∧ Keeps (· = b) w w3 ∧ Blk w3 c [.pointer (some ⟨b, 0, none⟩)] 99) := by
    refine ⟨hv, ?_, (HK.out.drew.trans hK2 fun _ _ e => e).trans hK3 fun _ _ e => e.elim, (HB.out.1.drew.kept hK2 hb).kept hK3 fun e => e⟩
    have := hR2.kept hK3 (fun e => e) (fun e => e)
    rw [he] at this; exact this
  clear hR2 hK2 hK3 hS he hv hP1 HB HV p0
  obtain ⟨hlen, hP1, hVV⟩ := rdNum_ok HF.out.1
  have p1 := HF.out.2.2.2.cell (i := 0) rfl
  have HX : Hid (¬ B.length < p + 4 ∧ P1 = p + 4 ∧ V = highN ((B.drop p).take 4)) := ⟨hlen, hP1, hVV⟩
  clear hlen hP1 hVV
  go_wp2_with fail
  refine (rLeft_any b g P1 0 B w3 HF.out.2.1).mono ?_
  rintro e w4 ⟨rfl, hw⟩
  obtain rfl := hw.symm
  clear hw
  have hP1 : P1 ≤ L := by have := HX.out; have := HL.out.1; omega
  rw [HL.out.1]
  by_cases hl : P1 < L
  · have hl' : (0 : Int) < (L : Int) - P1 := by omega
    go_wp2_with fail
    refine (rAt_any b g P1 0 B w3 HF.out.2.1).mono ?_
    rintro e w4 ⟨rfl, hw⟩
    obtain rfl := hw.symm
    clear hw
    go_wp2
    refine ⟨rfl, .inr ⟨P1, 110, ?_, rfl⟩, HF.out.2.2.1⟩
    have h1 := HX.out; have h2 := HL.out.1
    unfold rdEnd
    rw [if_neg h1.1, if_pos (by omega), h1.2.1]
  · have hl' : ¬ (0 : Int) < (L : Int) - P1 := by omega
    obtain ⟨x, hx⟩ : ∃ x, a = some x := by
      rcases HL.out.2.1 with h | ⟨g', o', h, _⟩
      · have h1 := HX.out.1; rw [h] at h1; simp at h1
      · exact ⟨_, h⟩
    have hpL : (p : Int) ≤ L := by have := HX.out.2.1; omega
    have hpc : (p : Int) ≤ cap := by omega
    subst hx
    obtain ⟨xb, xo, xs⟩ := x
    go_wp2_with fail
    have hseg : Seg w3 (some ⟨xb, xo, xs⟩) (B.take p) := seg_take _ _ _ (HL.out.2.1.keptB HF.out.2.2.1 fun h1 y h2 => HL.out.2.2 h1 y h2) p
    have hlt2 : (B.take p).length = p := by rw [List.length_take]; have := HX.out.1; omega
    have HC := sum_any (some ⟨xb, xo, xs⟩) cap (B.take p) w3 hseg (by rw [hlt2]; unfold maxLen; omega)
    rw [hlt2] at HC
    refine HC.mono ?_
    rintro e w4 ⟨rfl, hw⟩
    obtain rfl := hw.symm
    clear hw HC hseg hlt2
    have hE : rdEnd B p = if V = sumN (B.take p) then .ok () else .error (p, 111) := by
      have h1 := HX.out; have h2 := HL.out.1
      unfold rdEnd
      rw [if_neg h1.1, if_neg (by omega), h1.2.2]
    have HE : Hid (rdEnd B p = if V = sumN (B.take p) then .ok () else .error (p, 111)) := hE
    clear hE
    obtain ⟨U, hU⟩ : ∃ U, sumN (B.take p) = U := ⟨_, rfl⟩
    have HU : Hid (sumN (B.take p) = U) := hU
    rw [hU]
    clear hU
    by_cases hm : V = U
    · have hm' : ((V : Int) != (U : Int)) = false := by simp; omega
      go_wp2
      go_end0
      refine ⟨.inl ⟨?_, rfl⟩, HF.out.2.2.1⟩
      rw [HE.out, HU.out, if_pos hm]
    · have hm' : ((V : Int) != (U : Int)) = true := by simp; omega
      go_wp2
      refine ⟨rfl, .inr ⟨p, 111, ?_, rfl⟩, HF.out.2.2.1⟩
      rw [HE.out, HU.out, if_neg hm]
end Go.Proofs.Ytmkeccibminnhaa
