import Derived.Test.YthegceijlfflfaaGreatJRd
import Derived.Test.YthegceijlfflfaaGreatJRm
import Derived.Defers
import Derived.Recover
namespace Go.Proofs.YthegceijlfflfaaGreat
open Go.RowKit
set_option linter.unusedVariables false
set_option maxRecDepth 6000
def rdMark (B : List UInt8) (p : Nat) : Rs Unit := (rdNum B p).bind fun r => if r.1 = 826493762 then .ok ((), r.2) else .error p
set_option maxHeartbeats 1000000 in
theorem mark_any (b g p : Nat) (B : List UInt8) (w : World) (h : Rd w b g B p 0) :
  Calls Tryz.prog 93 #[.agg #[.pointer (some ⟨b, 0, none⟩)]] w fun e w' => ((∃ q, rdMark B p = .ok ((), q) ∧ e = .returned (.tuple #[]) ∧ Rd w' b g B q 0) ∨ (∃ q, rdMark B p = .error q ∧ e = gone q 110)) ∧ Keeps (· = b) w w' := by
 have HC : Hid (rdMark B p = (rdNum B p).bind _) := rfl
 obtain ⟨c, hc⟩ : ∃ c, c = w.heap.size := ⟨_, rfl⟩
 have HR : Hid (Rd w b g B p 0 ∧ c = w.heap.size) := ⟨h, hc⟩
 have hb : c ≠ b := by have := h.blk.lt; omega
 clear h
 go_enter Tryz.func93, Tryz.ntmps93
 go_wp2_with fail
 rw [← hc]
 obtain ⟨W, hW⟩ : ∃ W, W = w.alloc (.cells #[.pointer (some ⟨b, 0, none⟩)] 134) := ⟨_, rfl⟩
 have hB : Blk W c [.pointer (some ⟨b, 0, none⟩)] 134 := by rw [hW, hc]; exact Blk.new w _ _
 have hR : Rd W b g B p 0 := by rw [hW]; exact HR.out.1.kept ((Keeps.refl (fun _ => False) w).alloc _) (fun e => e) (fun e => e)
 have HK : Hid (Keeps (· = b) w W) := by rw [hW]; exact (Keeps.refl _ w).alloc _
 have p0 := hB.cell (i := 0) rfl
 rw [← hW]
 have HB : Hid (Blk W c [.pointer (some ⟨b, 0, none⟩)] 134 ∧ Rd W b g B p 0) := ⟨hB, hR⟩
 clear hW hB hR HR hc
 refine (rAt_any b g p 0 B W HB.out.2).mono ?_
 rintro e w1 ⟨rfl, hw⟩
 obtain rfl := hw.symm
 clear hw
 go_wp2
 refine wp_region_panicTo (fun e w' => ((∃ q, rdMark B p = .ok ((), q) ∧ e = .returned (.tuple #[]) ∧ Rd w' b g B q 0) ∨ (∃ q, rdMark B p = .error q ∧ e = gone q 110)) ∧ Keeps (· = b) w w') (fun c a w h1 h2 => ⟨h1, h2⟩) ?_
 obtain ⟨V, hV⟩ : ∃ V, numV B p 0 4 = V := ⟨_, rfl⟩
 have hlt := numV_lt B p 0 4
 rw [hV, show (256 : Nat) ^ 4 = 4294967296 from by decide] at hlt
 have HV : Hid (numV B p 0 4 = V) := hV
 clear hV
 go_region_held2 (fun w' => w'.cell? ⟨c, 0, none⟩ = some (.pointer (some ⟨b, 0, none⟩))) (first | exact hS | go_keep)
  (first
   | (go_at_call 120; refine (rU32_any b g p 0 B _ HB.out.2.drew).mono ?_; rintro e w2 ⟨rfl, hR2, hK2⟩; rw [HV.out]; have hS : w2.cell? ⟨c, 0, none⟩ = some (.pointer (some ⟨b, 0, none⟩)) := (HB.out.1.drew.kept hK2 hb).cell (i := 0) rfl)
   | (go_at_call 119; refine (item32_any b g _ B _ _ _ hR2).mono ?_; rintro e w3 ⟨⟨he, rfl⟩ | ⟨he, rfl⟩, hK3⟩; rotate_left; exact ⟨rfl, .inr ⟨p, bind_err HC.out ((rdNum_of B p).elim (fun h => absurd h.1 he) (fun h => h.2.1)), by rw [(rdNum_of B p).elim (fun h => absurd h.1 he) (fun h => h.2.2)]⟩, (HK.out.drew.trans hK2 fun _ _ e => e).trans hK3 fun _ _ e => e.elim⟩; have hS : w3.cell? ⟨c, 0, none⟩ = some (.pointer (some ⟨b, 0, none⟩)) := ((HB.out.1.drew.kept hK2 hb).kept hK3 fun e => e).cell (i := 0) rfl))
 refine PanicTo.normal ?_
 have hv : rdNum B p = .ok ((V : Int), numP B p 0 4) := by
  rcases rdNum_of B p with h | h
  ·
   rw [h.2, HV.out]
  ·
   exact absurd he h.1
 obtain ⟨P1, hP1⟩ : ∃ P1, numP B p 0 4 = P1 := ⟨_, rfl⟩
 rw [hP1] at hv hR2
 have HF : Hid (rdNum B p = .ok ((V : Int), P1) ∧ Rd w3 b g B P1 0 ∧ Keeps (· = b) w w3 ∧ Blk w3 c [.pointer (some ⟨b, 0, none⟩)] 134) := by
  refine ⟨hv, ?_, (HK.out.drew.trans hK2 fun _ _ e => e).trans hK3 fun _ _ e => e.elim, (HB.out.1.drew.kept hK2 hb).kept hK3 fun e => e⟩
  have := hR2.kept hK3 (fun e => e) (fun e => e)
  rw [he] at this; exact this
 clear hR2 hK2 hK3 hS he hv hP1 HB HV p0
 have HD := bind_ok HC.out HF.out.1
 by_cases hm : V = 826493762
 ·
  have HM : Hid (rdMark B p = .ok ((), P1)) := by
   show rdMark B p = .ok ((), P1)
   rw [HD, if_pos (show ((V : Int), P1).1 = 826493762 by show (V : Int) = 826493762; omega)]
  have hm' : ((V : Int) != 826493762) = false := by simp; omega
  clear HD hm
  go_wp2
  go_end0
  exact ⟨.inl ⟨P1, HM.out, rfl, HF.out.2.1⟩, HF.out.2.2.1⟩
 ·
  have HM : Hid (rdMark B p = .error p) := by
   show rdMark B p = .error p
   rw [HD, if_neg (show ¬ ((V : Int), P1).1 = 826493762 by show ¬ (V : Int) = 826493762; omega)]
  have hm' : ((V : Int) != 826493762) = true := by simp; omega
  clear HD hm
  go_wp2
  exact ⟨rfl, .inr ⟨p, HM.out, rfl⟩, HF.out.2.2.1⟩
def rdEnd (B : List UInt8) (p : Nat) : Except (Nat × Int) Unit :=
 if B.length < p + 4 then .error (p, 110) else if p + 4 < B.length then .error (p + 4, 110) else if highN ((B.drop p).take 4) = sumN (B.take p) then .ok () else .error (p, 111)
theorem seg_take (w : World) (a : Option Addr) (xs : List UInt8) (h : Seg w a xs) (n : Nat) : Seg w a (xs.take n) := by
 rcases h with h | ⟨g, o, ha, hc⟩
 ·
  left; rw [h]; simp
 ·
  refine .inr ⟨g, o, ha, fun j hj => ?_⟩
  rw [List.length_take] at hj
  have := hc j (by omega)
  rw [List.getElem_take]; exact this
theorem Seg.keptB {S : Nat → Prop} {w w' : World} {a : Option Addr} {xs : List UInt8} (h : Seg w a xs) (hK : Keeps S w w') (hn : xs ≠ [] → ∀ y, a = some y → ¬ S y.block) : Seg w' a xs := by
 rcases h with h | ⟨g, o, ha, hc⟩
 ·
  exact .inl h
 ·
  refine .inr ⟨g, o, ha, fun j hj => ?_⟩
  have h1 := hc j hj
  rw [World.cell?_of_block (w := w) (hK.block g (World.block_lt_of_cell? w _ h1) (hn (fun e => by rw [e] at hj; simp at hj) _ ha))]
  exact h1
theorem rdNum_len {B : List UInt8} {p q : Nat} (h : rdNum B p = .error q) : B.length < p + 4 := by
 unfold rdNum at h; split at h
 ·
  assumption
 ·
  cases h
theorem rdNum_ok {B : List UInt8} {p q V : Nat} (h : rdNum B p = .ok ((V : Int), q)) : ¬ B.length < p + 4 ∧ q = p + 4 ∧ V = highN ((B.drop p).take 4) := by
 unfold rdNum at h; split at h
 ·
  cases h
 ·
  rename_i hn
  injection h with h
  injection h with h1 h2
  exact ⟨hn, h2.symm, by omega⟩
theorem rdEnd_short {B : List UInt8} {p : Nat} (h : B.length < p + 4) : rdEnd B p = .error (p, 110) := by unfold rdEnd; rw [if_pos h]
set_option maxHeartbeats 1000000 in
theorem rsum_any (b g p : Nat) (B : List UInt8) (a : Option Addr) (cap : Nat) (w : World) (h : Rd w b g B p 0) (hs : Seg w a B) (hno : B ≠ [] → ∀ y, a = some y → y.block ≠ b) (hcap : B.length ≤ cap ∧ cap ≤ maxLen) :
  Calls Tryz.prog 95 #[.agg #[.pointer (some ⟨b, 0, none⟩)], .slice a B.length cap] w fun e w' => ((rdEnd B p = .ok () ∧ e = .returned (.tuple #[])) ∨ (∃ q k, rdEnd B p = .error (q, k) ∧ e = gone q k)) ∧ Keeps (· = b) w w' := by
 obtain ⟨L, hL⟩ : ∃ L, B.length = L := ⟨_, rfl⟩
 have HL : Hid (B.length = L ∧ Seg w a B ∧ (B ≠ [] → ∀ y, a = some y → y.block ≠ b)) := ⟨hL, hs, hno⟩
 rw [hL] at hcap ⊢
 obtain ⟨hc1, hc2⟩ := hcap
 have hc1' : (L : Int) ≤ cap := by omega
 have hc2' : (cap : Int) ≤ 9223372036854775807 := by unfold maxLen at hc2; omega
 clear hL hs hno hc2
 obtain ⟨c, hc⟩ : ∃ c, c = w.heap.size := ⟨_, rfl⟩
 have HR : Hid (Rd w b g B p 0 ∧ c = w.heap.size) := ⟨h, hc⟩
 have hb : c ≠ b := by have := h.blk.lt; omega
 clear h
 go_enter Tryz.func95, Tryz.ntmps95
 go_wp2_with fail
 rw [← hc]
 obtain ⟨W, hW⟩ : ∃ W, W = w.alloc (.cells #[.pointer (some ⟨b, 0, none⟩)] 134) := ⟨_, rfl⟩
 have hB : Blk W c [.pointer (some ⟨b, 0, none⟩)] 134 := by rw [hW, hc]; exact Blk.new w _ _
 have hR : Rd W b g B p 0 := by rw [hW]; exact HR.out.1.kept ((Keeps.refl (fun _ => False) w).alloc _) (fun e => e) (fun e => e)
 have HK : Hid (Keeps (· = b) w W) := by rw [hW]; exact (Keeps.refl _ w).alloc _
 have p0 := hB.cell (i := 0) rfl
 rw [← hW]
 have HB : Hid (Blk W c [.pointer (some ⟨b, 0, none⟩)] 134 ∧ Rd W b g B p 0) := ⟨hB, hR⟩
 clear hW hB hR HR hc
 refine (rAt_any b g p 0 B W HB.out.2).mono ?_
 rintro e w1 ⟨rfl, hw⟩
 obtain rfl := hw.symm
 clear hw
 go_wp2
 refine wp_region_panicTo (fun e w' => ((rdEnd B p = .ok () ∧ e = .returned (.tuple #[])) ∨ (∃ q k, rdEnd B p = .error (q, k) ∧ e = gone q k)) ∧ Keeps (· = b) w w') (fun c a w h1 h2 => ⟨h1, h2⟩) ?_
 obtain ⟨V, hV⟩ : ∃ V, numV B p 0 4 = V := ⟨_, rfl⟩
 have hlt := numV_lt B p 0 4
 rw [hV, show (256 : Nat) ^ 4 = 4294967296 from by decide] at hlt
 have HV : Hid (numV B p 0 4 = V) := hV
 clear hV
 go_region_held2 (fun w' => w'.cell? ⟨c, 0, none⟩ = some (.pointer (some ⟨b, 0, none⟩))) (first | exact hS | go_keep)
  (first
   | (go_at_call 120; refine (rU32_any b g p 0 B _ HB.out.2.drew).mono ?_; rintro e w2 ⟨rfl, hR2, hK2⟩; rw [HV.out]; have hS : w2.cell? ⟨c, 0, none⟩ = some (.pointer (some ⟨b, 0, none⟩)) := (HB.out.1.drew.kept hK2 hb).cell (i := 0) rfl)
   | (go_at_call 119; refine (item32_any b g _ B _ _ _ hR2).mono ?_; rintro e w3 ⟨⟨he, rfl⟩ | ⟨he, rfl⟩, hK3⟩; rotate_left; exact ⟨rfl, .inr ⟨p, 110, rdEnd_short (rdNum_len ((rdNum_of B p).elim (fun h => absurd h.1 he) (fun h => h.2.1))), by rw [(rdNum_of B p).elim (fun h => absurd h.1 he) (fun h => h.2.2)]⟩, (HK.out.drew.trans hK2 fun _ _ e => e).trans hK3 fun _ _ e => e.elim⟩; have hS : w3.cell? ⟨c, 0, none⟩ = some (.pointer (some ⟨b, 0, none⟩)) := ((HB.out.1.drew.kept hK2 hb).kept hK3 fun e => e).cell (i := 0) rfl))
 refine PanicTo.normal ?_
 have hv : rdNum B p = .ok ((V : Int), numP B p 0 4) := by
  rcases rdNum_of B p with h | h
  ·
   rw [h.2, HV.out]
  ·
   exact absurd he h.1
 obtain ⟨P1, hP1⟩ : ∃ P1, numP B p 0 4 = P1 := ⟨_, rfl⟩
 rw [hP1] at hv hR2
 have HF : Hid (rdNum B p = .ok ((V : Int), P1) ∧ Rd w3 b g B P1 0 ∧ Keeps (· = b) w w3 ∧ Blk w3 c [.pointer (some ⟨b, 0, none⟩)] 134) := by
  refine ⟨hv, ?_, (HK.out.drew.trans hK2 fun _ _ e => e).trans hK3 fun _ _ e => e.elim, (HB.out.1.drew.kept hK2 hb).kept hK3 fun e => e⟩
  have := hR2.kept hK3 (fun e => e) (fun e => e)
  rw [he] at this; exact this
 clear hR2 hK2 hK3 hS he hv hP1 HB HV p0
 obtain ⟨hlen, hP1, hVV⟩ := rdNum_ok HF.out.1
 have p1 := HF.out.2.2.2.cell (i := 0) rfl
 have HX : Hid (¬ B.length < p + 4 ∧ P1 = p + 4 ∧ V = highN ((B.drop p).take 4)) := ⟨hlen, hP1, hVV⟩
 clear hlen hP1 hVV
 go_wp2_with fail
 refine (rLeft_any b g P1 0 B w3 HF.out.2.1).mono ?_
 rintro e w4 ⟨rfl, hw⟩
 obtain rfl := hw.symm
 clear hw
 have hP1 : P1 ≤ L := by have := HX.out; have := HL.out.1; omega
 rw [HL.out.1]
 by_cases hl : P1 < L
 ·
  have hl' : (0 : Int) < (L : Int) - P1 := by omega
  go_wp2_with fail
  refine (rAt_any b g P1 0 B w3 HF.out.2.1).mono ?_
  rintro e w4 ⟨rfl, hw⟩
  obtain rfl := hw.symm
  clear hw
  go_wp2
  refine ⟨rfl, .inr ⟨P1, 110, ?_, rfl⟩, HF.out.2.2.1⟩
  have h1 := HX.out; have h2 := HL.out.1
  unfold rdEnd
  rw [if_neg h1.1, if_pos (by omega), h1.2.1]
 ·
  have hl' : ¬ (0 : Int) < (L : Int) - P1 := by omega
  obtain ⟨x, hx⟩ : ∃ x, a = some x := by
   rcases HL.out.2.1 with h | ⟨g', o', h, _⟩
   ·
    have h1 := HX.out.1; rw [h] at h1; simp at h1
   ·
    exact ⟨_, h⟩
  have hpL : (p : Int) ≤ L := by have := HX.out.2.1; omega
  have hpc : (p : Int) ≤ cap := by omega
  subst hx
  obtain ⟨xb, xo, xs⟩ := x
  go_wp2_with fail
  have hseg : Seg w3 (some ⟨xb, xo, xs⟩) (B.take p) := seg_take _ _ _ (HL.out.2.1.keptB HF.out.2.2.1 fun h1 y h2 => HL.out.2.2 h1 y h2) p
  have hlt2 : (B.take p).length = p := by rw [List.length_take]; have := HX.out.1; omega
  have HC := sum_any (some ⟨xb, xo, xs⟩) cap (B.take p) w3 hseg (by rw [hlt2]; unfold maxLen; omega)
  rw [hlt2] at HC
  refine HC.mono ?_
  rintro e w4 ⟨rfl, hw⟩
  obtain rfl := hw.symm
  clear hw HC hseg hlt2
  have hE : rdEnd B p = if V = sumN (B.take p) then .ok () else .error (p, 111) := by
   have h1 := HX.out; have h2 := HL.out.1
   unfold rdEnd
   rw [if_neg h1.1, if_neg (by omega), h1.2.2]
  have HE : Hid (rdEnd B p = if V = sumN (B.take p) then .ok () else .error (p, 111)) := hE
  clear hE
  obtain ⟨U, hU⟩ : ∃ U, sumN (B.take p) = U := ⟨_, rfl⟩
  have HU : Hid (sumN (B.take p) = U) := hU
  rw [hU]
  clear hU
  by_cases hm : V = U
  ·
   have hm' : ((V : Int) != (U : Int)) = false := by simp; omega
   go_wp2
   go_end0
   refine ⟨.inl ⟨?_, rfl⟩, HF.out.2.2.1⟩
   rw [HE.out, HU.out, if_pos hm]
  ·
   have hm' : ((V : Int) != (U : Int)) = true := by simp; omega
   go_wp2
   refine ⟨rfl, .inr ⟨p, 111, ?_, rfl⟩, HF.out.2.2.1⟩
   rw [HE.out, HU.out, if_neg hm]
end Go.Proofs.YthegceijlfflfaaGreat
namespace Go.Proofs.YthegceijlfflfaaGreat
open Go.RowKit
set_option linter.unusedVariables false
set_option maxRecDepth 6000
set_option linter.unusedSimpArgs false
theorem all94 (q k : Int) : (#[.int .i64 q, .int .i64 k] : Array Value).all (·.oneCell') = true := by kernel_rfl
theorem Tryz.size94 : (Tryz.prog.info? 94).map (·.size) = some 2 := by kernel_rfl
set_option maxHeartbeats 1000000 in
theorem catch_gone (C D q : Nat) (k : Int) (l : List Value) (x y : Value) (w : World) (hC : Blk w C l 26) (hl : l.length = 7) (hD : Blk w D [x, y] 94) (hne : C ≠ D) :
  CallsD Tryz.prog 91 #[.pointer (some ⟨C, 0, none⟩), .pointer (some ⟨D, 0, none⟩)] (.panicking [{ v := refV q k, recovered := false }]) w fun e u' w' =>
   e = .returned (.tuple #[]) ∧ u' = .panicking [{ v := refV q k, recovered := true }] ∧ Blk w' C [.int .i64 0, .int .i64 0, .int .i64 0, .int .i64 0, .slice none 0 0, .slice none 0 0, .slice none 0 0] 26 ∧ Blk w' D [.int .i64 q, .int .i64 k] 94 ∧ Keeps (fun k => k = C ∨ k = D) w w' := by
 refine callsD_of_wpS Tryz.func91 rfl fun c₀ cs hu => ?_
 apply wpS_seq
 apply wpS_region
 simp [wpOpsS, go_sem, recoverD, hu, Tryz.ntmps91, Exit.thenS]
 refine wpS_of_wp ?_
 simp only [Array.replicate_succ, Array.replicate_zero, List.push_toArray, List.append_toArray, List.nil_append, List.cons_append, List.setIfInBounds_toArray, List.set_cons_succ, List.set_cons_zero]
 have hta : ∀ w, (Instr.typeAssert (refV q k) 20 94 true).run Tryz.prog w = .ok (.tuple #[.agg #[.int .i64 q, .int .i64 k], .bool true]) w := fun w => by
  rfl
 have HH : Hid (Blk w C l 26 ∧ l.length = 7 ∧ Blk w D [x, y] 94 ∧ C ≠ D) := ⟨hC, hl, hD, hne⟩
 clear hC hl hD hne
 go_wp2
 obtain ⟨W, hW⟩ : ∃ W, W = w.alloc (.cells #[.int .i64 q, .int .i64 k] 94) := ⟨_, rfl⟩
 have HW : Hid (Blk W w.heap.size [.int .i64 q, .int .i64 k] 94 ∧ Keeps (fun _ => False) w W) := by rw [hW]; exact ⟨Blk.new w _ _, (Keeps.refl _ w).alloc _⟩
 rw [← hW]
 clear hW
 obtain ⟨T, hT⟩ : ∃ T, T = w.heap.size := ⟨_, rfl⟩
 rw [← hT] at HW ⊢
 have HT : Hid (T = w.heap.size) := hT
 clear hT
 have t0 : W.drew.cell? ⟨T, 0, none⟩ = some (.int .i64 q) := HW.out.1.drew.cell (i := 0) rfl
 have t1 : W.drew.cell? ⟨T, 1, none⟩ = some (.int .i64 k) := HW.out.1.drew.cell (i := 1) rfl
 refine wp_region_held_drew (S := fun w' => w'.cell? ⟨T, 0, none⟩ = some (.int .i64 q) ∧ w'.cell? ⟨T, 1, none⟩ = some (.int .i64 k)) (by kernel_rfl) ⟨t0, t1⟩ (fun hHeld => ?_)
 simp only [List.size_toArray, List.length_cons, List.length_nil, Nat.reduceAdd, Array.replicate_succ, Array.replicate_zero, List.push_toArray, List.append_toArray, List.nil_append, List.cons_append]
 refine wpAnyH_take (i := 0) (v := .agg #[.int .i64 0, .int .i64 0, .int .i64 0, .int .i64 0, .slice none 0 0, .slice none 0 0, .slice none 0 0]) rfl (by kernel_rfl) (by kernel_rfl) (by kernel_rfl) (fun _ _ _ h => h) (Or.inl ⟨by rfl, by (intro w hSw; (try dsimp only at hSw); go_simp)⟩) hHeld ?_
 simp only [Act.put, s1, s2, s3]
 refine wpAnyH_take (i := 1) (v := .agg #[.int .i64 q, .int .i64 k]) rfl (by kernel_rfl) (by kernel_rfl) (by kernel_rfl) (fun _ _ _ h => h) (Or.inl ⟨by rfl, by (intro w hSw; (try dsimp only at hSw); go_simp)⟩) hHeld ?_
 simp only [Act.put, s1, s2, s3]
 refine wpAnyH_ready (rs := [2]) (by kernel_rfl) (by simp) ?_
 refine AllReadyH.cons rfl (fun K hK => ?_) AllReadyH.nil
 rw [if_pos (by rfl)]
 have hC1 : Blk W.drew C l 26 := (HH.out.1.kept HW.out.2 fun e => e).drew
 have hne : C ≠ T := by have := HH.out.1.lt; have := HT.out; omega
 have hne2 : D ≠ T := by have := HH.out.2.2.1.lt; have := HT.out; omega
 refine wp_store_row 26 _ _ rfl C #[.int .i64 0, .int .i64 0, .int .i64 0, .int .i64 0, .slice none 0 0, .slice none 0 0, .slice none 0 0] rfl rfl 26 _ hC1 Tryz.size26 (by simp [HH.out.2.1]) (all26 ..) ?_
 have hT1 := HW.out.1.drew.setRow_ne (Ne.symm hne) #[.int .i64 0, .int .i64 0, .int .i64 0, .int .i64 0, .slice none 0 0, .slice none 0 0, .slice none 0 0]
 refine hK.out _ _ ⟨hT1.cell (i := 0) rfl, hT1.cell (i := 1) rfl⟩ (fun hHeld => ?_)
 simp only [Act.put, s1, s2, s3]
 refine wpAnyH_ready (rs := [3]) (by kernel_rfl) (by simp) ?_
 refine AllReadyH.cons rfl (fun K hK => ?_) AllReadyH.nil
 rw [if_pos (by rfl)]
 have hD1 : Blk (W.drew.setRow C #[.int .i64 0, .int .i64 0, .int .i64 0, .int .i64 0, .slice none 0 0, .slice none 0 0, .slice none 0 0]) D [x, y] 94 := ((HH.out.2.2.1.kept HW.out.2 fun e => e).drew).setRow_ne HH.out.2.2.2.symm _
 refine wp_store_row 94 _ _ rfl D #[.int .i64 q, .int .i64 k] rfl rfl 94 _ hD1 Tryz.size94 rfl (all94 ..) ?_
 have hT2 := hT1.setRow_ne (Ne.symm hne2) #[.int .i64 q, .int .i64 k]
 refine hK.out _ _ ⟨hT2.cell (i := 0) rfl, hT2.cell (i := 1) rfl⟩ (fun hHeld => ?_)
 simp only [Act.put, s1, s2, s3]
 refine wpAnyH_done (by kernel_rfl) ?_ _
 have hCF := (hC1.setRow [.int .i64 0, .int .i64 0, .int .i64 0, .int .i64 0, .slice none 0 0, .slice none 0 0, .slice none 0 0]).setRow_ne HH.out.2.2.2 #[.int .i64 q, .int .i64 k]
 have hDF := hD1.setRow [.int .i64 q, .int .i64 k]
 have hKF : Keeps (fun k => k = C ∨ k = D) w _ := ((((HW.out.2.mono fun _ _ e => e.elim).drew).setRow C #[.int .i64 0, .int .i64 0, .int .i64 0, .int .i64 0, .slice none 0 0, .slice none 0 0, .slice none 0 0] (fun _ => .inl rfl)).setRow D #[.int .i64 q, .int .i64 k] (fun _ => .inr rfl))
 exact ⟨rfl, _, rfl, _, results_none rfl _ _ _, rfl, rfl, hCF, hDF, hKF⟩
set_option maxHeartbeats 1000000 in
theorem catch_idle (C D : Nat) (w : World) :
  CallsD Tryz.prog 91 #[.pointer (some ⟨C, 0, none⟩), .pointer (some ⟨D, 0, none⟩)] .returning w fun e u' w' => e = .returned (.tuple #[]) ∧ u' = .returning ∧ w' = w := by
 refine callsD_of_wpS Tryz.func91 rfl fun c₀ cs hu => ?_
 apply wpS_seq
 apply wpS_region
 simp [wpOpsS, go_sem, recoverD, hu, Tryz.ntmps91, Exit.thenS]
 refine wpS_of_wp ?_
 simp only [Array.replicate_succ, Array.replicate_zero, List.push_toArray, List.append_toArray, List.nil_append, List.cons_append, List.setIfInBounds_toArray, List.set_cons_succ, List.set_cons_zero]
 go_wp2
 cases c₀
 simp only at hu
 subst hu
 exact ⟨rfl, _, rfl, _, results_none rfl _ _ _, rfl, rfl, rfl⟩
end Go.Proofs.YthegceijlfflfaaGreat
namespace Go.Proofs.YthegceijlfflfaaGreat
open Go.RowKit
set_option linter.unusedVariables false
set_option maxRecDepth 6000
set_option linter.unusedSimpArgs false
def dec (B : List UInt8) : Except (Nat × Int) PCfg :=
 match rdMark B 0 with
 | .error q => .error (q, 110)
 | .ok r => match rdCfg B r.2 with
  | .error q => .error (q, 110)
  | .ok x => match rdEnd B x.2 with
   | .error e => .error e
   | .ok _ => .ok x.1
theorem results_cells {P : Program} {fn : Func} {p p2 : Tmp} {ty ty2 : TypeId} (h : fn.results = #[.cell p ty, .cell p2 ty2]) (tmps : Array Value) (w : World) (g g2 : Nat) (t t2 : TypeId) (cs cs2 : Array Value) (d d2 : TypeDesc)
  (hp : tmps.getD p undef = .pointer (some ⟨g, 0, none⟩)) (hg : w.heap[g]? = some (.cells cs t (0, 0))) (hp2 : tmps.getD p2 undef = .pointer (some ⟨g2, 0, none⟩)) (hg2 : w.heap[g2]? = some (.cells cs2 t2 (0, 0)))
  (hu : P.underlying ty = some d) (hd : (match d with | .struct _ | .array _ _ => true | _ => false) = true) (hi : (P.info? ty).map (·.size) = some cs.size)
  (hu2 : P.underlying ty2 = some d2) (hd2 : (match d2 with | .struct _ | .array _ _ => true | _ => false) = true) (hi2 : (P.info? ty2).map (·.size) = some cs2.size) :
  (results fn tmps).run P w = .ok (.tuple #[.agg cs, .agg cs2]) w := by
 have hp' : tmps[p]?.getD undef = .pointer (some ⟨g, 0, none⟩) := by simpa using hp
 have hp2' : tmps[p2]?.getD undef = .pointer (some ⟨g2, 0, none⟩) := by simpa using hp2
 simp [results, h, hp', hp2', asAddr, run_loadVar_row w g t ty cs (0, 0) d hg hu hd hi, run_loadVar_row w g2 t2 ty2 cs2 (0, 0) d2 hg2 hu2 hd2 hi2]
abbrev zCfg : List Value := [.int .i64 0, .int .i64 0, .int .i64 0, .int .i64 0, .slice none 0 0, .slice none 0 0, .slice none 0 0]
def ReadP (w : World) (B : List UInt8) (e : Ending) (w' : World) : Prop :=
 ((∃ x : Cfg, dec B = .ok x.pure ∧ e = .returned (.tuple #[x.v, .agg #[.int .i64 0, .int .i64 0]]) ∧ x.Lsts w' w.heap.size) ∨ (∃ (q : Nat) (k : Int), dec B = .error (q, k) ∧ e = .returned (.tuple #[.agg zCfg.toArray, .agg #[.int .i64 q, .int .i64 k]]))) ∧ Keeps (fun _ => False) w w'
theorem gone_out (w w1 : World) (B : List UInt8) (q : Nat) (k : Int) (C D : Nat) (tmps : Array Value) (l : List Value) (x y : Value) (hC : Blk w1 C l 26) (hl : l.length = 7) (hD : Blk w1 D [x, y] 94) (hne : C ≠ D) (hCw : w.heap.size ≤ C) (hDw : w.heap.size ≤ D)
  (hK : Keeps (fun _ => False) w w1) (hdec : dec B = .error (q, k)) (h2 : tmps.getD 2 undef = .pointer (some ⟨C, 0, none⟩)) (h3 : tmps.getD 3 undef = .pointer (some ⟨D, 0, none⟩)) :
  Leaves Tryz.prog Tryz.f49 tmps (ReadP w B) [{ target := .fn (.func 91) #[.pointer (some ⟨C, 0, none⟩), .pointer (some ⟨D, 0, none⟩)], args := #[] }] (.panicking [{ v := refV q k, recovered := false }]) w1 := by
 refine leaves_cons (f := 91) (args := #[.pointer (some ⟨C, 0, none⟩), .pointer (some ⟨D, 0, none⟩)]) (by simp) (by simp [go_sem]) ?_
 refine (catch_gone C D q k l x y w1 hC hl hD hne).mono ?_
 rintro e u' w2 ⟨rfl, rfl, hC2, hD2, hK2⟩
 refine ⟨_, results_cells rfl tmps w2 C D 26 94 _ _ _ _ h2 hC2 h3 hD2 Tryz.underlying26 rfl Tryz.size26 Tryz.underlying94 rfl Tryz.size94, .inr ⟨q, k, hdec, rfl⟩, hK.trans hK2 ?_⟩
 rintro b hb (e | e)
 ·
  omega
 ·
  omega
theorem idle_out (w w1 : World) (B : List UInt8) (x : Cfg) (C D : Nat) (tmps : Array Value) (hC : Blk w1 C x.vs 26) (hD : Blk w1 D [.int .i64 0, .int .i64 0] 94)
  (hK : Keeps (fun _ => False) w w1) (hdec : dec B = .ok x.pure) (hL : x.Lsts w1 w.heap.size) (h2 : tmps.getD 2 undef = .pointer (some ⟨C, 0, none⟩)) (h3 : tmps.getD 3 undef = .pointer (some ⟨D, 0, none⟩)) :
  Leaves Tryz.prog Tryz.f49 tmps (ReadP w B) [{ target := .fn (.func 91) #[.pointer (some ⟨C, 0, none⟩), .pointer (some ⟨D, 0, none⟩)], args := #[] }] .returning w1 := by
 refine leaves_cons (f := 91) (args := #[.pointer (some ⟨C, 0, none⟩), .pointer (some ⟨D, 0, none⟩)]) (by simp) (by simp [go_sem]) ?_
 refine (catch_idle C D w1).mono ?_
 rintro e u' w2 ⟨rfl, rfl, hw⟩
 obtain rfl := hw.symm
 exact ⟨_, results_cells rfl tmps w1 C D 26 94 _ _ _ _ h2 hC h3 hD Tryz.underlying26 rfl Tryz.size26 Tryz.underlying94 rfl Tryz.size94, .inl ⟨x, hdec, rfl, hL⟩, hK⟩
set_option maxHeartbeats 1000000 in
theorem read_any (B : List UInt8) (a : Option Addr) (cap : Nat) (w : World) (hs : Seg w a B) (hcap : B.length ≤ cap ∧ cap ≤ maxLen) (hB : B.length ≤ 16384) (hlt : B ≠ [] → ∀ y, a = some y → y.block < w.heap.size) :
  Calls Tryz.prog 49 #[.slice a B.length cap] w (ReadP w B) := by
 have hmf : ∀ (fn : Fn) (first cap : Array Value) (w : World), (Instr.makeFunc fn first cap).run Tryz.prog w = .ok (.func fn first cap) w := fun _ _ _ _ => rfl
 obtain ⟨L, hL⟩ : ∃ L, B.length = L := ⟨_, rfl⟩
 have HS : Hid (Seg w a B ∧ B.length = L ∧ (B ≠ [] → ∀ y, a = some y → y.block < w.heap.size) ∧ B.length ≤ 16384 ∧ L ≤ cap ∧ cap ≤ maxLen) := ⟨hs, hL, hlt, hB, by omega, hcap.2⟩
 rw [hL]
 obtain ⟨C, hC⟩ : ∃ C, C = w.heap.size := ⟨_, rfl⟩
 have HC : Hid (C = w.heap.size) := hC
 clear hs hL hlt hB hcap
 go_enter_defers Tryz.func49, Tryz.ntmps49
 go_wp2_with fail
 rw [← hC]
 obtain ⟨W1, hW1⟩ : ∃ W1, W1 = (w.alloc (.cells #[.int .i64 0, .int .i64 0, .int .i64 0, .int .i64 0, .slice none 0 0, .slice none 0 0, .slice none 0 0] 26)).alloc (.cells #[.int .i64 0, .int .i64 0] 94) := ⟨_, rfl⟩
 have hC1 : Blk W1 C zCfg 26 := by rw [hW1, hC]; exact (Blk.new w _ _).alloc _
 have hD1 : Blk W1 (C + 1) [.int .i64 0, .int .i64 0] 94 := by rw [hW1, hC]; have := Blk.new (w.alloc (.cells #[.int .i64 0, .int .i64 0, .int .i64 0, .int .i64 0, .slice none 0 0, .slice none 0 0, .slice none 0 0] 26)) #[.int .i64 0, .int .i64 0] 94; simpa using this
 have hK1 : Keeps (fun _ => False) w W1 := by rw [hW1]; exact ((Keeps.refl _ w).alloc _).alloc _
 have hz1 : W1.heap.size = C + 2 := by rw [hW1, hC]; simp
 rw [← hW1]
 have H1 : Hid (Blk W1 C zCfg 26 ∧ Blk W1 (C + 1) [.int .i64 0, .int .i64 0] 94 ∧ Keeps (fun _ => False) w W1 ∧ W1.heap.size = C + 2) := ⟨hC1, hD1, hK1, hz1⟩
 have HN := newReader_any a cap B W1 (HS.out.1.keptB hK1 fun _ _ _ e => e) (by have := HS.out.2.2.2.1; omega)
 rw [HS.out.2.1, hz1] at HN
 clear hC1 hD1 hK1 hz1 hW1 hC
 refine HN.mono ?_
 rintro e w2 ⟨rfl, hR2, hK2⟩
 have H2 : Hid (Rd w2 (C + 2 + 1) (C + 2) B 0 0 ∧ Keeps (fun _ => False) W1 w2) := ⟨hR2, hK2⟩
 clear HN hR2 hK2
 go_wp2_with fail
 obtain ⟨R, hR⟩ : ∃ R, R = w2.heap.size := ⟨_, rfl⟩
 obtain ⟨W3, hW3⟩ : ∃ W3, W3 = w2.alloc (.cells #[.pointer (some ⟨C + 2 + 1, 0, none⟩)] 134) := ⟨_, rfl⟩
 have hK3 : Keeps (fun _ => False) w2 W3 := by rw [hW3]; exact (Keeps.refl _ _).alloc _
 have H3 : Hid (Blk W3 R [.pointer (some ⟨C + 2 + 1, 0, none⟩)] 134 ∧ C + 2 + 1 < R ∧ Rd W3 (C + 2 + 1) (C + 2) B 0 0 ∧ Keeps (fun _ => False) w W3 ∧ Blk W3 C zCfg 26 ∧ Blk W3 (C + 1) [.int .i64 0, .int .i64 0] 94) := by
  refine ⟨by rw [hW3, hR]; exact Blk.new _ _ _, by rw [hR]; exact H2.out.1.blk.lt, H2.out.1.kept hK3 (fun e => e) (fun e => e), (H1.out.2.2.1.trans H2.out.2 fun _ _ e => e).trans hK3 fun _ _ e => e, (H1.out.1.kept H2.out.2 fun e => e).kept hK3 fun e => e, (H1.out.2.1.kept H2.out.2 fun e => e).kept hK3 fun e => e⟩
 rw [← hW3, ← hR]
 clear hK3 hW3 hR H2 H1
 refine (mark_any (C + 2 + 1) (C + 2) 0 B W3 H3.out.2.2.1).mono ?_
 rintro e w4 ⟨⟨q, hr, rfl, hR4⟩ | ⟨q, hr, rfl⟩, hK4⟩
 rotate_left
 ·
  refine gone_out w w4 B q 110 C (C + 1) _ zCfg _ _ (H3.out.2.2.2.2.1.kept hK4 (by omega)) rfl (H3.out.2.2.2.2.2.kept hK4 (by omega)) (by omega) (by have := HC.out; omega) (by have := HC.out; omega) (H3.out.2.2.2.1.trans hK4 fun k hk e => by have := HC.out; omega) ?_ rfl rfl
  unfold dec; rw [hr]
 have H4 : Hid (rdMark B 0 = .ok ((), q) ∧ Rd w4 (C + 2 + 1) (C + 2) B q 0 ∧ Keeps (fun _ => False) w w4 ∧ Blk w4 C zCfg 26 ∧ Blk w4 (C + 1) [.int .i64 0, .int .i64 0] 94 ∧ Blk w4 R [.pointer (some ⟨C + 2 + 1, 0, none⟩)] 134 ∧ C + 2 + 1 < R) :=
  ⟨hr, hR4, H3.out.2.2.2.1.trans hK4 fun k hk e => by have := HC.out; omega, H3.out.2.2.2.2.1.kept hK4 (by omega), H3.out.2.2.2.2.2.kept hK4 (by omega), H3.out.1.kept hK4 (by have := H3.out.2.1; omega), H3.out.2.1⟩
 clear hr hR4 hK4 H3
 have r0 := H4.out.2.2.2.2.2.1.cell (i := 0) rfl
 go_wp2_with fail
 refine (rconfig_any (C + 2 + 1) (C + 2) q B w4 H4.out.2.1).mono ?_
 rintro e w5 ⟨⟨x, q2, hr, rfl, hX, hR5⟩ | ⟨q2, hr, rfl⟩, hK5⟩
 rotate_left
 ·
  refine gone_out w w5 B q2 110 C (C + 1) _ zCfg _ _ (H4.out.2.2.2.1.kept hK5 (by omega)) rfl (H4.out.2.2.2.2.1.kept hK5 (by omega)) (by omega) (by have := HC.out; omega) (by have := HC.out; omega) (H4.out.2.2.1.trans hK5 fun k hk e => by have := HC.out; omega) ?_ rfl rfl
  unfold dec; rw [H4.out.1]; simp only; rw [hr]
 have hlt4 : C + 2 + 1 < w4.heap.size := H4.out.2.1.blk.lt
 obtain ⟨n1, n2, n3, n4, ca, cc, cs, pa, pc, ps, ha, hc, hs⟩ := x
 obtain ⟨X, hXX⟩ : ∃ X : Cfg, X = ⟨n1, n2, n3, n4, ca, cc, cs, pa, pc, ps, ha, hc, hs⟩ := ⟨_, rfl⟩
 rw [← hXX] at hr hX ⊢
 have HX : Hid (X = ⟨n1, n2, n3, n4, ca, cc, cs, pa, pc, ps, ha, hc, hs⟩) := hXX
 obtain ⟨L1, hL1⟩ : ∃ L, cs.length = L := ⟨_, rfl⟩
 obtain ⟨L2, hL2⟩ : ∃ L, ps.length = L := ⟨_, rfl⟩
 obtain ⟨L3, hL3⟩ : ∃ L, hs.length = L := ⟨_, rfl⟩
 have hv : X.v = .agg #[.int .i64 n1, .int .i64 n2, .int .i64 n3, .int .i64 n4, .slice ca L1 cc, .slice pa L2 pc, .slice ha L3 hc] := by rw [hXX, ← hL1, ← hL2, ← hL3]
 have HV : Hid (X.vs = [.int .i64 n1, .int .i64 n2, .int .i64 n3, .int .i64 n4, .slice ca L1 cc, .slice pa L2 pc, .slice ha L3 hc]) := by show X.vs = [.int .i64 n1, .int .i64 n2, .int .i64 n3, .int .i64 n4, .slice ca L1 cc, .slice pa L2 pc, .slice ha L3 hc]; rw [hXX, ← hL1, ← hL2, ← hL3]
 rw [hv]
 clear hXX hv hL1 hL2 hL3
 have HB5 : Hid (Blk w5 C zCfg 26) := H4.out.2.2.2.1.kept hK5 (by omega)
 obtain ⟨w6, hw6⟩ : ∃ w6, w6 = w5.setRow C #[.int .i64 n1, .int .i64 n2, .int .i64 n3, .int .i64 n4, .slice ca L1 cc, .slice pa L2 pc, .slice ha L3 hc] := ⟨_, rfl⟩
 have hK6 : Keeps (· = C) w5 w6 := by rw [hw6]; exact (Keeps.refl _ _).setRow C _ fun _ => rfl
 have H6 : Hid (dec B = (match rdEnd B q2 with | .error e => .error e | .ok _ => .ok X.pure) ∧ X.Lsts w6 w4.heap.size ∧ Rd w6 (C + 2 + 1) (C + 2) B q2 0 ∧ Keeps (fun _ => False) w w6 ∧ Blk w6 C [.int .i64 n1, .int .i64 n2, .int .i64 n3, .int .i64 n4, .slice ca L1 cc, .slice pa L2 pc, .slice ha L3 hc] 26 ∧ Blk w6 (C + 1) [.int .i64 0, .int .i64 0] 94 ∧ Blk w6 R [.pointer (some ⟨C + 2 + 1, 0, none⟩)] 134 ∧ C + 2 + 1 < R ∧ C + 2 + 1 < w4.heap.size ∧ w.heap.size ≤ w4.heap.size) := by
  have hlo : ∀ k, k = C → k < w4.heap.size := fun k e => by omega
  refine ⟨?_, ⟨hX.cs.kept hK6 hlo, hX.ps.kept hK6 hlo, hX.hs.kept hK6 hlo, hX.ns⟩, hR5.kept hK6 (by omega) (by omega), (H4.out.2.2.1.trans hK5 fun k hk e => by have := HC.out; omega).trans hK6 fun k hk e => by have := HC.out; omega, ?_, (H4.out.2.2.2.2.1.kept hK5 (by omega)).kept hK6 (by omega), (H4.out.2.2.2.2.2.1.kept hK5 (by have := H4.out.2.2.2.2.2.2; omega)).kept hK6 (by have := H4.out.2.2.2.2.2.2; omega), H4.out.2.2.2.2.2.2, hlt4, H4.out.2.2.1.size⟩
  ·
   unfold dec; rw [H4.out.1]; simp only; rw [hr]
  ·
   rw [hw6]; exact HB5.out.setRow [.int .i64 n1, .int .i64 n2, .int .i64 n3, .int .i64 n4, .slice ca L1 cc, .slice pa L2 pc, .slice ha L3 hc]
 clear hr hX hR5 hK5 hK6 hlt4 H4 r0
 go_wp2_with (refine wpList_store_row rfl 26 (.tmp 2) (.tmp 12) rfl C #[.int .i64 n1, .int .i64 n2, .int .i64 n3, .int .i64 n4, .slice ca L1 cc, .slice pa L2 pc, .slice ha L3 hc] rfl rfl 26 _ HB5.out Tryz.size26 rfl (all26 ..) ?_; refine Hid.out ?_)
 unfold Hid
 rw [← hw6]
 clear hw6 HB5
 have r0 := H6.out.2.2.2.2.2.2.1.cell (i := 0) rfl
 go_wp2_with fail
 have HE := rsum_any (C + 2 + 1) (C + 2) q2 B a cap w6 H6.out.2.2.1 (HS.out.1.keptB H6.out.2.2.2.1 fun _ _ _ e => e) (fun h1 y h2 => by have := HS.out.2.2.1 h1 y h2; have := HC.out; omega) (by have := HS.out; omega)
 rw [HS.out.2.1] at HE
 refine HE.mono ?_
 clear HE
 rintro e w7 ⟨⟨hr, rfl⟩ | ⟨q3, k3, hr, rfl⟩, hK7⟩
 rotate_left
 ·
  refine gone_out w w7 B q3 k3 C (C + 1) _ [.int .i64 n1, .int .i64 n2, .int .i64 n3, .int .i64 n4, .slice ca L1 cc, .slice pa L2 pc, .slice ha L3 hc] _ _ (H6.out.2.2.2.2.1.kept hK7 (by omega)) rfl (H6.out.2.2.2.2.2.1.kept hK7 (by omega)) (by omega) (by have := HC.out; omega) (by have := HC.out; omega) (H6.out.2.2.2.1.trans hK7 fun k hk e => by have := HC.out; omega) ?_ rfl rfl
  rw [H6.out.1, hr]
 have H7 : Hid (dec B = .ok X.pure ∧ (X.Lsts w7 w4.heap.size ∧ C + 2 + 1 < w4.heap.size ∧ w.heap.size ≤ w4.heap.size) ∧ Keeps (fun _ => False) w w7 ∧ Blk w7 C [.int .i64 n1, .int .i64 n2, .int .i64 n3, .int .i64 n4, .slice ca L1 cc, .slice pa L2 pc, .slice ha L3 hc] 26 ∧ Blk w7 (C + 1) [.int .i64 0, .int .i64 0] 94 ∧ C + 2 ≤ w7.heap.size) := by
  have h8 := H6.out.2.2.2.2.2.2.2.2
  have hlo : ∀ k, k = C + 2 + 1 → k < w4.heap.size := fun k e => by omega
  have hX := H6.out.2.1
  refine ⟨by rw [H6.out.1, hr], ⟨⟨hX.cs.kept hK7 hlo, hX.ps.kept hK7 hlo, hX.hs.kept hK7 hlo, hX.ns⟩, h8.1, h8.2⟩, H6.out.2.2.2.1.trans hK7 fun k hk e => by have := HC.out; omega, H6.out.2.2.2.2.1.kept hK7 (by omega), H6.out.2.2.2.2.2.1.kept hK7 (by omega), (H6.out.2.2.2.2.2.1.kept hK7 (by omega)).lt⟩
 clear hr hK7 H6 r0
 obtain ⟨w8, hw8⟩ : ∃ w8, w8 = w7.setRow C #[.int .i64 n1, .int .i64 n2, .int .i64 n3, .int .i64 n4, .slice ca L1 cc, .slice pa L2 pc, .slice ha L3 hc] := ⟨_, rfl⟩
 obtain ⟨w9, hw9⟩ : ∃ w9, w9 = w8.setRow (C + 1) #[.int .i64 0, .int .i64 0] := ⟨_, rfl⟩
 have hB8 : Blk w8 (C + 1) [.int .i64 0, .int .i64 0] 94 := by rw [hw8]; exact H7.out.2.2.2.2.1.setRow_ne (by omega) _
 have hC8 : Blk w8 C [.int .i64 n1, .int .i64 n2, .int .i64 n3, .int .i64 n4, .slice ca L1 cc, .slice pa L2 pc, .slice ha L3 hc] 26 := by rw [hw8]; exact H7.out.2.2.2.1.setRow [.int .i64 n1, .int .i64 n2, .int .i64 n3, .int .i64 n4, .slice ca L1 cc, .slice pa L2 pc, .slice ha L3 hc]
 have hK8 : Keeps (· = C) w7 w8 := by rw [hw8]; exact (Keeps.refl _ _).setRow C _ fun _ => rfl
 have hK9 : Keeps (· = C + 1) w8 w9 := by rw [hw9]; exact (Keeps.refl _ _).setRow (C + 1) _ fun _ => rfl
 have hB9 : Blk w9 (C + 1) [.int .i64 0, .int .i64 0] 94 := by rw [hw9]; exact hB8.setRow [.int .i64 0, .int .i64 0]
 have H9 : Hid (Blk w9 C X.vs 26 ∧ Blk w9 (C + 1) [.int .i64 0, .int .i64 0] 94 ∧ Keeps (fun _ => False) w w9 ∧ X.Lsts w9 w.heap.size) := by
  have hX := H7.out.2.1
  have h1 : Keeps (fun k => k = C ∨ k = C + 1) w7 w9 := (hK8.mono fun _ _ e => .inl e).trans hK9 fun _ _ e => .inr e
  refine ⟨?_, hB9, H7.out.2.2.1.trans h1 ?_, ?_⟩
  ·
   rw [HV.out]; exact hC8.kept hK9 (by omega)
  ·
   intro k hk e; have := HC.out; omega
  ·
   have hlo : ∀ k, k = C ∨ k = C + 1 → k < w4.heap.size := fun k e => by have := hX.2.1; omega
   exact ⟨(hX.1.cs.kept h1 hlo).mono hX.2.2, (hX.1.ps.kept h1 hlo).mono hX.2.2, (hX.1.hs.kept h1 hlo).mono hX.2.2, hX.1.ns⟩
 have HB8 : Hid (Blk w8 (C + 1) [.int .i64 0, .int .i64 0] 94) := hB8
 clear hB8 hC8 hK8 hK9 hB9
 go_wp2_with (first | (refine wpList_load_row rfl 26 (.tmp 2) rfl C rfl 26 _ (0, 0) _ H7.out.2.2.2.1 Tryz.underlying26 rfl Tryz.size26 ?_) | (refine wpList_store_row rfl 26 (.tmp 2) (.tmp 16) rfl C #[.int .i64 n1, .int .i64 n2, .int .i64 n3, .int .i64 n4, .slice ca L1 cc, .slice pa L2 pc, .slice ha L3 hc] rfl rfl 26 _ H7.out.2.2.2.1 Tryz.size26 rfl (all26 ..) ?_; refine Hid.out ?_))
 unfold Hid
 rw [← hw8]
 clear hw8
 go_wp2_with (refine wpList_store_row rfl 94 (.tmp 3) (.tmp 17) rfl (C + 1) #[.int .i64 0, .int .i64 0] rfl rfl 94 _ HB8.out Tryz.size94 rfl (all94 ..) ?_; refine Hid.out ?_)
 unfold Hid
 rw [← hw9]
 clear hw9 HB8
 go_wp2
 exact idle_out w w9 B X C (C + 1) _ H9.out.1 H9.out.2.1 H9.out.2.2.1 H7.out.1 H9.out.2.2.2 rfl rfl
end Go.Proofs.YthegceijlfflfaaGreat
