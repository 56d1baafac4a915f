import Derived.Test.YtjadpbkhfclldaaGreatJRc
import Derived.Test.YtjadpbkhfclldaaGreatJRk
import Derived.Test.YtjadpbkhfclldaaGreatJRd
namespace Go.Proofs.YtjadpbkhfclldaaGreat
open Go.RowKit
set_option linter.unusedVariables false
set_option maxRecDepth 6000

theorem eachPar (b g p : Nat) (B : List UInt8) (w : World) (h : Rd w b g B p 0) : Calls Tryz.prog 80 #[.agg #[.pointer (some ⟨b, 0, none⟩)]] w fun e w' =>
    ((∃ (x : Par) (q : Nat), rdPar B p = .ok (Par.pure x, q) ∧ e = .returned x.v ∧ eParR.Ok w' x ∧ (∀ k ∈ eParR.bl x, w.heap.size ≤ k ∧ k < w'.heap.size) ∧ Rd w' b g B q 0) ∨ (∃ q, rdPar B p = .error q ∧ e = gone q 110)) ∧ Keeps (· = b) w w' := by
  exact rpartition_any b g p B w h

theorem Tryz.info47 : (Tryz.prog.info? 47).map (fun i => (i.zero, i.size, i.bytes)) = some (some (.agg #[.string ⟨#[]⟩, .int .i64 0, .int .i64 0, .int .i64 0, .int .i64 0, .int .i64 0, .slice none 0 0, .slice none 0 0]), 8, 104) := by kernel_rfl
set_option maxHeartbeats 2000000 in
theorem readPars_any (b g p : Nat) (B : List UInt8) (w : World) (h : Rd w b g B p 0) :
    Calls Tryz.prog 79 #[.agg #[.pointer (some ⟨b, 0, none⟩)], .func (.func 80) #[] #[]] w fun e w' => ((∃ (l : List Par) (q : Nat) (ad : Option Addr) (cp : Nat), rdList B (rdPar B) p = .ok (l.map Par.pure, q) ∧ e = .returned (.slice ad l.length cp) ∧ LstR eParR w' w.heap.size ad cp l ∧ Rd w' b g B q 0) ∨ (∃ q, rdList B (rdPar B) p = .error q ∧ e = gone q 110)) ∧ Keeps (· = b) w w' := by
  obtain ⟨c, hc⟩ : ∃ c, c = w.heap.size := ⟨_, rfl⟩
  have HR : Hid (Rd w b g B p 0 ∧ c = w.heap.size ∧ b < c) := ⟨h, hc, by rw [hc]; exact h.blk.lt⟩
  have hb : c ≠ b := by have := h.blk.lt; omega
  clear h
  go_enter Tryz.func79, Tryz.ntmps79
  go_wp2
  rw [← hc]
  obtain ⟨W, hW⟩ : ∃ W, W = w.alloc (.cells #[.pointer (some ⟨b, 0, none⟩)] 126) := ⟨_, rfl⟩
  have hB : Blk W c [.pointer (some ⟨b, 0, none⟩)] 126 := by rw [hW, hc]; exact Blk.new w _ _
  have hR : Rd W b g B p 0 := by rw [hW]; exact HR.out.1.kept ((Keeps.refl (fun _ => False) w).alloc _) (fun e => e) (fun e => e)
  have HK : Hid (Keeps (· = b) w W) := by rw [hW]; exact (Keeps.refl _ w).alloc _
  have HZ : Hid (c + 1 = W.heap.size ∧ c = w.heap.size ∧ b < c) := by rw [hW]; exact ⟨by rw [hc]; simp, hc, HR.out.2.2⟩
  have p0 := hB.cell (i := 0) rfl
  rw [← hW]
  have HB : Hid (Blk W c [.pointer (some ⟨b, 0, none⟩)] 126 ∧ Rd W b g B p 0) := ⟨hB, hR⟩
  have HC : Hid (rdList B (rdPar B) p = (rdU8 B p).bind _) := rfl
  have HGC : Hid (g < c) := by rw [hc]; exact HR.out.1.bytes.lt
  clear hW hB hR HR hc
  refine wp_region_panicTo (fun e w' => ((∃ (l : List Par) (q : Nat) (ad : Option Addr) (cp : Nat), rdList B (rdPar B) p = .ok (l.map Par.pure, q) ∧ e = .returned (.slice ad l.length cp) ∧ LstR eParR w' w.heap.size ad cp l ∧ Rd w' b g B q 0) ∨ (∃ q, rdList B (rdPar B) p = .error q ∧ e = gone q 110)) ∧ Keeps (· = b) w w') (fun c a w h1 h2 => ⟨h1, h2⟩) ?_
  obtain ⟨V, hV⟩ : ∃ V, numV B p 0 1 = V := ⟨_, rfl⟩
  have hlt := numV_lt B p 0 1
  rw [hV, show (256 : Nat) ^ 1 = 256 from by decide] at hlt
  have HV : Hid (numV B p 0 1 = V) := hV
  clear hV
  go_region_held2 (fun w' => w'.cell? ⟨c, 0, none⟩ = some (.pointer (some ⟨b, 0, none⟩))) (first | exact hS | go_keep)
    (first
      | (go_at_call 91; refine (rU8_any b g p 0 B _ HB.out.2.drew).mono ?_; rintro e w2 ⟨rfl, hR2, hK2⟩; rw [HV.out]; have hS : w2.cell? ⟨c, 0, none⟩ = some (.pointer (some ⟨b, 0, none⟩)) := (HB.out.1.drew.kept hK2 hb).cell (i := 0) rfl)
      | (go_at_call 90; refine (item8_any b g _ B _ _ _ hR2).mono ?_; rintro e w3 ⟨⟨he, rfl⟩ | ⟨he, rfl⟩, hK3⟩; rotate_left; exact ⟨rfl, .inr ⟨p, bind_err HC.out ((rdU8_of B p).elim (fun h => absurd h.1 he) (fun h => h.2.1)), by rw [(rdU8_of B p).elim (fun h => absurd h.1 he) (fun h => h.2.2)]⟩, (HK.out.drew.trans hK2 fun _ _ e => e).trans hK3 fun _ _ e => e.elim⟩; have hS : w3.cell? ⟨c, 0, none⟩ = some (.pointer (some ⟨b, 0, none⟩)) := ((HB.out.1.drew.kept hK2 hb).kept hK3 fun e => e).cell (i := 0) rfl))
  refine PanicTo.normal ?_
  have hv : rdU8 B p = .ok (V, numP B p 0 1) := by
    rcases rdU8_of B p with h | h
    · rw [h.2, HV.out]
    · exact absurd he h.1
  obtain ⟨P1, hP1⟩ : ∃ P1, numP B p 0 1 = P1 := ⟨_, rfl⟩
  rw [hP1] at hv hR2
  have HF : Hid (rdList B (rdPar B) p = rdMany (rdPar B) V P1 ∧ Rd w3 b g B P1 0 ∧ Keeps (· = b) w w3 ∧ Blk w3 c [.pointer (some ⟨b, 0, none⟩)] 126) := by
    refine ⟨bind_ok HC.out hv, ?_, (HK.out.drew.trans hK2 fun _ _ e => e).trans hK3 fun _ _ e => e.elim, (HB.out.1.drew.kept hK2 hb).kept hK3 fun e => e⟩
    have := hR2.kept hK3 (fun e => e) (fun e => e)
    rw [he] at this; exact this
  clear hR2 hK2 hK3 hS he hv hP1 HB HC HV
  go_wp2
  go_loopw [5, 11] (fun u i wr => ∃ (j : Nat) (l : List Par) (q : Nat), j ≤ V ∧ i = .int .u8 j ∧ l.length = j ∧ rdMany (rdPar B) j P1 = .ok (l.map Par.pure, q) ∧ Gon w wr b g B q ∧ Blk wr c [.pointer (some ⟨b, 0, none⟩)] 126 ∧ RowD eParR wr (c + 1) u l) (fun _ i _ => V - (intOf i).toNat)
  case atStart => exact ⟨0, [], P1, by omega, rfl, rfl, rfl, ⟨HF.out.2.1, HF.out.2.2.1⟩, HF.out.2.2.2, RowD.nil _ _⟩
  case round =>
    obtain ⟨j, l, q, hj, rfl, hjl, hM, hG, hBk, hRow⟩ := hrel
    have p1 := hBk.cell (i := 0) rfl
    by_cases hl : j < V
    · have HJ : Hid (l.length = j ∧ rdMany (rdPar B) j P1 = .ok (l.map Par.pure, q) ∧ Gon w wr b g B q ∧ Blk wr c [.pointer (some ⟨b, 0, none⟩)] 126 ∧ RowD eParR wr (c + 1) u5 l) := ⟨hjl, hM, hG, hBk, hRow⟩
      clear hjl hM hG hBk hRow p0
      go_wp2_with fail
      refine (eachPar b g q B wr HJ.out.2.2.1.rd).mono ?_
      rintro e w4 ⟨⟨x, q', hr, rfl, hok, hbl, hR4⟩ | ⟨q', hr, rfl⟩, hK4⟩
      · have hb4 : ∀ k, k = b → k < c + 1 := fun k e => by have := HZ.out.2.2; omega
        have hRow4 := HJ.out.2.2.2.2.kept hK4 hb4
        have hcs : c + 1 ≤ wr.heap.size := HJ.out.2.2.2.1.lt
        obtain ⟨i0, hi, hz0, hz1, hz2⟩ := info_parts Tryz.info47
        have hvs : ∀ v ∈ Par.vs x, v.oneCell' = true := by
          intro v hv
          simp only [Par.vs, List.mem_cons, List.not_mem_nil, or_false] at hv
          rcases hv with rfl | rfl | rfl | rfl | rfl | rfl | rfl | rfl <;> rfl
        obtain ⟨v', W', happ, hown', hfr', hKa⟩ := append_new 23 47 i0 (.agg #[.string ⟨#[]⟩, .int .i64 0, .int .i64 0, .int .i64 0, .int .i64 0, .int .i64 0, .slice none 0 0, .slice none 0 0]) 8 104 Tryz.underlying23 hi hz0 hz1 hz2 rfl (by omega) u5 l.length (l.flatMap Par.vs) hRow4.own (Par.vs x).toArray rfl (by simpa using hvs) (by unfold maxLen; have := HJ.out.1; omega) (by have := HJ.out.1; omega)
        have hsz : wr.heap.size ≤ w4.heap.size := hK4.size
        have hRow5 : RowD eParR W' (c + 1) v' (l ++ [x]) := hRow4.push hok (fun k hk => by
            have h1 := hbl k hk
            refine ⟨by omega, h1.2, fun e => ?_⟩
            have : k < wr.heap.size := by
              rcases HJ.out.2.2.2.2.own.2 with ⟨h2, _⟩ | ⟨gg, cap, cur, h2, _, h3, _⟩
              · rw [h2] at e; cases e
              · rw [h2] at e; cases e; exact (Array.getElem?_eq_some_iff.1 h3).1
            omega) (by omega) hown' hfr' hKa (fun y hy k hk hk2 => by have h1 := (HJ.out.2.2.2.2.toRow.bl y hy k hk).2.1; have h2 := (hbl k hk2).1; omega)
        have hKb : ∀ k, some k = u5.ownBlock → c + 1 ≤ k := fun k e => HJ.out.2.2.2.2.low k e.symm
        have HN : Hid ((l ++ [x]).length = j + 1 ∧ rdMany (rdPar B) (j + 1) P1 = .ok ((l ++ [x]).map Par.pure, q') ∧ Gon w W' b g B q' ∧ Blk W' c [.pointer (some ⟨b, 0, none⟩)] 126 ∧ RowD eParR W' (c + 1) v' (l ++ [x])) := by
          refine ⟨by rw [List.length_append, HJ.out.1]; rfl, by rw [List.map_append]; exact rdMany_succ HJ.out.2.1 hr, ⟨hR4.kept hKa (fun e => by have := hKb b e; have := HZ.out.2.2; omega) (fun e => by have := hKb g e; have := HF.out.2.1.bytes.lt; have := HGC.out; omega), (HJ.out.2.2.1.kp.trans hK4 fun _ _ e => e).trans hKa fun k hk e => by have := hKb k e; have := HZ.out.2.1; omega⟩, (HJ.out.2.2.2.1.kept hK4 hb).kept hKa (fun e => by have := hKb c e; omega), hRow5⟩
        have HAP : Hid (∀ ty, (Builtin.append_ #[23, 23] ty #[u5, .slice (some ⟨w4.heap.size, 0, none⟩) 1 1]).run Tryz.prog (w4.alloc (.cells (Par.vs x).toArray 47)) = .ok v' W') := happ
        clear hr hok hbl hR4 hK4 hb4 hRow4 hcs hi hz0 hz1 hz2 hvs happ hown' hfr' hKa hsz hRow5 hKb p1 HJ
        obtain ⟨s, a1, a2, a3, a4, a5, ra, rc, rs, pa, pc, ps⟩ := x
        obtain ⟨N2, hN2⟩ : ∃ N2, rs.length = N2 := ⟨_, rfl⟩
        obtain ⟨N3, hN3⟩ : ∃ N3, ps.length = N3 := ⟨_, rfl⟩
        simp only [Par.vs, hN2, hN3] at HAP
        simp only [Par.v, hN2, hN3]
        go_wp2_with (at_builtin; go_must (refine wpList_append_run rfl (.tmp 13) (.tmp 17) 23 23 rfl u5 (.slice (some ⟨w4.heap.size, 0, none⟩) 1 1) v' W' rfl rfl HAP.out ?_; refine Hid.out ?_))
        unfold Hid
        clear HAP
        go_wp2
        go_roundw
        case rel => exact ⟨j + 1, _, q', by omega, by go_num, HN.out⟩
        case measure => simp [intOf]; omega
      · exact ⟨rfl, .inr ⟨q', by rw [HF.out.1]; exact rdMany_err (rdMany_fail HJ.out.2.1 hr) V (by omega), rfl⟩, HJ.out.2.2.1.kp.trans hK4 fun _ _ e => e⟩
    · obtain rfl : j = V := by omega
      obtain ⟨ad, cp, hu, hL⟩ := hRow.lst
      have HJ : Hid (rdList B (rdPar B) p = .ok (l.map Par.pure, q) ∧ Gon w wr b g B q ∧ LstR eParR wr w.heap.size ad cp l) := ⟨by rw [HF.out.1]; exact hM, hG, hL.mono (by have := HZ.out.2.1; omega)⟩
      obtain ⟨N, hN⟩ : ∃ N, l.length = N := ⟨_, rfl⟩
      rw [hN] at hu
      have HN : Hid (l.length = N) := hN
      subst hu
      clear hjl hM hG hBk hRow hL p0 p1 hN
      go_wp2
      go_ret
      exact ⟨.inl ⟨l, q, ad, cp, HJ.out.1, by rw [HN.out]; rfl, HJ.out.2.2, HJ.out.2.1.rd⟩, HJ.out.2.1.kp⟩

end Go.Proofs.YtjadpbkhfclldaaGreat
namespace Go.Proofs.YtjadpbkhfclldaaGreat
open Go.RowKit
set_option linter.unusedVariables false
set_option maxRecDepth 6000

set_option maxHeartbeats 1000000 in
theorem rcore_any (b g p : Nat) (B : List UInt8) (w : World) (h : Rd w b g B p 0) : Calls Tryz.prog 78 #[.agg #[.pointer (some ⟨b, 0, none⟩)]] w fun e w' =>
    ((∃ (x : Core) (q : Nat), rdCore B p = .ok (x.ws, q) ∧ e = .returned x.v ∧ eCoreR.Ok w' x ∧ (∀ k ∈ eCoreR.bl x, w.heap.size ≤ k ∧ k < w'.heap.size) ∧ Rd w' b g B q 0) ∨ (∃ q, rdCore B p = .error q ∧ e = gone q 110)) ∧ Keeps (· = b) w w' := by
  have HR : Hid (Rd w b g B p 0) := h
  clear h
  go_enter Tryz.func78, Tryz.ntmps78
  go_wp2_with fail
  have hK : Keeps (fun _ => False) w (w.alloc (.cells #[.pointer (some ⟨b, 0, none⟩)] 126)) := (Keeps.refl _ w).alloc _
  refine (readWins_any b g p B _ (HR.out.kept hK (fun e => e) (fun e => e))).mono ?_
  rintro e w1 ⟨⟨l, q, ad, cp, hr, rfl, hL, hR1⟩ | ⟨q, hr, rfl⟩, hK1⟩
  · have HF : Hid (rdCore B p = .ok (l, q) ∧ LstR eWin w1 (w.alloc (.cells #[.pointer (some ⟨b, 0, none⟩)] 126)).heap.size ad cp l ∧ Rd w1 b g B q 0 ∧ Keeps (· = b) w w1) := ⟨hr, hL, hR1, (hK.mono fun _ _ e => e.elim).trans hK1 fun _ _ e => e⟩
    obtain ⟨N, hN⟩ : ∃ N, l.length = N := ⟨_, rfl⟩
    have HN : Hid (l.length = N) := hN
    rw [hN]
    clear hr hL hR1 hK1 hK hN
    go_wp2
    go_ret
    refine ⟨.inl ⟨⟨ad, cp, l⟩, q, HF.out.1, by rw [← HN.out]; rfl, ⟨⟨HF.out.2.1.seg, HF.out.2.1.len, HF.out.2.1.ok⟩, HF.out.2.1.own⟩, ?_, HF.out.2.2.1⟩, HF.out.2.2.2⟩
    intro k hk
    refine ⟨Nat.le_trans ?_ (HF.out.2.1.olo k hk), HF.out.2.1.olt k hk⟩
    simp
  · exact ⟨rfl, .inr ⟨q, hr, rfl⟩, (hK.mono fun _ _ e => e.elim).trans hK1 fun _ _ e => e⟩
end Go.Proofs.YtjadpbkhfclldaaGreat
namespace Go.Proofs.YtjadpbkhfclldaaGreat
open Go.RowKit
set_option linter.unusedVariables false
set_option maxRecDepth 6000

theorem eachCore (b g p : Nat) (B : List UInt8) (w : World) (h : Rd w b g B p 0) : Calls Tryz.prog 78 #[.agg #[.pointer (some ⟨b, 0, none⟩)]] w fun e w' =>
    ((∃ (x : Core) (q : Nat), rdCore B p = .ok (Core.ws x, q) ∧ e = .returned x.v ∧ eCoreR.Ok w' x ∧ (∀ k ∈ eCoreR.bl x, w.heap.size ≤ k ∧ k < w'.heap.size) ∧ Rd w' b g B q 0) ∨ (∃ q, rdCore B p = .error q ∧ e = gone q 110)) ∧ Keeps (· = b) w w' := by
  exact rcore_any b g p B w h

theorem Tryz.info43 : (Tryz.prog.info? 43).map (fun i => (i.zero, i.size, i.bytes)) = some (some (.slice none 0 0), 1, 24) := by kernel_rfl
set_option maxHeartbeats 2000000 in
theorem readCores_any (b g p : Nat) (B : List UInt8) (w : World) (h : Rd w b g B p 0) :
    Calls Tryz.prog 77 #[.agg #[.pointer (some ⟨b, 0, none⟩)], .func (.func 78) #[] #[]] w fun e w' => ((∃ (l : List Core) (q : Nat) (ad : Option Addr) (cp : Nat), rdList B (rdCore B) p = .ok (l.map Core.ws, q) ∧ e = .returned (.slice ad l.length cp) ∧ LstR eCoreR w' w.heap.size ad cp l ∧ Rd w' b g B q 0) ∨ (∃ q, rdList B (rdCore B) p = .error q ∧ e = gone q 110)) ∧ Keeps (· = b) w w' := by
  obtain ⟨c, hc⟩ : ∃ c, c = w.heap.size := ⟨_, rfl⟩
  have HR : Hid (Rd w b g B p 0 ∧ c = w.heap.size ∧ b < c) := ⟨h, hc, by rw [hc]; exact h.blk.lt⟩
  have hb : c ≠ b := by have := h.blk.lt; omega
  clear h
  go_enter Tryz.func77, Tryz.ntmps77
  go_wp2
  rw [← hc]
  obtain ⟨W, hW⟩ : ∃ W, W = w.alloc (.cells #[.pointer (some ⟨b, 0, none⟩)] 126) := ⟨_, rfl⟩
  have hB : Blk W c [.pointer (some ⟨b, 0, none⟩)] 126 := by rw [hW, hc]; exact Blk.new w _ _
  have hR : Rd W b g B p 0 := by rw [hW]; exact HR.out.1.kept ((Keeps.refl (fun _ => False) w).alloc _) (fun e => e) (fun e => e)
  have HK : Hid (Keeps (· = b) w W) := by rw [hW]; exact (Keeps.refl _ w).alloc _
  have HZ : Hid (c + 1 = W.heap.size ∧ c = w.heap.size ∧ b < c) := by rw [hW]; exact ⟨by rw [hc]; simp, hc, HR.out.2.2⟩
  have p0 := hB.cell (i := 0) rfl
  rw [← hW]
  have HB : Hid (Blk W c [.pointer (some ⟨b, 0, none⟩)] 126 ∧ Rd W b g B p 0) := ⟨hB, hR⟩
  have HC : Hid (rdList B (rdCore B) p = (rdU8 B p).bind _) := rfl
  have HGC : Hid (g < c) := by rw [hc]; exact HR.out.1.bytes.lt
  clear hW hB hR HR hc
  refine wp_region_panicTo (fun e w' => ((∃ (l : List Core) (q : Nat) (ad : Option Addr) (cp : Nat), rdList B (rdCore B) p = .ok (l.map Core.ws, q) ∧ e = .returned (.slice ad l.length cp) ∧ LstR eCoreR w' w.heap.size ad cp l ∧ Rd w' b g B q 0) ∨ (∃ q, rdList B (rdCore B) p = .error q ∧ e = gone q 110)) ∧ Keeps (· = b) w w') (fun c a w h1 h2 => ⟨h1, h2⟩) ?_
  obtain ⟨V, hV⟩ : ∃ V, numV B p 0 1 = V := ⟨_, rfl⟩
  have hlt := numV_lt B p 0 1
  rw [hV, show (256 : Nat) ^ 1 = 256 from by decide] at hlt
  have HV : Hid (numV B p 0 1 = V) := hV
  clear hV
  go_region_held2 (fun w' => w'.cell? ⟨c, 0, none⟩ = some (.pointer (some ⟨b, 0, none⟩))) (first | exact hS | go_keep)
    (first
      | (go_at_call 91; refine (rU8_any b g p 0 B _ HB.out.2.drew).mono ?_; rintro e w2 ⟨rfl, hR2, hK2⟩; rw [HV.out]; have hS : w2.cell? ⟨c, 0, none⟩ = some (.pointer (some ⟨b, 0, none⟩)) := (HB.out.1.drew.kept hK2 hb).cell (i := 0) rfl)
      | (go_at_call 90; refine (item8_any b g _ B _ _ _ hR2).mono ?_; rintro e w3 ⟨⟨he, rfl⟩ | ⟨he, rfl⟩, hK3⟩; rotate_left; exact ⟨rfl, .inr ⟨p, bind_err HC.out ((rdU8_of B p).elim (fun h => absurd h.1 he) (fun h => h.2.1)), by rw [(rdU8_of B p).elim (fun h => absurd h.1 he) (fun h => h.2.2)]⟩, (HK.out.drew.trans hK2 fun _ _ e => e).trans hK3 fun _ _ e => e.elim⟩; have hS : w3.cell? ⟨c, 0, none⟩ = some (.pointer (some ⟨b, 0, none⟩)) := ((HB.out.1.drew.kept hK2 hb).kept hK3 fun e => e).cell (i := 0) rfl))
  refine PanicTo.normal ?_
  have hv : rdU8 B p = .ok (V, numP B p 0 1) := by
    rcases rdU8_of B p with h | h
    · rw [h.2, HV.out]
    · exact absurd he h.1
  obtain ⟨P1, hP1⟩ : ∃ P1, numP B p 0 1 = P1 := ⟨_, rfl⟩
  rw [hP1] at hv hR2
  have HF : Hid (rdList B (rdCore B) p = rdMany (rdCore B) V P1 ∧ Rd w3 b g B P1 0 ∧ Keeps (· = b) w w3 ∧ Blk w3 c [.pointer (some ⟨b, 0, none⟩)] 126) := by
    refine ⟨bind_ok HC.out hv, ?_, (HK.out.drew.trans hK2 fun _ _ e => e).trans hK3 fun _ _ e => e.elim, (HB.out.1.drew.kept hK2 hb).kept hK3 fun e => e⟩
    have := hR2.kept hK3 (fun e => e) (fun e => e)
    rw [he] at this; exact this
  clear hR2 hK2 hK3 hS he hv hP1 HB HC HV
  go_wp2
  go_loopw [5, 11] (fun u i wr => ∃ (j : Nat) (l : List Core) (q : Nat), j ≤ V ∧ i = .int .u8 j ∧ l.length = j ∧ rdMany (rdCore B) j P1 = .ok (l.map Core.ws, q) ∧ Gon w wr b g B q ∧ Blk wr c [.pointer (some ⟨b, 0, none⟩)] 126 ∧ RowD eCoreR wr (c + 1) u l) (fun _ i _ => V - (intOf i).toNat)
  case atStart => exact ⟨0, [], P1, by omega, rfl, rfl, rfl, ⟨HF.out.2.1, HF.out.2.2.1⟩, HF.out.2.2.2, RowD.nil _ _⟩
  case round =>
    obtain ⟨j, l, q, hj, rfl, hjl, hM, hG, hBk, hRow⟩ := hrel
    have p1 := hBk.cell (i := 0) rfl
    by_cases hl : j < V
    · have HJ : Hid (l.length = j ∧ rdMany (rdCore B) j P1 = .ok (l.map Core.ws, q) ∧ Gon w wr b g B q ∧ Blk wr c [.pointer (some ⟨b, 0, none⟩)] 126 ∧ RowD eCoreR wr (c + 1) u5 l) := ⟨hjl, hM, hG, hBk, hRow⟩
      clear hjl hM hG hBk hRow p0
      go_wp2_with fail
      refine (eachCore b g q B wr HJ.out.2.2.1.rd).mono ?_
      rintro e w4 ⟨⟨x, q', hr, rfl, hok, hbl, hR4⟩ | ⟨q', hr, rfl⟩, hK4⟩
      · have hb4 : ∀ k, k = b → k < c + 1 := fun k e => by have := HZ.out.2.2; omega
        have hRow4 := HJ.out.2.2.2.2.kept hK4 hb4
        have hcs : c + 1 ≤ wr.heap.size := HJ.out.2.2.2.1.lt
        obtain ⟨i0, hi, hz0, hz1, hz2⟩ := info_parts Tryz.info43
        have hvs : ∀ v ∈ Core.vs x, v.oneCell' = true := by
          intro v hv
          simp only [Core.vs, List.mem_cons, List.not_mem_nil, or_false] at hv
          rw [hv]; rfl
        obtain ⟨v', W', happ, hown', hfr', hKa⟩ := append_new 22 43 i0 (.slice none 0 0) 1 24 Tryz.underlying22 hi hz0 hz1 hz2 rfl (by omega) u5 l.length (l.flatMap Core.vs) hRow4.own (Core.vs x).toArray rfl (by simpa using hvs) (by unfold maxLen; have := HJ.out.1; omega) (by have := HJ.out.1; omega)
        have hsz : wr.heap.size ≤ w4.heap.size := hK4.size
        have hRow5 : RowD eCoreR W' (c + 1) v' (l ++ [x]) := hRow4.push hok (fun k hk => by
            have h1 := hbl k hk
            refine ⟨by omega, h1.2, fun e => ?_⟩
            have : k < wr.heap.size := by
              rcases HJ.out.2.2.2.2.own.2 with ⟨h2, _⟩ | ⟨gg, cap, cur, h2, _, h3, _⟩
              · rw [h2] at e; cases e
              · rw [h2] at e; cases e; exact (Array.getElem?_eq_some_iff.1 h3).1
            omega) (by omega) hown' hfr' hKa (fun y hy k hk hk2 => by have h1 := (HJ.out.2.2.2.2.toRow.bl y hy k hk).2.1; have h2 := (hbl k hk2).1; omega)
        have hKb : ∀ k, some k = u5.ownBlock → c + 1 ≤ k := fun k e => HJ.out.2.2.2.2.low k e.symm
        have HN : Hid ((l ++ [x]).length = j + 1 ∧ rdMany (rdCore B) (j + 1) P1 = .ok ((l ++ [x]).map Core.ws, q') ∧ Gon w W' b g B q' ∧ Blk W' c [.pointer (some ⟨b, 0, none⟩)] 126 ∧ RowD eCoreR W' (c + 1) v' (l ++ [x])) := by
          refine ⟨by rw [List.length_append, HJ.out.1]; rfl, by rw [List.map_append]; exact rdMany_succ HJ.out.2.1 hr, ⟨hR4.kept hKa (fun e => by have := hKb b e; have := HZ.out.2.2; omega) (fun e => by have := hKb g e; have := HF.out.2.1.bytes.lt; have := HGC.out; omega), (HJ.out.2.2.1.kp.trans hK4 fun _ _ e => e).trans hKa fun k hk e => by have := hKb k e; have := HZ.out.2.1; omega⟩, (HJ.out.2.2.2.1.kept hK4 hb).kept hKa (fun e => by have := hKb c e; omega), hRow5⟩
        have HAP : Hid (∀ ty, (Builtin.append_ #[22, 22] ty #[u5, .slice (some ⟨w4.heap.size, 0, none⟩) 1 1]).run Tryz.prog (w4.alloc (.cells (Core.vs x).toArray 43)) = .ok v' W') := happ
        clear hr hok hbl hR4 hK4 hb4 hRow4 hcs hi hz0 hz1 hz2 hvs happ hown' hfr' hKa hsz hRow5 hKb p1 HJ
        obtain ⟨a, c', ws⟩ := x
        obtain ⟨N2, hN2⟩ : ∃ N2, ws.length = N2 := ⟨_, rfl⟩
        simp only [Core.vs, hN2] at HAP
        simp only [Core.v, hN2]
        go_wp2_with (at_builtin; go_must (refine wpList_append_run rfl (.tmp 13) (.tmp 17) 22 22 rfl u5 (.slice (some ⟨w4.heap.size, 0, none⟩) 1 1) v' W' rfl rfl HAP.out ?_; refine Hid.out ?_))
        unfold Hid
        clear HAP
        go_wp2
        go_roundw
        case rel => exact ⟨j + 1, _, q', by omega, by go_num, HN.out⟩
        case measure => simp [intOf]; omega
      · exact ⟨rfl, .inr ⟨q', by rw [HF.out.1]; exact rdMany_err (rdMany_fail HJ.out.2.1 hr) V (by omega), rfl⟩, HJ.out.2.2.1.kp.trans hK4 fun _ _ e => e⟩
    · obtain rfl : j = V := by omega
      obtain ⟨ad, cp, hu, hL⟩ := hRow.lst
      have HJ : Hid (rdList B (rdCore B) p = .ok (l.map Core.ws, q) ∧ Gon w wr b g B q ∧ LstR eCoreR wr w.heap.size ad cp l) := ⟨by rw [HF.out.1]; exact hM, hG, hL.mono (by have := HZ.out.2.1; omega)⟩
      obtain ⟨N, hN⟩ : ∃ N, l.length = N := ⟨_, rfl⟩
      rw [hN] at hu
      have HN : Hid (l.length = N) := hN
      subst hu
      clear hjl hM hG hBk hRow hL p0 p1 hN
      go_wp2
      go_ret
      exact ⟨.inl ⟨l, q, ad, cp, HJ.out.1, by rw [HN.out]; rfl, HJ.out.2.2, HJ.out.2.1.rd⟩, HJ.out.2.1.kp⟩

end Go.Proofs.YtjadpbkhfclldaaGreat
