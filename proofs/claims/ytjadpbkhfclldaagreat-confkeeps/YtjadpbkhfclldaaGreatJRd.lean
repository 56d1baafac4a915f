import Derived.Test.YtjadpbkhfclldaaGreatJRc
import Derived.Test.YtjadpbkhfclldaaGreatJRb
namespace Go.Proofs.YtjadpbkhfclldaaGreat
open Go.RowKit
set_option linter.unusedVariables false
set_option maxRecDepth 6000

theorem rdMany_succ {α : Type} {f : Nat → Rs α} {j p q q' : Nat} {l : List α} {y : α} (h : rdMany f j p = .ok (l, q)) (hr : f q = .ok (y, q')) : rdMany f (j + 1) p = .ok (l ++ [y], q') := by
  unfold rdMany; rw [h]; show (f q).bind _ = _; rw [hr]; rfl
theorem rdMany_fail {α : Type} {f : Nat → Rs α} {j p q q' : Nat} {l : List α} (h : rdMany f j p = .ok (l, q)) (hr : f q = .error q') : rdMany f (j + 1) p = .error q' := by
  unfold rdMany; rw [h]; show (f q).bind _ = _; rw [hr]; rfl
theorem rdMany_err {α : Type} {f : Nat → Rs α} {j p q : Nat} (h : rdMany f j p = .error q) : ∀ n, j ≤ n → rdMany f n p = .error q := by
  intro n hn
  induction n with
  | zero => have : j = 0 := by omega
            subst this; exact h
  | succ n ih =>
    by_cases e : j = n + 1
    · subst e; exact h
    · unfold rdMany; rw [ih (by omega)]; rfl

theorem eachWin (b g p : Nat) (B : List UInt8) (w : World) (h : Rd w b g B p 0) : Calls Tryz.prog 93 #[.agg #[.pointer (some ⟨b, 0, none⟩)]] w fun e w' =>
    ((∃ (x : Win) (q : Nat), rdWin B p = .ok (x, q) ∧ e = .returned x.v ∧ eWin.Ok w' x ∧ (∀ k ∈ eWin.bl x, w.heap.size ≤ k ∧ k < w'.heap.size) ∧ Rd w' b g B q 0) ∨ (∃ q, rdWin B p = .error q ∧ e = gone q 110)) ∧ Keeps (· = b) w w' := by
  exact (rwindow_any b g p B w h).mono fun e w' h => ⟨h.1.imp (fun ⟨x, q, h1, h2, h3, h4⟩ => ⟨x, q, h1, h2, h3, fun k hk => (by cases hk), h4⟩) id, h.2⟩

theorem Tryz.info51 : (Tryz.prog.info? 51).map (fun i => (i.zero, i.size, i.bytes)) = some (some (.agg #[.int .i64 0, .int .i64 0, .int .i64 0]), 3, 24) := by kernel_rfl
set_option maxHeartbeats 2000000 in
theorem readWins_any (b g p : Nat) (B : List UInt8) (w : World) (h : Rd w b g B p 0) :
    Calls Tryz.prog 92 #[.agg #[.pointer (some ⟨b, 0, none⟩)], .func (.func 93) #[] #[]] w fun e w' => ((∃ (l : List Win) (q : Nat) (ad : Option Addr) (cp : Nat), rdList B (rdWin B) p = .ok (l, q) ∧ e = .returned (.slice ad l.length cp) ∧ LstR eWin w' w.heap.size ad cp l ∧ Rd w' b g B q 0) ∨ (∃ q, rdList B (rdWin B) p = .error q ∧ e = gone q 110)) ∧ Keeps (· = b) w w' := by
  obtain ⟨c, hc⟩ : ∃ c, c = w.heap.size := ⟨_, rfl⟩
  have HR : Hid (Rd w b g B p 0 ∧ c = w.heap.size ∧ b < c) := ⟨h, hc, by rw [hc]; exact h.blk.lt⟩
  have hb : c ≠ b := by have := h.blk.lt; omega
  clear h
  go_enter Tryz.func92, Tryz.ntmps92
  go_wp2
  rw [← hc]
  obtain ⟨W, hW⟩ : ∃ W, W = w.alloc (.cells #[.pointer (some ⟨b, 0, none⟩)] 126) := ⟨_, rfl⟩
  have hB : Blk W c [.pointer (some ⟨b, 0, none⟩)] 126 := by rw [hW, hc]; exact Blk.new w _ _
  have hR : Rd W b g B p 0 := by rw [hW]; exact HR.out.1.kept ((Keeps.refl (fun _ => False) w).alloc _) (fun e => e) (fun e => e)
  have HK : Hid (Keeps (· = b) w W) := by rw [hW]; exact (Keeps.refl _ w).alloc _
  have HZ : Hid (c + 1 = W.heap.size ∧ c = w.heap.size ∧ b < c) := by rw [hW]; exact ⟨by rw [hc]; simp, hc, HR.out.2.2⟩
  have p0 := hB.cell (i := 0) rfl
  rw [← hW]
  have HB : Hid (Blk W c [.pointer (some ⟨b, 0, none⟩)] 126 ∧ Rd W b g B p 0) := ⟨hB, hR⟩
  have HC : Hid (rdList B (rdWin B) p = (rdU8 B p).bind _) := rfl
  have HGC : Hid (g < c) := by rw [hc]; exact HR.out.1.bytes.lt
  clear hW hB hR HR hc
  refine wp_region_panicTo (fun e w' => ((∃ (l : List Win) (q : Nat) (ad : Option Addr) (cp : Nat), rdList B (rdWin B) p = .ok (l, q) ∧ e = .returned (.slice ad l.length cp) ∧ LstR eWin w' w.heap.size ad cp l ∧ Rd w' b g B q 0) ∨ (∃ q, rdList B (rdWin B) p = .error q ∧ e = gone q 110)) ∧ Keeps (· = b) w w') (fun c a w h1 h2 => ⟨h1, h2⟩) ?_
  obtain ⟨V, hV⟩ : ∃ V, numV B p 0 1 = V := ⟨_, rfl⟩
  have hlt := numV_lt B p 0 1
  rw [hV, show (256 : Nat) ^ 1 = 256 from by decide] at hlt
  have HV : Hid (numV B p 0 1 = V) := hV
  clear hV
  go_region_held2 (fun w' => w'.cell? ⟨c, 0, none⟩ = some (.pointer (some ⟨b, 0, none⟩))) (first | exact hS | go_keep)
    (first
      | (go_at_call 91; refine (rU8_any b g p 0 B _ HB.out.2.drew).mono ?_; rintro e w2 ⟨rfl, hR2, hK2⟩; rw [HV.out]; have hS : w2.cell? ⟨c, 0, none⟩ = some (.pointer (some ⟨b, 0, none⟩)) := (HB.out.1.drew.kept hK2 hb).cell (i := 0) rfl)
      | (go_at_call 90; refine (item8_any b g _ B _ _ _ hR2).mono ?_; rintro e w3 ⟨⟨he, rfl⟩ | ⟨he, rfl⟩, hK3⟩; rotate_left; exact ⟨rfl, .inr ⟨p, bind_err HC.out ((rdU8_of B p).elim (fun h => absurd h.1 he) (fun h => h.2.1)), by rw [(rdU8_of B p).elim (fun h => absurd h.1 he) (fun h => h.2.2)]⟩, (HK.out.drew.trans hK2 fun _ _ e => e).trans hK3 fun _ _ e => e.elim⟩; have hS : w3.cell? ⟨c, 0, none⟩ = some (.pointer (some ⟨b, 0, none⟩)) := ((HB.out.1.drew.kept hK2 hb).kept hK3 fun e => e).cell (i := 0) rfl))
  refine PanicTo.normal ?_
  have hv : rdU8 B p = .ok (V, numP B p 0 1) := by
    rcases rdU8_of B p with h | h
    · rw [h.2, HV.out]
    · exact absurd he h.1
  obtain ⟨P1, hP1⟩ : ∃ P1, numP B p 0 1 = P1 := ⟨_, rfl⟩
  rw [hP1] at hv hR2
  have HF : Hid (rdList B (rdWin B) p = rdMany (rdWin B) V P1 ∧ Rd w3 b g B P1 0 ∧ Keeps (· = b) w w3 ∧ Blk w3 c [.pointer (some ⟨b, 0, none⟩)] 126) := by
    refine ⟨bind_ok HC.out hv, ?_, (HK.out.drew.trans hK2 fun _ _ e => e).trans hK3 fun _ _ e => e.elim, (HB.out.1.drew.kept hK2 hb).kept hK3 fun e => e⟩
    have := hR2.kept hK3 (fun e => e) (fun e => e)
    rw [he] at this; exact this
  clear hR2 hK2 hK3 hS he hv hP1 HB HC HV
  go_wp2
  go_loopw [5, 11] (fun u i wr => ∃ (j : Nat) (l : List Win) (q : Nat), j ≤ V ∧ i = .int .u8 j ∧ l.length = j ∧ rdMany (rdWin B) j P1 = .ok (l, q) ∧ Gon w wr b g B q ∧ Blk wr c [.pointer (some ⟨b, 0, none⟩)] 126 ∧ RowD eWin wr (c + 1) u l) (fun _ i _ => V - (intOf i).toNat)
  case atStart => exact ⟨0, [], P1, by omega, rfl, rfl, rfl, ⟨HF.out.2.1, HF.out.2.2.1⟩, HF.out.2.2.2, RowD.nil _ _⟩
  case round =>
    obtain ⟨j, l, q, hj, rfl, hjl, hM, hG, hBk, hRow⟩ := hrel
    have p1 := hBk.cell (i := 0) rfl
    by_cases hl : j < V
    · have HJ : Hid (l.length = j ∧ rdMany (rdWin B) j P1 = .ok (l, q) ∧ Gon w wr b g B q ∧ Blk wr c [.pointer (some ⟨b, 0, none⟩)] 126 ∧ RowD eWin wr (c + 1) u5 l) := ⟨hjl, hM, hG, hBk, hRow⟩
      clear hjl hM hG hBk hRow p0
      go_wp2_with fail
      refine (eachWin b g q B wr HJ.out.2.2.1.rd).mono ?_
      rintro e w4 ⟨⟨x, q', hr, rfl, hok, hbl, hR4⟩ | ⟨q', hr, rfl⟩, hK4⟩
      · have hb4 : ∀ k, k = b → k < c + 1 := fun k e => by have := HZ.out.2.2; omega
        have hRow4 := HJ.out.2.2.2.2.kept hK4 hb4
        have hcs : c + 1 ≤ wr.heap.size := HJ.out.2.2.2.1.lt
        obtain ⟨i0, hi, hz0, hz1, hz2⟩ := info_parts Tryz.info51
        have hvs : ∀ v ∈ Win.vs x, v.oneCell' = true := by
          intro v hv
          simp only [Win.vs, List.mem_cons, List.not_mem_nil, or_false] at hv
          rcases hv with rfl | rfl | rfl <;> rfl
        obtain ⟨v', W', happ, hown', hfr', hKa⟩ := append_new 43 51 i0 (.agg #[.int .i64 0, .int .i64 0, .int .i64 0]) 3 24 Tryz.underlying43 hi hz0 hz1 hz2 rfl (by omega) u5 l.length (l.flatMap Win.vs) hRow4.own (Win.vs x).toArray rfl (by simpa using hvs) (by unfold maxLen; have := HJ.out.1; omega) (by have := HJ.out.1; omega)
        have hsz : wr.heap.size ≤ w4.heap.size := hK4.size
        have hRow5 : RowD eWin W' (c + 1) v' (l ++ [x]) := hRow4.push hok (fun k hk => by
            have h1 := hbl k hk
            refine ⟨by omega, h1.2, fun e => ?_⟩
            have : k < wr.heap.size := by
              rcases HJ.out.2.2.2.2.own.2 with ⟨h2, _⟩ | ⟨gg, cap, cur, h2, _, h3, _⟩
              · rw [h2] at e; cases e
              · rw [h2] at e; cases e; exact (Array.getElem?_eq_some_iff.1 h3).1
            omega) (by omega) hown' hfr' hKa (fun y hy k hk => by cases hk)
        have hKb : ∀ k, some k = u5.ownBlock → c + 1 ≤ k := fun k e => HJ.out.2.2.2.2.low k e.symm
        have HN : Hid ((l ++ [x]).length = j + 1 ∧ rdMany (rdWin B) (j + 1) P1 = .ok (l ++ [x], q') ∧ Gon w W' b g B q' ∧ Blk W' c [.pointer (some ⟨b, 0, none⟩)] 126 ∧ RowD eWin W' (c + 1) v' (l ++ [x])) := by
          refine ⟨by rw [List.length_append, HJ.out.1]; rfl, rdMany_succ HJ.out.2.1 hr, ⟨hR4.kept hKa (fun e => by have := hKb b e; have := HZ.out.2.2; omega) (fun e => by have := hKb g e; have := HF.out.2.1.bytes.lt; have := HGC.out; omega), (HJ.out.2.2.1.kp.trans hK4 fun _ _ e => e).trans hKa fun k hk e => by have := hKb k e; have := HZ.out.2.1; omega⟩, (HJ.out.2.2.2.1.kept hK4 hb).kept hKa (fun e => by have := hKb c e; omega), hRow5⟩
        have HAP : Hid (∀ ty, (Builtin.append_ #[43, 43] ty #[u5, .slice (some ⟨w4.heap.size, 0, none⟩) 1 1]).run Tryz.prog (w4.alloc (.cells (Win.vs x).toArray 51)) = .ok v' W') := happ
        clear hr hok hbl hR4 hK4 hb4 hRow4 hcs hi hz0 hz1 hz2 hvs happ hown' hfr' hKa hsz hRow5 hKb p1 HJ
        obtain ⟨p, u, s⟩ := x
        go_wp2_with (at_builtin; go_must (refine wpList_append_run rfl (.tmp 13) (.tmp 17) 43 43 rfl u5 (.slice (some ⟨w4.heap.size, 0, none⟩) 1 1) v' W' rfl rfl HAP.out ?_; refine Hid.out ?_))
        unfold Hid
        clear HAP
        go_wp2
        go_roundw
        case rel => exact ⟨j + 1, _, q', by omega, by go_num, HN.out⟩
        case measure => simp [intOf]; omega
      · exact ⟨rfl, .inr ⟨q', by rw [HF.out.1]; exact rdMany_err (rdMany_fail HJ.out.2.1 hr) V (by omega), rfl⟩, HJ.out.2.2.1.kp.trans hK4 fun _ _ e => e⟩
    · obtain rfl : j = V := by omega
      obtain ⟨ad, cp, hu, hL⟩ := hRow.lst
      have HJ : Hid (rdList B (rdWin B) p = .ok (l, q) ∧ Gon w wr b g B q ∧ LstR eWin wr w.heap.size ad cp l) := ⟨by rw [HF.out.1]; exact hM, hG, hL.mono (by have := HZ.out.2.1; omega)⟩
      obtain ⟨N, hN⟩ : ∃ N, l.length = N := ⟨_, rfl⟩
      rw [hN] at hu
      have HN : Hid (l.length = N) := hN
      subst hu
      clear hjl hM hG hBk hRow hL p0 p1 hN
      go_wp2
      go_ret
      exact ⟨.inl ⟨l, q, ad, cp, HJ.out.1, by rw [HN.out]; rfl, HJ.out.2.2, HJ.out.2.1.rd⟩, HJ.out.2.1.kp⟩

end Go.Proofs.YtjadpbkhfclldaaGreat
namespace Go.Proofs.YtjadpbkhfclldaaGreat
open Go.RowKit
set_option linter.unusedVariables false
set_option maxRecDepth 6000

set_option maxHeartbeats 2000000 in
theorem rregion_any (b g p : Nat) (B : List UInt8) (w : World) (h : Rd w b g B p 0) :
    Calls Tryz.prog 97 #[.agg #[.pointer (some ⟨b, 0, none⟩)]] w fun e w' => ((∃ (x : Rgn) (q : Nat), rdRgn B p = .ok (x, q) ∧ e = .returned x.v ∧ x.Fine ∧ Rd w' b g B q 0) ∨ (∃ q, rdRgn B p = .error q ∧ e = gone q 110)) ∧ Keeps (· = b) w w' := by
  obtain ⟨c, hc⟩ : ∃ c, c = w.heap.size := ⟨_, rfl⟩
  have HR : Hid (Rd w b g B p 0) := h
  have hb : c ≠ b := by have := h.blk.lt; omega
  have hb1 : c + 1 ≠ b := by have := h.blk.lt; omega
  have HW : Hid (w.heap.size ≤ c) := by rw [hc]; exact Nat.le_refl _
  clear h
  go_enter Tryz.func97, Tryz.ntmps97
  go_wp2
  rw [← hc]
  obtain ⟨W, hW⟩ : ∃ W, W = (w.alloc (.cells #[.pointer (some ⟨b, 0, none⟩)] 126)).alloc (.cells #[.int .i64 0, .int .i64 0, .int .i64 0, .int .i64 0] 53) := ⟨_, rfl⟩
  have hB : Blk W c [.pointer (some ⟨b, 0, none⟩)] 126 := by rw [hW, hc]; exact (Blk.new w _ _).alloc _
  have hD : Blk W (c + 1) [.int .i64 0, .int .i64 0, .int .i64 0, .int .i64 0] 53 := by rw [hW, hc]; have := Blk.new (w.alloc (.cells #[.pointer (some ⟨b, 0, none⟩)] 126)) #[.int .i64 0, .int .i64 0, .int .i64 0, .int .i64 0] 53; simpa using this
  have hG0 : Gon w W b g B p := by rw [hW]; exact ⟨HR.out.kept (((Keeps.refl (fun _ => False) w).alloc _).alloc _) (fun e => e) (fun e => e), ((Keeps.refl _ w).alloc _).alloc _⟩
  have p0 := hB.cell (i := 0) rfl
  rw [← hW]
  have HB1 : Hid (Blk W.drew c [.pointer (some ⟨b, 0, none⟩)] 126) := hB.drew
  have HD1 : Hid (Blk W.drew (c + 1) [.int .i64 0, .int .i64 0, .int .i64 0, .int .i64 0] 53) := hD.drew
  have HG1 : Hid (Gon w W.drew b g B p) := hG0.drew
  have HC1 : Hid (rdRgn B p = (rdNum B p).bind _) := rfl
  have HGB : Hid (g < c) := by rw [hc]; exact HR.out.bytes.lt
  clear hW hB hD hG0 HR hc
  refine wp_region_panicTo (fun e w' => ((∃ (x : Rgn) (q : Nat), rdRgn B p = .ok (x, q) ∧ e = .returned x.v ∧ x.Fine ∧ Rd w' b g B q 0) ∨ (∃ q, rdRgn B p = .error q ∧ e = gone q 110)) ∧ Keeps (· = b) w w') (fun c a w h1 h2 => ⟨h1, h2⟩) ?_
  go_region_held2 (fun w' => w'.cell? ⟨c, 0, none⟩ = some (.pointer (some ⟨b, 0, none⟩))) (first | exact hS | go_keep)
    (first
      | (go_at_call 76; refine (number_step HG4.out).mono ?_; rintro e w5 ⟨⟨n4, q4, hr, rfl, hG⟩ | ⟨q, hr, rfl, hK⟩, hK2⟩; rotate_left; exact ⟨rfl, .inr ⟨q, bind_err HC4.out hr, rfl⟩, hK⟩; have hS : w5.cell? ⟨c, 0, none⟩ = some (.pointer (some ⟨b, 0, none⟩)) := (HB4.out.kept hK2 hb).cell (i := 0) rfl; have HN4 : Hid (0 ≤ n4 ∧ n4 < 4294967296) := rdNum_bd hr; have HC' := bind_ok HC4.out hr; have HC5 : Hid (rdRgn B p = _) := HC'; have HB5 : Hid (Blk w5 c [.pointer (some ⟨b, 0, none⟩)] 126) := HB4.out.kept hK2 hb; have HD' := HD4.out.kept hK2 hb1; have HD5 : Hid (Blk w5 (c + 1) [.int .i64 0, .int .i64 0, .int .i64 0, .int .i64 0] 53) := HD'; have HG5 : Hid (Gon w w5 b g B q4) := hG; have z0 := HD'.cell (i := 0) rfl; have f0 := HD'.frozen 0; have z1 := HD'.cell (i := 1) rfl; have f1 := HD'.frozen 1; have z2 := HD'.cell (i := 2) rfl; have f2 := HD'.frozen 2; have z3 := HD'.cell (i := 3) rfl; have f3 := HD'.frozen 3; clear hr hG hK2 HC' HD' HC4 HB4 HD4 HG4)
      | (go_at_call 76; refine (number_step HG3.out).mono ?_; rintro e w4 ⟨⟨n3, q3, hr, rfl, hG⟩ | ⟨q, hr, rfl, hK⟩, hK2⟩; rotate_left; exact ⟨rfl, .inr ⟨q, bind_err HC3.out hr, rfl⟩, hK⟩; have hS : w4.cell? ⟨c, 0, none⟩ = some (.pointer (some ⟨b, 0, none⟩)) := (HB3.out.kept hK2 hb).cell (i := 0) rfl; have HN3 : Hid (0 ≤ n3 ∧ n3 < 4294967296) := rdNum_bd hr; have HC' := bind_ok HC3.out hr; have HC4 : Hid (rdRgn B p = _) := HC'; have HB4 : Hid (Blk w4 c [.pointer (some ⟨b, 0, none⟩)] 126) := HB3.out.kept hK2 hb; have HD' := HD3.out.kept hK2 hb1; have HD4 : Hid (Blk w4 (c + 1) [.int .i64 0, .int .i64 0, .int .i64 0, .int .i64 0] 53) := HD'; have HG4 : Hid (Gon w w4 b g B q3) := hG; skip; clear hr hG hK2 HC' HD' HC3 HB3 HD3 HG3)
      | (go_at_call 76; refine (number_step HG2.out).mono ?_; rintro e w3 ⟨⟨n2, q2, hr, rfl, hG⟩ | ⟨q, hr, rfl, hK⟩, hK2⟩; rotate_left; exact ⟨rfl, .inr ⟨q, bind_err HC2.out hr, rfl⟩, hK⟩; have hS : w3.cell? ⟨c, 0, none⟩ = some (.pointer (some ⟨b, 0, none⟩)) := (HB2.out.kept hK2 hb).cell (i := 0) rfl; have HN2 : Hid (0 ≤ n2 ∧ n2 < 4294967296) := rdNum_bd hr; have HC' := bind_ok HC2.out hr; have HC3 : Hid (rdRgn B p = _) := HC'; have HB3 : Hid (Blk w3 c [.pointer (some ⟨b, 0, none⟩)] 126) := HB2.out.kept hK2 hb; have HD' := HD2.out.kept hK2 hb1; have HD3 : Hid (Blk w3 (c + 1) [.int .i64 0, .int .i64 0, .int .i64 0, .int .i64 0] 53) := HD'; have HG3 : Hid (Gon w w3 b g B q2) := hG; skip; clear hr hG hK2 HC' HD' HC2 HB2 HD2 HG2)
      | (go_at_call 76; refine (number_step HG1.out).mono ?_; rintro e w2 ⟨⟨n1, q1, hr, rfl, hG⟩ | ⟨q, hr, rfl, hK⟩, hK2⟩; rotate_left; exact ⟨rfl, .inr ⟨q, bind_err HC1.out hr, rfl⟩, hK⟩; have hS : w2.cell? ⟨c, 0, none⟩ = some (.pointer (some ⟨b, 0, none⟩)) := (HB1.out.kept hK2 hb).cell (i := 0) rfl; have HN1 : Hid (0 ≤ n1 ∧ n1 < 4294967296) := rdNum_bd hr; have HC' := bind_ok HC1.out hr; have HC2 : Hid (rdRgn B p = _) := HC'; have HB2 : Hid (Blk w2 c [.pointer (some ⟨b, 0, none⟩)] 126) := HB1.out.kept hK2 hb; have HD' := HD1.out.kept hK2 hb1; have HD2 : Hid (Blk w2 (c + 1) [.int .i64 0, .int .i64 0, .int .i64 0, .int .i64 0] 53) := HD'; have HG2 : Hid (Gon w w2 b g B q1) := hG; skip; clear hr hG hK2 HC' HD' HC1 HB1 HD1 HG1))
  refine PanicTo.normal ?_
  have HE : Hid (Blk ((((w5.setCell ⟨c + 1, 0, none⟩ (.int .i64 n1)).setCell ⟨c + 1, 1, none⟩ (.int .i64 n2)).setCell ⟨c + 1, 2, none⟩ (.int .i64 n3)).setCell ⟨c + 1, 3, none⟩ (.int .i64 n4)) (c + 1) [.int .i64 n1, .int .i64 n2, .int .i64 n3, .int .i64 n4] 53) := ((((HD5.out.setCell 0 (.int .i64 n1)).setCell 1 (.int .i64 n2)).setCell 2 (.int .i64 n3)).setCell 3 (.int .i64 n4))
  have HKF : Hid (Keeps (· = b) w ((((w5.setCell ⟨c + 1, 0, none⟩ (.int .i64 n1)).setCell ⟨c + 1, 1, none⟩ (.int .i64 n2)).setCell ⟨c + 1, 2, none⟩ (.int .i64 n3)).setCell ⟨c + 1, 3, none⟩ (.int .i64 n4))) := ((((HG5.out.kp.setCell ⟨c + 1, 0, none⟩ (.int .i64 n1) (fun h => by have := HW.out; simp at h; omega)).setCell ⟨c + 1, 1, none⟩ (.int .i64 n2) (fun h => by have := HW.out; simp at h; omega)).setCell ⟨c + 1, 2, none⟩ (.int .i64 n3) (fun h => by have := HW.out; simp at h; omega)).setCell ⟨c + 1, 3, none⟩ (.int .i64 n4) (fun h => by have := HW.out; simp at h; omega))
  have HRF : Hid (Rd ((((w5.setCell ⟨c + 1, 0, none⟩ (.int .i64 n1)).setCell ⟨c + 1, 1, none⟩ (.int .i64 n2)).setCell ⟨c + 1, 2, none⟩ (.int .i64 n3)).setCell ⟨c + 1, 3, none⟩ (.int .i64 n4)) b g B q4 0) := HG5.out.rd.kept ((((((((Keeps.refl (· = c + 1) w5).setCell ⟨c + 1, 0, none⟩ (.int .i64 n1) (fun _ => rfl))).setCell ⟨c + 1, 1, none⟩ (.int .i64 n2) (fun _ => rfl))).setCell ⟨c + 1, 2, none⟩ (.int .i64 n3) (fun _ => rfl))).setCell ⟨c + 1, 3, none⟩ (.int .i64 n4) (fun _ => rfl)) (fun e => hb1 e.symm) (fun e => by have := HG5.out.rd.ne; have := HGB.out; omega)
  obtain ⟨F, hF⟩ : ∃ F, F = ((((w5.setCell ⟨c + 1, 0, none⟩ (.int .i64 n1)).setCell ⟨c + 1, 1, none⟩ (.int .i64 n2)).setCell ⟨c + 1, 2, none⟩ (.int .i64 n3)).setCell ⟨c + 1, 3, none⟩ (.int .i64 n4)) := ⟨_, rfl⟩
  rw [← hF] at HE HKF HRF ⊢
  clear z0 f0 z1 f1 z2 f2 z3 f3 hF p0 hS HB5 HD5 HG5
  go_wp2
  refine bodyPost_ret (results_cell_row rfl _ _ (c + 1) 53 _ (0, 0) _ rfl HE.out Tryz.underlying53 rfl (by kernel_rfl)) rfl ?_
  refine ⟨.inl ⟨⟨n1, n2, n3, n4⟩, q4, HC5.out, rfl, ⟨i64_of HN1.out, i64_of HN2.out, i64_of HN3.out, i64_of HN4.out⟩, HRF.out⟩, HKF.out⟩

set_option maxHeartbeats 2000000 in
theorem rport_any (b g p : Nat) (B : List UInt8) (w : World) (h : Rd w b g B p 0) :
    Calls Tryz.prog 99 #[.agg #[.pointer (some ⟨b, 0, none⟩)]] w fun e w' => ((∃ (x : Prt) (q : Nat), rdPrt B p = .ok (x, q) ∧ e = .returned x.v ∧ x.Fine ∧ Rd w' b g B q 0) ∨ (∃ q, rdPrt B p = .error q ∧ e = gone q 110)) ∧ Keeps (· = b) w w' := by
  obtain ⟨c, hc⟩ : ∃ c, c = w.heap.size := ⟨_, rfl⟩
  have HR : Hid (Rd w b g B p 0) := h
  have hb : c ≠ b := by have := h.blk.lt; omega
  have hb1 : c + 1 ≠ b := by have := h.blk.lt; omega
  have HW : Hid (w.heap.size ≤ c) := by rw [hc]; exact Nat.le_refl _
  clear h
  go_enter Tryz.func99, Tryz.ntmps99
  go_wp2
  rw [← hc]
  obtain ⟨W, hW⟩ : ∃ W, W = (w.alloc (.cells #[.pointer (some ⟨b, 0, none⟩)] 126)).alloc (.cells #[.int .i64 0, .bool false] 55) := ⟨_, rfl⟩
  have hB : Blk W c [.pointer (some ⟨b, 0, none⟩)] 126 := by rw [hW, hc]; exact (Blk.new w _ _).alloc _
  have hD : Blk W (c + 1) [.int .i64 0, .bool false] 55 := by rw [hW, hc]; have := Blk.new (w.alloc (.cells #[.pointer (some ⟨b, 0, none⟩)] 126)) #[.int .i64 0, .bool false] 55; simpa using this
  have hG0 : Gon w W b g B p := by rw [hW]; exact ⟨HR.out.kept (((Keeps.refl (fun _ => False) w).alloc _).alloc _) (fun e => e) (fun e => e), ((Keeps.refl _ w).alloc _).alloc _⟩
  have p0 := hB.cell (i := 0) rfl
  rw [← hW]
  have HB1 : Hid (Blk W.drew c [.pointer (some ⟨b, 0, none⟩)] 126) := hB.drew
  have HD1 : Hid (Blk W.drew (c + 1) [.int .i64 0, .bool false] 55) := hD.drew
  have HG1 : Hid (Gon w W.drew b g B p) := hG0.drew
  have HC1 : Hid (rdPrt B p = (rdNum B p).bind _) := rfl
  have HGB : Hid (g < c) := by rw [hc]; exact HR.out.bytes.lt
  clear hW hB hD hG0 HR hc
  refine wp_region_panicTo (fun e w' => ((∃ (x : Prt) (q : Nat), rdPrt B p = .ok (x, q) ∧ e = .returned x.v ∧ x.Fine ∧ Rd w' b g B q 0) ∨ (∃ q, rdPrt B p = .error q ∧ e = gone q 110)) ∧ Keeps (· = b) w w') (fun c a w h1 h2 => ⟨h1, h2⟩) ?_
  go_region_held2 (fun w' => w'.cell? ⟨c, 0, none⟩ = some (.pointer (some ⟨b, 0, none⟩))) (first | exact hS | go_keep)
    (first
      | (go_at_call 104; refine (source_step HG2.out).mono ?_; rintro e w3 ⟨⟨n2, q2, hr, rfl, hG⟩ | ⟨q, hr, rfl, hK⟩, hK2⟩; rotate_left; exact ⟨rfl, .inr ⟨q, bind_err HC2.out hr, rfl⟩, hK⟩; have hS : w3.cell? ⟨c, 0, none⟩ = some (.pointer (some ⟨b, 0, none⟩)) := (HB2.out.kept hK2 hb).cell (i := 0) rfl; have HC' := bind_ok HC2.out hr; have HC3 : Hid (rdPrt B p = _) := HC'; have HB3 : Hid (Blk w3 c [.pointer (some ⟨b, 0, none⟩)] 126) := HB2.out.kept hK2 hb; have HD' := HD2.out.kept hK2 hb1; have HD3 : Hid (Blk w3 (c + 1) [.int .i64 0, .bool false] 55) := HD'; have HG3 : Hid (Gon w w3 b g B q2) := hG; have z0 := HD'.cell (i := 0) rfl; have f0 := HD'.frozen 0; have z1 := HD'.cell (i := 1) rfl; have f1 := HD'.frozen 1; clear hr hG hK2 HC' HD' HC2 HB2 HD2 HG2)
      | (go_at_call 76; refine (number_step HG1.out).mono ?_; rintro e w2 ⟨⟨n1, q1, hr, rfl, hG⟩ | ⟨q, hr, rfl, hK⟩, hK2⟩; rotate_left; exact ⟨rfl, .inr ⟨q, bind_err HC1.out hr, rfl⟩, hK⟩; have hS : w2.cell? ⟨c, 0, none⟩ = some (.pointer (some ⟨b, 0, none⟩)) := (HB1.out.kept hK2 hb).cell (i := 0) rfl; have HN1 : Hid (0 ≤ n1 ∧ n1 < 4294967296) := rdNum_bd hr; have HC' := bind_ok HC1.out hr; have HC2 : Hid (rdPrt B p = _) := HC'; have HB2 : Hid (Blk w2 c [.pointer (some ⟨b, 0, none⟩)] 126) := HB1.out.kept hK2 hb; have HD' := HD1.out.kept hK2 hb1; have HD2 : Hid (Blk w2 (c + 1) [.int .i64 0, .bool false] 55) := HD'; have HG2 : Hid (Gon w w2 b g B q1) := hG; skip; clear hr hG hK2 HC' HD' HC1 HB1 HD1 HG1))
  refine PanicTo.normal ?_
  have HE : Hid (Blk ((w3.setCell ⟨c + 1, 0, none⟩ (.int .i64 n1)).setCell ⟨c + 1, 1, none⟩ (.bool n2)) (c + 1) [.int .i64 n1, .bool n2] 55) := ((HD3.out.setCell 0 (.int .i64 n1)).setCell 1 (.bool n2))
  have HKF : Hid (Keeps (· = b) w ((w3.setCell ⟨c + 1, 0, none⟩ (.int .i64 n1)).setCell ⟨c + 1, 1, none⟩ (.bool n2))) := ((HG3.out.kp.setCell ⟨c + 1, 0, none⟩ (.int .i64 n1) (fun h => by have := HW.out; simp at h; omega)).setCell ⟨c + 1, 1, none⟩ (.bool n2) (fun h => by have := HW.out; simp at h; omega))
  have HRF : Hid (Rd ((w3.setCell ⟨c + 1, 0, none⟩ (.int .i64 n1)).setCell ⟨c + 1, 1, none⟩ (.bool n2)) b g B q2 0) := HG3.out.rd.kept ((((Keeps.refl (· = c + 1) w3).setCell ⟨c + 1, 0, none⟩ (.int .i64 n1) (fun _ => rfl))).setCell ⟨c + 1, 1, none⟩ (.bool n2) (fun _ => rfl)) (fun e => hb1 e.symm) (fun e => by have := HG3.out.rd.ne; have := HGB.out; omega)
  obtain ⟨F, hF⟩ : ∃ F, F = ((w3.setCell ⟨c + 1, 0, none⟩ (.int .i64 n1)).setCell ⟨c + 1, 1, none⟩ (.bool n2)) := ⟨_, rfl⟩
  rw [← hF] at HE HKF HRF ⊢
  clear z0 f0 z1 f1 hF p0 hS HB3 HD3 HG3
  go_wp2
  refine bodyPost_ret (results_cell_row rfl _ _ (c + 1) 55 _ (0, 0) _ rfl HE.out Tryz.underlying55 rfl (by kernel_rfl)) rfl ?_
  refine ⟨.inl ⟨⟨n1, n2⟩, q2, HC3.out, rfl, i64_of HN1.out, HRF.out⟩, HKF.out⟩

end Go.Proofs.YtjadpbkhfclldaaGreat
