import Derived.Test.YtadhldpeklkcmaaRe
namespace Go.Proofs.Ytadhldpeklkcmaa
open Go.RowKit
set_option linter.unusedVariables false

set_option maxRecDepth 20000 in
set_option maxHeartbeats 1000000 in
theorem rback_any (X : Chn) (mb g : Nat) (xs : List UInt32) (w : World) (h : X.Rn w) (hm : Rm w mb g xs) (hg : ¬ X.F g) (hmb : ¬ X.F mb) :
    Calls Try.prog 49 #[.pointer (some ⟨X.b, 0, none⟩), .pointer (some ⟨mb, 0, none⟩)] w (RallP X mb g (backP X.lk X.tk X.st xs) w) := by
  obtain ⟨al, cl, hvl, hcl, hcl2⟩ := h.vlS
  obtain ⟨at', ct, hvt, hct, hct2⟩ := h.vtS
  have c0 := h.blk.cell (i := 0) rfl
  have c1 := h.blk.cell (i := 1) rfl
  have c2 := h.blk.cell (i := 2) rfl
  have c3 := h.blk.cell (i := 3) rfl
  rw [hvl] at c0
  rw [hvt] at c3
  by_cases h2 : X.st = 2
  · have e1 : backP X.lk X.tk X.st xs = ⟨X.tk, X.st, xs, false, 170⟩ := by unfold backP; rw [if_pos h2]
    rw [e1]
    have ha : askedB X.st = true := by unfold askedB; exact decide_eq_true h2
    rw [ha] at c2
    have HF : Hid (RallP X mb g ⟨X.tk, X.st, xs, false, 170⟩ w (.returned (.tuple #[.bool false, .int .i64 170])) w) := ⟨rfl, X.vt, h, hm, Keeps.refl _ _, .inl rfl⟩
    clear h hm hg hmb e1 h2 hvl hcl hcl2 hvt hct hct2 c0 c1 c3 ha
    go_enter Try.func49, Try.ntmps49
    go_wp2
    go_ret2
    exact HF.out
  · have ha : askedB X.st = false := by unfold askedB; exact decide_eq_false h2
    have hh : heldN X.tk X.st = X.tk.length := by unfold heldN; rw [if_neg h2]
    rw [ha] at c2
    rw [hh] at c1
    by_cases h0 : X.tk.length = 0
    · have e1 : backP X.lk X.tk X.st xs = ⟨X.tk, X.st, xs, true, 0⟩ := by unfold backP; rw [if_neg h2, if_pos h0]
      rw [e1]
      rw [h0] at c1
      have HF : Hid (RallP X mb g ⟨X.tk, X.st, xs, true, 0⟩ w (.returned (.tuple #[.bool true, .int .i64 0])) w) := ⟨rfl, X.vt, h, hm, Keeps.refl _ _, .inl rfl⟩
      clear h hm hg hmb e1 hvl hcl hcl2 hvt hct hct2 c0 c3 h0 ha hh
      go_enter Try.func49, Try.ntmps49
      go_wp2
      go_ret2
      exact HF.out
    · obtain ⟨n, hn⟩ : ∃ n, X.tk.length = n + 1 := ⟨X.tk.length - 1, by omega⟩
      have hle : X.tk.length ≤ X.lk.length := by rcases h.wf with h | h | h <;> omega
      have hsm := h.small
      obtain ⟨gl, rfl, cl1⟩ := h.lkAt hvl (i := n) (by omega)
      obtain ⟨gt, rfl, ct1⟩ := h.tkAt hvt (i := n) (by omega)
      have HT := fun w1 (hm1 : Rm w1 mb g xs) => rfree_any mb g xs (X.lk.getD n 0) (X.tk.getD n 0) w1 hm1
      have e1 : backP X.lk X.tk X.st xs = if frE xs (X.lk.getD n 0) (X.tk.getD n 0) = 0 then ⟨X.tk.take n, 1, frX xs (X.lk.getD n 0) (X.tk.getD n 0), n == 0, 0⟩ else ⟨X.tk, X.st, xs, false, frE xs (X.lk.getD n 0) (X.tk.getD n 0)⟩ := by
        unfold backP; rw [if_neg h2, if_neg h0, show X.tk.length - 1 = n from by omega]
      rw [e1]
      clear e1
      obtain ⟨p, hpp⟩ : ∃ p, p = X.lk.getD n 0 := ⟨_, rfl⟩
      obtain ⟨t, htt⟩ : ∃ t, t = X.tk.getD n 0 := ⟨_, rfl⟩
      rw [← hpp] at HT cl1 ⊢
      rw [← htt] at HT ct1 ⊢
      have hE := frE_cases xs p t
      obtain ⟨nl, hnl⟩ : ∃ nl, nl = X.lk.length := ⟨_, rfl⟩
      obtain ⟨tt, ht2⟩ : ∃ tt : Nat, tt = t.toNat := ⟨_, rfl⟩
      rw [← ht2] at HT ct1
      obtain ⟨nt, hnt⟩ : ∃ nt, nt = X.tk.length := ⟨_, rfl⟩
      have HL : Hid (X.Rn w ∧ Rm w mb g xs ∧ ¬ X.F g ∧ ¬ X.F mb ∧ X.tk.length = n + 1 ∧ X.tk.length ≤ X.lk.length ∧ nt = X.tk.length ∧ X.vt = .slice (some ⟨gt, 0, none⟩) (n + 1) ct ∧ X.vl = .slice (some ⟨gl, 0, none⟩) nl cl) := ⟨h, hm, hg, hmb, hn, hle, hnt, by rw [hvt, hn], by rw [hvl, hnl]⟩
      rw [← hnl] at c0
      rw [← hnt] at c1 c3
      have h1 : (n : Int) < nl := by omega
      have h4 : (n : Int) < nt := by omega
      have h3 : IntKind.i64.wrap ((nt : Int) - 1) = n := by rw [IntKind.wrap_i64]; omega
      have h5 : ¬ ((nt : Int) = 0) := by omega
      have h6 : ¬ (nt = 0) := by omega
      have h7 : (n : Int) ≤ ct := by omega
      have h8 : (ct : Int) ≤ 9223372036854775807 := by unfold maxLen at hct2; omega
      have hS0 : w.cell? ⟨X.b, 0, none⟩ = some (.slice (some ⟨gl, 0, none⟩) nl cl) ∧ w.cell? ⟨X.b, 3, none⟩ = some (.slice (some ⟨gt, 0, none⟩) nt ct) ∧ w.cell? ⟨gl, n, none⟩ = some (.int .i64 p) ∧ w.cell? ⟨gt, n, none⟩ = some (.int .u32 (tt : Int)) ∧ w.cell? ⟨X.b, 1, none⟩ = some (.int .i64 (nt : Int)) := ⟨c0, c3, cl1, ct1, c1⟩
      have hgl : ¬ (gl = g) := fun e => hg (.inr (.inl (by rw [hvl]; simp [Value.ownBlock, e])))
      have hgt : ¬ (gt = g) := fun e => hg (.inr (.inr (by rw [hvt]; simp [Value.ownBlock, e])))
      have hbg : ¬ (X.b = g) := fun e => hg (.inl e.symm)
      clear h hm hg hmb hvl hcl hcl2 hvt hct hct2 hn hle hnt hnl hsm hpp htt ht2 h0 ha hh
      rcases hE with hE | ⟨hE, hX⟩
      · rw [if_pos hE]
        rw [hE] at HT
        have HT : Hid (∀ w1, Rm w1 mb g xs → Calls _ _ _ _ _) := HT
        obtain ⟨Y, hY⟩ : ∃ Y, Y = frX xs p t := ⟨_, rfl⟩
        rw [← hY] at HT ⊢
        clear hY hE
        go_enter Try.func49, Try.ntmps49
        go_wp2_with fail
        go_region_held3 (fun w' => w'.cell? ⟨X.b, 0, none⟩ = some (.slice (some ⟨gl, 0, none⟩) nl cl) ∧ w'.cell? ⟨X.b, 3, none⟩ = some (.slice (some ⟨gt, 0, none⟩) nt ct) ∧ w'.cell? ⟨gl, n, none⟩ = some (.int .i64 p) ∧ w'.cell? ⟨gt, n, none⟩ = some (.int .u32 (tt : Int)) ∧ w'.cell? ⟨X.b, 1, none⟩ = some (.int .i64 (nt : Int))) (first | exact hS | exact hS0 | go_keep)
          (first | (go_at_call 35; refine (HT.out _ (HL.out.2.1.grown (Keeps.refl _ _).drew)).mono ?_; rintro e w3 ⟨rfl, hm, hk3⟩; have hS : w3.cell? ⟨X.b, 0, none⟩ = some (.slice (some ⟨gl, 0, none⟩) nl cl) ∧ w3.cell? ⟨X.b, 3, none⟩ = some (.slice (some ⟨gt, 0, none⟩) nt ct) ∧ w3.cell? ⟨gl, n, none⟩ = some (.int .i64 p) ∧ w3.cell? ⟨gt, n, none⟩ = some (.int .u32 (tt : Int)) ∧ w3.cell? ⟨X.b, 1, none⟩ = some (.int .i64 (nt : Int)) := ⟨cell_kept (w := w.drew) hS0.1 hk3 hbg, cell_kept (w := w.drew) hS0.2.1 hk3 hbg, cell_kept (w := w.drew) hS0.2.2.1 hk3 hgl, cell_kept (w := w.drew) hS0.2.2.2.1 hk3 hgt, cell_kept (w := w.drew) hS0.2.2.2.2 hk3 hbg⟩))
        have hK3 : Keeps (· = g) w w3 := (((Keeps.refl (fun _ => False) w).drew).none (S := (· = g))).trans hk3 fun _ _ e => e
        have hX3 : X.Rn w3 := HL.out.1.kept hK3 (fun x hx e => HL.out.2.2.1 (e ▸ hx))
        have d1 := hS.2.2.2.2
        have d3 := hS.2.1
        have z1 := hX3.blk.frozen 1
        have z3 := hX3.blk.frozen 3
        have HF : Hid (RallP X mb g { tk := X.tk.take n, st := 1, xs := Y, did := n == 0, e := 0 } w (.returned (.tuple #[.bool ((n : Int) == 0), .int .i64 0])) (((w3.setCell ⟨X.b, 1, none⟩ (.int .i64 (n : Int))).drewN 1).setCell ⟨X.b, 3, none⟩ (.slice (some ⟨gt, 0, none⟩) n ct))) := by
          have htr := hX3.trow
          rw [HL.out.2.2.2.2.2.2.2.1, HL.out.2.2.2.2.1] at htr
          have hcut := owns_cut htr
          have hKB : Keeps (· = X.b) w3 (((w3.setCell ⟨X.b, 1, none⟩ (.int .i64 (n : Int))).drewN 1).setCell ⟨X.b, 3, none⟩ (.slice (some ⟨gt, 0, none⟩) n ct)) := (((Keeps.refl (· = X.b) w3).setCell _ _ fun _ => rfl).drewN 1).setCell _ _ fun _ => rfl
          have hob : (Value.slice (some ⟨gt, 0, none⟩) n ct).ownBlock = X.vt.ownBlock := by rw [HL.out.2.2.2.2.2.2.2.1]; rfl
          have hl : (X.tk.take n).length = n := by rw [List.length_take, HL.out.2.2.2.2.1]; omega
          have hbn : ((n : Int) == 0) = (n == 0) := by
            by_cases h : n = 0
            · subst h; rfl
            · have e1 : (n == 0) = false := beq_eq_false_iff_ne.2 h
              have e2 : ((n : Int) == 0) = false := beq_eq_false_iff_ne.2 (by omega)
              rw [e1, e2]
          have hhd : heldN (X.tk.take n) 1 = n := by unfold heldN; rw [if_neg (by omega), hl]
          have hask : askedB X.st = askedB 1 := by unfold askedB; rw [decide_eq_false h2]; rfl
          refine ⟨by rw [hbn]; rfl, .slice (some ⟨gt, 0, none⟩) n ct, ⟨?_, owns_kept hX3.lrow hKB ?_, ?_, hX3.nl, by rw [hob]; exact hX3.nt, fun k hk => by rw [hob]; exact hX3.ne k hk, hX3.small, ?_⟩, hm.kept hKB (fun e => HL.out.2.2.2.1 (.inl e)) (fun e => HL.out.2.2.1 (.inl e)), ?_, .inl hob⟩
          · show Blk _ X.b [X.vl, .int .i64 (heldN (X.tk.take n) 1 : Nat), .bool (askedB 1), .slice (some ⟨gt, 0, none⟩) n ct] 93
            rw [hhd, ← hask]
            exact ((hX3.blk.setCell 1 _).drewN 1).setCell 3 _
          · intro k hk e; rw [e] at hk; exact hX3.nl hk
          · have h9 := owns_kept hcut hKB (fun k hk e => by rw [e, hob] at hk; exact hX3.nt hk)
            show World.ownsRow _ 0 26 1 _ (X.tk.take n).length (wvs (X.tk.take n))
            rw [hl, wvs_take]; exact h9
          · show StOk X.lk.length (X.tk.take n).length 1
            rw [hl]
            have := HL.out.2.2.2.2.1
            have := HL.out.2.2.2.2.2.1
            exact .inr (.inl ⟨rfl, by omega⟩)
          · exact (hK3.mono (T := fun k => X.F k ∨ k = g) fun _ _ e => .inr e).trans hKB fun _ _ e => .inl (.inl e)
        clear hX3 hK3 hk3 hm hS HT hS0 c0 c1 c2 c3 cl1 ct1
        go_wp2_with fail
        refine region_tailR 10 (by kernel_rfl) ?_
        simp only [List.take_succ_cons, List.take_zero, List.drop_succ_cons, List.drop_zero]
        repeat still_step
        refine wpStill_nil ?_
        go_wp2
        go_ret2
        exact HF.out
      · rw [if_neg hE]
        rw [hX] at HT
        obtain ⟨E, hE2⟩ : ∃ E, E = frE xs p t := ⟨_, rfl⟩
        rw [← hE2] at HT hE ⊢
        have hE3 : ¬ ((E : Int) = 0) := by omega
        have HT : Hid (∀ w1, Rm w1 mb g xs → Calls _ _ _ _ _) := HT
        clear hE2 hX
        go_enter Try.func49, Try.ntmps49
        go_wp2_with fail
        go_region_held3 (fun w' => w'.cell? ⟨X.b, 0, none⟩ = some (.slice (some ⟨gl, 0, none⟩) nl cl) ∧ w'.cell? ⟨X.b, 3, none⟩ = some (.slice (some ⟨gt, 0, none⟩) nt ct) ∧ w'.cell? ⟨gl, n, none⟩ = some (.int .i64 p) ∧ w'.cell? ⟨gt, n, none⟩ = some (.int .u32 (tt : Int)) ∧ w'.cell? ⟨X.b, 1, none⟩ = some (.int .i64 (nt : Int))) (first | exact hS | exact hS0 | go_keep)
          (first | (go_at_call 35; refine (HT.out _ (HL.out.2.1.grown (Keeps.refl _ _).drew)).mono ?_; rintro e w3 ⟨rfl, hm, hk3⟩; have hS : w3.cell? ⟨X.b, 0, none⟩ = some (.slice (some ⟨gl, 0, none⟩) nl cl) ∧ w3.cell? ⟨X.b, 3, none⟩ = some (.slice (some ⟨gt, 0, none⟩) nt ct) ∧ w3.cell? ⟨gl, n, none⟩ = some (.int .i64 p) ∧ w3.cell? ⟨gt, n, none⟩ = some (.int .u32 (tt : Int)) ∧ w3.cell? ⟨X.b, 1, none⟩ = some (.int .i64 (nt : Int)) := ⟨cell_kept (w := w.drew) hS0.1 hk3 hbg, cell_kept (w := w.drew) hS0.2.1 hk3 hbg, cell_kept (w := w.drew) hS0.2.2.1 hk3 hgl, cell_kept (w := w.drew) hS0.2.2.2.1 hk3 hgt, cell_kept (w := w.drew) hS0.2.2.2.2 hk3 hbg⟩))
        have hK3 : Keeps (· = g) w w3 := (((Keeps.refl (fun _ => False) w).drew).none (S := (· = g))).trans hk3 fun _ _ e => e
        have hX3 : X.Rn w3 := HL.out.1.kept hK3 (fun x hx e => HL.out.2.2.1 (e ▸ hx))
        have HF : Hid (RallP X mb g { tk := X.tk, st := X.st, xs := xs, did := false, e := E } w (.returned (.tuple #[.bool false, .int .i64 (E : Int)])) w3) :=
          ⟨rfl, X.vt, hX3, hm, hK3.mono fun _ _ e => .inr e, .inl rfl⟩
        clear hX3 hK3 hk3 hm hS HT
        go_wp2
        go_ret2
        exact HF.out

end Go.Proofs.Ytadhldpeklkcmaa
