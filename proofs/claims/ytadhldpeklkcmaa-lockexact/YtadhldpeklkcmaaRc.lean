import Derived.Test.YtadhldpeklkcmaaRb
import Derived.Test.YtadhldpeklkcmaaL
namespace Go.Proofs.Ytadhldpeklkcmaa
open Go.RowKit
set_option linter.unusedVariables false

/-- The document's chain, with the same words for how it stands. -/
structure Chn.Rn (X : Chn) (w : World) : Prop where
  blk : Blk w X.b [X.vl, .int .i64 (heldN X.tk X.st : Nat), .bool (askedB X.st), X.vt] 93
  lrow : w.ownsRow 0 3 1 X.vl X.lk.length (ivs X.lk)
  trow : w.ownsRow 0 26 1 X.vt X.tk.length (wvs X.tk)
  nl : X.vl.ownBlock ≠ some X.b
  nt : X.vt.ownBlock ≠ some X.b
  ne : ∀ k, X.vl.ownBlock = some k → X.vt.ownBlock ≠ some k
  small : X.lk.length ≤ 4294967296
  wf : StOk X.lk.length X.tk.length X.st

theorem Chn.Rn.lt {X : Chn} {w : World} (h : X.Rn w) {k : Nat} (hk : X.F k) : k < w.heap.size := by
  rcases hk with rfl | hk | hk
  · exact h.blk.lt
  · exact owns_lt h.lrow hk
  · exact owns_lt h.trow hk
theorem Chn.Rn.kept {X : Chn} {S : Nat → Prop} {w w' : World} (h : X.Rn w) (k : Keeps S w w') (hn : ∀ x, X.F x → ¬ S x) : X.Rn w' :=
  ⟨h.blk.kept k (hn _ (.inl rfl)), owns_kept h.lrow k fun x hx => hn x (.inr (.inl hx)), owns_kept h.trow k fun x hx => hn x (.inr (.inr hx)), h.nl, h.nt, h.ne, h.small, h.wf⟩
theorem Chn.Rn.grown {X : Chn} {w w' : World} (h : X.Rn w) (k : Keeps (fun _ => False) w w') : X.Rn w' := h.kept k fun _ _ e => e
theorem Chn.Rn.vlS {X : Chn} {w : World} (h : X.Rn w) : ∃ a c, X.vl = .slice a X.lk.length c ∧ X.lk.length ≤ c ∧ c ≤ maxLen := owns_slice h.lrow
theorem Chn.Rn.vtS {X : Chn} {w : World} (h : X.Rn w) : ∃ a c, X.vt = .slice a X.tk.length c ∧ X.tk.length ≤ c ∧ c ≤ maxLen := owns_slice h.trow
theorem Chn.Rn.lkAt {X : Chn} {w : World} (h : X.Rn w) {a : Option Addr} {c : Nat} (hv : X.vl = .slice a X.lk.length c) {i : Nat} (hi : i < X.lk.length) : ∃ g, a = some ⟨g, 0, none⟩ ∧ w.cell? ⟨g, i, none⟩ = some (.int .i64 (X.lk.getD i 0)) := by
  have hl := h.lrow
  rw [hv] at hl
  obtain ⟨g, h1, h2⟩ := owns_cell hl (ivs_get X.lk i hi)
  refine ⟨g, h1, ?_⟩
  rw [h2]; simp [List.getD, List.getElem?_eq_getElem hi]
theorem Chn.Rn.tkAt {X : Chn} {w : World} (h : X.Rn w) {a : Option Addr} {c : Nat} (hv : X.vt = .slice a X.tk.length c) {i : Nat} (hi : i < X.tk.length) : ∃ g, a = some ⟨g, 0, none⟩ ∧ w.cell? ⟨g, i, none⟩ = some (.int .u32 ((X.tk.getD i 0).toNat : Int)) := by
  have hl := h.trow
  rw [hv] at hl
  obtain ⟨g, h1, h2⟩ := owns_cell hl (wvs_get X.tk i hi)
  refine ⟨g, h1, ?_⟩
  rw [h2]; simp [List.getD, List.getElem?_eq_getElem hi]

/-- Behind a call of the document's chain over its memory. -/
def RallP (X : Chn) (mb g : Nat) (r : StepR) (w : World) (e : Ending) (w' : World) : Prop :=
  e = .returned (.tuple #[.bool r.did, .int .i64 (r.e : Int)]) ∧ ∃ vt, Chn.Rn ⟨X.b, X.vl, vt, X.lk, r.tk, r.st⟩ w' ∧ Rm w' mb g r.xs ∧ Keeps (fun k => X.F k ∨ k = g) w w' ∧ (vt.ownBlock = X.vt.ownBlock ∨ ∃ k, vt.ownBlock = some k ∧ w.heap.size ≤ k)

theorem held0 {n m st : Nat} {tk : List UInt32} (h : StOk n tk.length st) (hs : st = 0) : heldN tk st = n := by
  unfold heldN; rw [if_neg (by omega)]; rcases h with h | h | h <;> omega

set_option maxHeartbeats 1000000 in
theorem rstep_any (X : Chn) (mb g : Nat) (xs : List UInt32) (w : World) (h : X.Rn w) (hm : Rm w mb g xs) (hg : ¬ X.F g) (hmb : ¬ X.F mb) :
    Calls Try.prog 47 #[.pointer (some ⟨X.b, 0, none⟩), .pointer (some ⟨mb, 0, none⟩)] w (RallP X mb g (stepP X.lk X.tk X.st xs) w) := by
  obtain ⟨al, cl, hvl, hcl, hcl2⟩ := h.vlS
  obtain ⟨at', ct, hvt, hct, hct2⟩ := h.vtS
  have c0 := h.blk.cell (i := 0) rfl
  have c1 := h.blk.cell (i := 1) rfl
  have c2 := h.blk.cell (i := 2) rfl
  have c3 := h.blk.cell (i := 3) rfl
  rw [hvl] at c0
  rw [hvt] at c3
  have hsm := h.small
  rcases h.wf with h1 | h1 | h1
  · have e1 : stepP X.lk X.tk X.st xs = ⟨X.tk, X.st, xs, false, 0⟩ := by unfold stepP; rw [if_neg (by omega), if_neg (by omega)]
    rw [e1]
    have hh : heldN X.tk X.st = X.lk.length := by unfold heldN; rw [if_neg (by omega)]; omega
    rw [hh] at c1
    have HF : Hid (∀ n, RallP X mb g ⟨X.tk, X.st, xs, false, 0⟩ w (.returned (.tuple #[.bool false, .int .i64 0])) (w.drewN n)) := fun n => ⟨rfl, X.vt, h.grown ((Keeps.refl _ _).drewN _), hm.grown ((Keeps.refl _ _).drewN _), (Keeps.refl _ _).drewN _, .inl rfl⟩
    obtain ⟨nl, hnl⟩ : ∃ nl, nl = X.lk.length := ⟨_, rfl⟩
    rw [← hnl] at c0 c1
    clear h hm hg hmb e1 h1 hvl hcl hcl2 hvt hct hct2 hh hsm hnl c2 c3
    go_enter Try.func47, Try.ntmps47
    go_wp2_with fail
    go_quiet (fail)
    go_wp2
    go_ret2
    exact HF.out _
  · have e1 : stepP X.lk X.tk X.st xs = askP X.lk X.tk X.st xs := by unfold stepP; rw [if_pos h1.1]
    rw [e1]
    unfold askP
    have hh : heldN X.tk X.st = X.tk.length := by unfold heldN; rw [if_neg (by omega)]
    have ha : askedB X.st = false := by unfold askedB; exact decide_eq_false (by omega)
    rw [hh] at c1
    rw [ha] at c2
    obtain ⟨gl, rfl, cl1⟩ := h.lkAt hvl (i := X.tk.length) h1.2
    have HT := fun w1 (h1 : Rm w1 mb g xs) => rtake_any mb g xs (X.lk.getD X.tk.length 0) w1 h1
    obtain ⟨p, hpp⟩ : ∃ p, p = X.lk.getD X.tk.length 0 := ⟨_, rfl⟩
    rw [← hpp] at HT cl1 ⊢
    obtain ⟨nt, hnt⟩ : ∃ nt, nt = X.tk.length := ⟨_, rfl⟩
    obtain ⟨nl, hnl⟩ : ∃ nl, nl = X.lk.length := ⟨_, rfl⟩
    have HL : Hid (X.Rn w ∧ Rm w mb g xs ∧ X.st = 1 ∧ nt = X.tk.length ∧ nl = X.lk.length ∧ nt < nl ∧ nl ≤ 4294967296 ∧ X.vt = .slice at' nt ct ∧ ¬ X.F g ∧ ¬ X.F mb ∧ X.vl = .slice (some ⟨gl, 0, none⟩) nl cl) := ⟨h, hm, h1.1, hnt, hnl, by omega, by omega, by rw [hvt, hnt], hg, hmb, by rw [hvl, hnl]⟩
    rw [← hnt] at c1 c3 cl1
    rw [← hnl] at c0
    have hlt2 : (nt : Int) < nl := by omega
    have hlt3 : ¬ nt = nl := by omega
    have hlt4 : ¬ (nt : Int) = nl := by omega
    have hlt5 : ((nt : Int) == (nl : Int)) = false := beq_eq_false_iff_ne.2 hlt4
    have hE := tkE_cases xs p
    clear hvl hcl hcl2 hvt hct hct2 hpp hnt hnl h h1 hm hg hmb hh ha hsm e1
    rcases hE with hE | ⟨hE, hX, -⟩
    · rw [hE] at HT
      rw [if_pos hE]
      have HT : Hid (∀ w1, Rm w1 mb g xs → Calls _ _ _ _ _) := HT
      obtain ⟨T, hT⟩ : ∃ T, T = tkT xs p := ⟨_, rfl⟩
      obtain ⟨Y, hY⟩ : ∃ Y, Y = tkX xs p := ⟨_, rfl⟩
      rw [← hT, ← hY] at HT ⊢
      clear hT hY hE
      go_enter Try.func47, Try.ntmps47
      go_wp2_with fail
      go_quiet (fail)
      obtain ⟨wa, hwa⟩ : ∃ wa, wa = w.drewN nq := ⟨_, rfl⟩
      have hka : Keeps (fun _ => False) w wa := by rw [hwa]; exact (Keeps.refl _ _).drewN _
      rw [← hwa]
      clear hwa nq
      replace c0 := cell_kept c0 hka (fun e => e)
      replace c1 := cell_kept c1 hka (fun e => e)
      replace c2 := cell_kept c2 hka (fun e => e)
      replace c3 := cell_kept c3 hka (fun e => e)
      replace cl1 := cell_kept cl1 hka (fun e => e)
      have HKa : Hid (Keeps (fun _ => False) w wa) := hka
      clear hka
      go_wp2_with fail
      go_quiet (fail)
      obtain ⟨wb, hwb⟩ : ∃ wb, wb = wa.drewN nq := ⟨_, rfl⟩
      have hkb : Keeps (fun _ => False) wa wb := by rw [hwb]; exact (Keeps.refl _ _).drewN _
      rw [← hwb]
      clear hwb nq
      replace c0 := cell_kept c0 hkb (fun e => e)
      replace c1 := cell_kept c1 hkb (fun e => e)
      replace c2 := cell_kept c2 hkb (fun e => e)
      replace c3 := cell_kept c3 hkb (fun e => e)
      have hkab := HKa.out.trans hkb fun _ _ e => e
      have HKb : Hid (Keeps (fun _ => False) w wb ∧ X.Rn wb ∧ Rm wb mb g xs) := ⟨hkab, HL.out.1.grown hkab, HL.out.2.1.grown hkab⟩
      clear hkb hkab HKa cl1
      go_wp2_with fail
      refine (HT.out wb HKb.out.2.2).mono ?_
      rintro e w3 ⟨rfl, hm, hk3⟩
      have hX3 : X.Rn w3 := HKb.out.2.1.kept hk3 (fun x hx e => HL.out.2.2.2.2.2.2.2.2.1 (e ▸ hx))
      have hK3 : Keeps (fun k => X.F k ∨ k = g) w w3 := HKb.out.1.none.trans hk3 fun _ _ e => .inr e
      have d2 := hX3.blk.cell (i := 2) rfl
      have z2 := hX3.blk.frozen 2
      obtain ⟨w4, hw4⟩ : ∃ w4, w4 = w3.setCell ⟨X.b, 2, none⟩ (.bool true) := ⟨_, rfl⟩
      have hB4 : Blk w4 X.b [X.vl, .int .i64 (heldN X.tk X.st : Nat), .bool true, X.vt] 93 := by rw [hw4]; exact hX3.blk.setCell 2 _
      have hK34 : Keeps (· = X.b) w3 w4 := by rw [hw4]; exact (Keeps.refl _ _).setCell _ _ fun _ => rfl
      have htr := hX3.trow
      rw [HL.out.2.2.2.2.2.2.2.1, ← HL.out.2.2.2.1] at htr
      have hntb : ∀ k, (Value.slice at' nt ct).ownBlock = some k → ¬ k = X.b := by
        intro k hk e
        rw [e, ← HL.out.2.2.2.2.2.2.2.1] at hk
        exact hX3.nt hk
      have htr4 := owns_kept htr hK34 hntb
      obtain ⟨v', W', hap, how, hgr⟩ := append_word T _ nt _ htr4 (by have := HL.out.2.2.2.2.2.2.1; omega)
      obtain ⟨a', c', rfl, hc', hc2'⟩ := owns_slice how
      have d3 := hX3.blk.cell (i := 3) rfl
      rw [HL.out.2.2.2.2.2.2.2.1] at d3
      have hsz : w4.heap.size = w3.heap.size := by rw [hw4]; simp
      rw [hsz, hw4] at hap
      have hbW : Blk W' X.b [X.vl, .int .i64 (heldN X.tk X.st : Nat), .bool true, X.vt] 93 := hB4.kept hgr.keeps (by rw [← HL.out.2.2.2.2.2.2.2.1]; exact fun e => hX3.nt e.symm)
      have f3 := hbW.cell (i := 3) rfl
      have zf3 := hbW.frozen 3
      have HAP : Hid (∀ ty, _) := hap
      have HF : Hid (RallP X mb g { tk := X.tk ++ [T], st := 2, xs := Y, did := true, e := 0 } w (.returned (.tuple #[.bool true, .int .i64 0])) (W'.setCell ⟨X.b, 3, none⟩ (.slice a' (nt + 1) c'))) := by
        have hK4 : Keeps (fun k => X.F k ∨ k = g) w w4 := hK3.trans hK34 fun _ _ e => .inl (.inl e)
        have hKW : Keeps (fun k => X.F k ∨ k = g) w W' := hK4.trans hgr.keeps fun k _ e => .inl (.inr (.inr (by rw [HL.out.2.2.2.2.2.2.2.1]; exact e.symm)))
        have hKB : Keeps (· = X.b) W' (W'.setCell ⟨X.b, 3, none⟩ (.slice a' (nt + 1) c')) := (Keeps.refl _ _).setCell _ _ fun _ => rfl
        have hfr : (Value.slice a' (nt + 1) c').ownBlock = X.vt.ownBlock ∨ ∃ k, (Value.slice a' (nt + 1) c').ownBlock = some k ∧ w.heap.size ≤ k := by
          rw [HL.out.2.2.2.2.2.2.2.1]
          rcases hgr.fresh with e | ⟨k, e, hk⟩
          · exact .inl e
          · exact .inr ⟨k, e, Nat.le_trans hK4.size hk⟩
        have hnb : (Value.slice a' (nt + 1) c').ownBlock ≠ some X.b := by
          rcases hfr with e | ⟨k, e, hk⟩
          · rw [e]; exact hX3.nt
          · rw [e]; intro e2; cases e2; have := HL.out.1.blk.lt; omega
        have hnl : ∀ k, X.vl.ownBlock = some k → (Value.slice a' (nt + 1) c').ownBlock ≠ some k := by
          intro k hk
          rcases hfr with e | ⟨k', e, hk'⟩
          · rw [e]; exact hX3.ne k hk
          · rw [e]; intro e2; cases e2; have := owns_lt HL.out.1.lrow hk; omega
        have hl : (X.tk ++ [T]).length = nt + 1 := by rw [HL.out.2.2.2.1]; simp
        have how2 : W'.ownsRow 0 26 1 (.slice a' (nt + 1) c') (X.tk ++ [T]).length (wvs (X.tk ++ [T])) := by
          rw [hl, wvs_append]; exact how
        have hheld : heldN (X.tk ++ [T]) 2 = heldN X.tk X.st := by
          unfold heldN
          rw [if_pos rfl, if_neg (by have := HL.out.2.2.1; omega)]
          simp
        refine ⟨rfl, _, ⟨?_, ?_, ?_, hX3.nl, hnb, hnl, hX3.small, ?_⟩, ?_, hKW.setCell _ _ fun _ => .inl (.inl rfl), hfr⟩
        · show Blk _ X.b [X.vl, .int .i64 (heldN (X.tk ++ [T]) 2 : Nat), .bool (askedB 2), .slice a' (nt + 1) c'] 93
          rw [hheld]
          exact hbW.setCell 3 _
        · refine owns_kept (owns_kept (owns_kept hX3.lrow hK34 ?_) hgr.keeps ?_) hKB ?_
          · intro k hk e; rw [e] at hk; exact hX3.nl hk
          · intro k hk e
            rw [← HL.out.2.2.2.2.2.2.2.1] at e
            exact hX3.ne k hk e.symm
          · intro k hk e; rw [e] at hk; exact hX3.nl hk
        · refine owns_kept how2 hKB ?_
          intro k hk e; rw [e] at hk; exact hnb hk
        · show StOk X.lk.length (X.tk ++ [T]).length 2
          rw [hl]
          have := HL.out.2.2.2.2.2.1
          have := HL.out.2.2.2.2.1
          exact .inr (.inr ⟨rfl, by omega, by omega⟩)
        · have hm4 := hm.kept hK34 (fun e => HL.out.2.2.2.2.2.2.2.2.2.1 (.inl e)) (fun e => HL.out.2.2.2.2.2.2.2.2.1 (.inl e))
          have hm5 : Rm W' mb g Y := hm4.kept hgr.keeps (fun e => HL.out.2.2.2.2.2.2.2.2.2.1 (.inr (.inr (by rw [HL.out.2.2.2.2.2.2.2.1]; exact e.symm)))) (fun e => HL.out.2.2.2.2.2.2.2.2.1 (.inr (.inr (by rw [HL.out.2.2.2.2.2.2.2.1]; exact e.symm))))
          exact hm5.kept hKB (fun e => HL.out.2.2.2.2.2.2.2.2.2.1 (.inl e)) (fun e => HL.out.2.2.2.2.2.2.2.2.1 (.inl e))
      clear hX3 hK3 hB4 hK34 htr hntb htr4 hap how hgr hbW hm hk3 hw4 hc' hc2' HT c0 c1 c2 c3 hsz
      go_wp2_with (at_builtin; go_must (refine wpList_append_run rfl (.tmp 58) (.tmp 60) 28 28 rfl (.slice at' nt ct) (.slice (some ⟨w3.heap.size, 0, none⟩) 1 1) (.slice a' (nt + 1) c') W' rfl rfl HAP.out ?_; refine Hid.out ?_))
      unfold Hid
      clear HAP
      go_wp2
      go_ret2
      exact HF.out
    · rw [hX] at HT
      rw [if_neg hE]
      have HT : Hid (∀ w1, Rm w1 mb g xs → Calls _ _ _ _ _) := HT
      obtain ⟨T, hT⟩ : ∃ T : Nat, T = (tkT xs p).toNat := ⟨_, rfl⟩
      obtain ⟨E, hE2⟩ : ∃ Y, Y = tkE xs p := ⟨_, rfl⟩
      rw [← hE2] at HT hE ⊢
      rw [← hT] at HT
      have hE3 : ¬ ((E : Int) = 0) := by omega
      clear hT hX hE2
      go_enter Try.func47, Try.ntmps47
      go_wp2_with fail
      go_quiet (fail)
      obtain ⟨wa, hwa⟩ : ∃ wa, wa = w.drewN nq := ⟨_, rfl⟩
      have hka : Keeps (fun _ => False) w wa := by rw [hwa]; exact (Keeps.refl _ _).drewN _
      rw [← hwa]
      clear hwa nq
      replace c0 := cell_kept c0 hka (fun e => e)
      replace c1 := cell_kept c1 hka (fun e => e)
      replace c2 := cell_kept c2 hka (fun e => e)
      replace c3 := cell_kept c3 hka (fun e => e)
      replace cl1 := cell_kept cl1 hka (fun e => e)
      have HKa : Hid (Keeps (fun _ => False) w wa) := hka
      clear hka
      go_wp2_with fail
      go_quiet (fail)
      obtain ⟨wb, hwb⟩ : ∃ wb, wb = wa.drewN nq := ⟨_, rfl⟩
      have hkb : Keeps (fun _ => False) wa wb := by rw [hwb]; exact (Keeps.refl _ _).drewN _
      rw [← hwb]
      clear hwb nq
      replace c0 := cell_kept c0 hkb (fun e => e)
      replace c1 := cell_kept c1 hkb (fun e => e)
      replace c2 := cell_kept c2 hkb (fun e => e)
      replace c3 := cell_kept c3 hkb (fun e => e)
      have hkab := HKa.out.trans hkb fun _ _ e => e
      have HKb : Hid (Keeps (fun _ => False) w wb ∧ X.Rn wb ∧ Rm wb mb g xs) := ⟨hkab, HL.out.1.grown hkab, HL.out.2.1.grown hkab⟩
      clear hkb hkab HKa cl1
      go_wp2_with fail
      refine (HT.out wb HKb.out.2.2).mono ?_
      rintro e w3 ⟨rfl, hm, hk3⟩
      have hX3 : X.Rn w3 := HKb.out.2.1.kept hk3 (fun x hx e => HL.out.2.2.2.2.2.2.2.2.1 (e ▸ hx))
      have HF : Hid (RallP X mb g { tk := X.tk, st := X.st, xs := xs, did := false, e := E } w (.returned (.tuple #[.bool false, .int .i64 (E : Int)])) w3) :=
        ⟨rfl, X.vt, hX3, hm, HKb.out.1.none.trans hk3 fun _ _ e => .inr e, .inl rfl⟩
      clear hX3 hm hk3 HT
      go_wp2
      go_ret2
      exact HF.out
  · have e1 : stepP X.lk X.tk X.st xs = lookP X.lk X.tk X.st xs := by unfold stepP; rw [if_neg (by omega), if_pos h1.1]
    rw [e1]
    unfold lookP
    obtain ⟨n, hn⟩ : ∃ n, X.tk.length = n + 1 := ⟨X.tk.length - 1, by omega⟩
    have hh : heldN X.tk X.st = n := by unfold heldN; rw [if_pos h1.1]; omega
    have ha : askedB X.st = true := by unfold askedB; exact decide_eq_true h1.1
    rw [hh] at c1
    rw [ha] at c2
    obtain ⟨gl, rfl, cl1⟩ := h.lkAt hvl (i := n) (by omega)
    obtain ⟨gt, rfl, ct1⟩ := h.tkAt hvt (i := n) (by omega)
    rw [show X.tk.length - 1 = n from by omega]
    have HT := fun w1 (h1 : Rm w1 mb g xs) => rmine_any mb g xs (X.lk.getD n 0) (X.tk.getD n 0) w1 h1
    obtain ⟨p, hpp⟩ : ∃ p, p = X.lk.getD n 0 := ⟨_, rfl⟩
    obtain ⟨t, htt⟩ : ∃ t, t = X.tk.getD n 0 := ⟨_, rfl⟩
    rw [← hpp] at HT cl1 ⊢
    rw [← htt] at HT ct1 ⊢
    obtain ⟨tt, ht2⟩ : ∃ tt : Nat, tt = t.toNat := ⟨_, rfl⟩
    rw [← ht2] at HT ct1
    obtain ⟨nt, hnt⟩ : ∃ nt, nt = X.tk.length := ⟨_, rfl⟩
    obtain ⟨nl, hnl⟩ : ∃ nl, nl = X.lk.length := ⟨_, rfl⟩
    have HL : Hid (X.Rn w ∧ Rm w mb g xs ∧ X.st = 2 ∧ X.tk.length = n + 1 ∧ nl = X.lk.length ∧ n < nl ∧ nl ≤ 4294967296 ∧ nt = X.tk.length ∧ ¬ X.F g ∧ ¬ X.F mb) := ⟨h, hm, h1.1, hn, hnl, by omega, by omega, hnt, hg, hmb⟩
    rw [← hnt] at c3
    rw [← hnl] at c0
    have hlt2 : (n : Int) < nl := by omega
    have hlt6 : (n : Int) < nt := by omega
    have hlt3 : ¬ n = nl := by omega
    have hlt4 : ¬ (n : Int) = nl := by omega
    have hlt5 : ((n : Int) == (nl : Int)) = false := beq_eq_false_iff_ne.2 hlt4
    have hw1 : IntKind.i64.wrap ((n : Int) + 1) = (nt : Int) := by rw [IntKind.wrap_i64]; omega
    have hB := mnB_ok (xs := xs) (p := p) (t := t)
    obtain ⟨B, hBB⟩ : ∃ B, B = mnB xs p t := ⟨_, rfl⟩
    rw [← hBB] at HT hB ⊢
    have hok := okE_cases xs p
    obtain ⟨E, hEE⟩ : ∃ E, E = okE xs p := ⟨_, rfl⟩
    rw [← hEE] at HT hB hok ⊢
    have HT : Hid (∀ w1, Rm w1 mb g xs → Calls _ _ _ _ _) := HT
    clear hvl hcl hcl2 hvt hct hct2 hpp htt ht2 hnt hnl h h1 hm hg hmb hh ha hsm e1 hn hBB hEE
    cases B with
    | true =>
      obtain rfl := hB rfl
      clear hok hB
      rw [if_pos rfl]
      go_enter Try.func47, Try.ntmps47
      go_wp2_with fail
      go_quiet (fail)
      obtain ⟨wa, hwa⟩ : ∃ wa, wa = w.drewN nq := ⟨_, rfl⟩
      have hka : Keeps (fun _ => False) w wa := by rw [hwa]; exact (Keeps.refl _ _).drewN _
      rw [← hwa]
      clear hwa nq
      replace c0 := cell_kept c0 hka (fun e => e)
      replace c1 := cell_kept c1 hka (fun e => e)
      replace c2 := cell_kept c2 hka (fun e => e)
      replace c3 := cell_kept c3 hka (fun e => e)
      replace cl1 := cell_kept cl1 hka (fun e => e)
      replace ct1 := cell_kept ct1 hka (fun e => e)
      have HKa : Hid (Keeps (fun _ => False) w wa) := hka
      clear hka
      go_wp2_with fail
      go_quiet (fail)
      obtain ⟨wb, hwb⟩ : ∃ wb, wb = wa.drewN nq := ⟨_, rfl⟩
      have hkb : Keeps (fun _ => False) wa wb := by rw [hwb]; exact (Keeps.refl _ _).drewN _
      rw [← hwb]
      clear hwb nq
      replace c0 := cell_kept c0 hkb (fun e => e)
      replace c1 := cell_kept c1 hkb (fun e => e)
      replace c2 := cell_kept c2 hkb (fun e => e)
      replace c3 := cell_kept c3 hkb (fun e => e)
      replace ct1 := cell_kept ct1 hkb (fun e => e)
      have hkab := HKa.out.trans hkb fun _ _ e => e
      have HKb : Hid (Keeps (fun _ => False) w wb ∧ X.Rn wb ∧ Rm wb mb g xs) := ⟨hkab, HL.out.1.grown hkab, HL.out.2.1.grown hkab⟩
      clear hkb hkab HKa cl1
      go_wp2_with fail
      have hS0 : wb.cell? ⟨X.b, 3, none⟩ = some (.slice (some ⟨gt, 0, none⟩) nt ct) ∧ wb.cell? ⟨X.b, 1, none⟩ = some (.int .i64 (n : Int)) ∧ wb.cell? ⟨gt, n, none⟩ = some (.int .u32 (tt : Int)) := ⟨c3, c1, ct1⟩
      go_region_held3 (fun w' => w'.cell? ⟨X.b, 3, none⟩ = some (.slice (some ⟨gt, 0, none⟩) nt ct) ∧ w'.cell? ⟨X.b, 1, none⟩ = some (.int .i64 (n : Int)) ∧ w'.cell? ⟨gt, n, none⟩ = some (.int .u32 (tt : Int))) (first | exact hS | exact hS0 | go_keep)
        (first | (go_at_call 33; refine (HT.out _ (HKb.out.2.2.grown (Keeps.refl _ _).drew)).mono ?_; rintro e w3 ⟨rfl, hk3⟩; have hS : w3.cell? ⟨X.b, 3, none⟩ = some (.slice (some ⟨gt, 0, none⟩) nt ct) ∧ w3.cell? ⟨X.b, 1, none⟩ = some (.int .i64 (n : Int)) ∧ w3.cell? ⟨gt, n, none⟩ = some (.int .u32 (tt : Int)) := ⟨cell_kept (w := wb.drew) hS0.1 hk3 (fun e => e), cell_kept (w := wb.drew) hS0.2.1 hk3 (fun e => e), cell_kept (w := wb.drew) hS0.2.2 hk3 (fun e => e)⟩))
      have hK3 : Keeps (fun _ => False) w w3 := (HKb.out.1.drew).trans hk3 fun _ _ e => e
      have hX3 : X.Rn w3 := HL.out.1.grown hK3
      have hM3 : Rm w3 mb g xs := HL.out.2.1.grown hK3
      have d1 := hS.2.1
      have z1 := hX3.blk.frozen 1
      have d2 := hX3.blk.cell (i := 2) rfl
      have z2 := hX3.blk.frozen 2
      have HF : Hid (RallP X mb g { tk := X.tk, st := settledN X.lk X.tk, xs := xs, did := true, e := 0 } w (.returned (.tuple #[.bool true, .int .i64 0])) ((w3.setCell ⟨X.b, 1, none⟩ (.int .i64 (nt : Int))).setCell ⟨X.b, 2, none⟩ (.bool false))) := by
        have hKB : Keeps (· = X.b) w3 ((w3.setCell ⟨X.b, 1, none⟩ (.int .i64 (nt : Int))).setCell ⟨X.b, 2, none⟩ (.bool false)) := ((Keeps.refl (· = X.b) w3).setCell _ _ fun _ => rfl).setCell _ _ fun _ => rfl
        have hsn : settledN X.lk X.tk ≠ 2 := by unfold settledN; split <;> omega
        have hh : heldN X.tk (settledN X.lk X.tk) = nt := by unfold heldN; rw [if_neg hsn, HL.out.2.2.2.2.2.2.2.1]
        have ha : askedB (settledN X.lk X.tk) = false := by unfold askedB; exact decide_eq_false hsn
        refine ⟨rfl, X.vt, ⟨?_, owns_kept hX3.lrow hKB ?_, owns_kept hX3.trow hKB ?_, hX3.nl, hX3.nt, hX3.ne, hX3.small, ?_⟩, hM3.kept hKB (fun e => HL.out.2.2.2.2.2.2.2.2.2 (.inl e)) (fun e => HL.out.2.2.2.2.2.2.2.2.1 (.inl e)), ?_, .inl rfl⟩
        · show Blk _ X.b [X.vl, .int .i64 (heldN X.tk (settledN X.lk X.tk) : Nat), .bool (askedB (settledN X.lk X.tk)), X.vt] 93
          rw [hh, ha]
          exact (hX3.blk.setCell 1 _).setCell 2 _
        · intro k hk e; rw [e] at hk; exact hX3.nl hk
        · intro k hk e; rw [e] at hk; exact hX3.nt hk
        · show StOk X.lk.length X.tk.length (settledN X.lk X.tk)
          unfold settledN
          have := HL.out.2.2.2.1
          have := HL.out.2.2.2.2.1
          have := HL.out.2.2.2.2.2.1
          split
          · exact .inl ⟨rfl, by assumption⟩
          · exact .inr (.inl ⟨rfl, by omega⟩)
        · exact (hK3.none (S := fun k => X.F k ∨ k = g)).trans hKB fun _ _ e => .inl (.inl e)
      clear hX3 hM3 hK3 hk3 hS hS0 HT c0 c1 c2 c3 ct1
      go_wp2
      go_ret2
      exact HF.out
    | false =>
      rw [if_neg (by simp)]
      go_enter Try.func47, Try.ntmps47
      go_wp2_with fail
      go_quiet (fail)
      obtain ⟨wa, hwa⟩ : ∃ wa, wa = w.drewN nq := ⟨_, rfl⟩
      have hka : Keeps (fun _ => False) w wa := by rw [hwa]; exact (Keeps.refl _ _).drewN _
      rw [← hwa]
      clear hwa nq
      replace c0 := cell_kept c0 hka (fun e => e)
      replace c1 := cell_kept c1 hka (fun e => e)
      replace c2 := cell_kept c2 hka (fun e => e)
      replace c3 := cell_kept c3 hka (fun e => e)
      replace cl1 := cell_kept cl1 hka (fun e => e)
      replace ct1 := cell_kept ct1 hka (fun e => e)
      have HKa : Hid (Keeps (fun _ => False) w wa) := hka
      clear hka
      go_wp2_with fail
      go_quiet (fail)
      obtain ⟨wb, hwb⟩ : ∃ wb, wb = wa.drewN nq := ⟨_, rfl⟩
      have hkb : Keeps (fun _ => False) wa wb := by rw [hwb]; exact (Keeps.refl _ _).drewN _
      rw [← hwb]
      clear hwb nq
      replace c0 := cell_kept c0 hkb (fun e => e)
      replace c1 := cell_kept c1 hkb (fun e => e)
      replace c2 := cell_kept c2 hkb (fun e => e)
      replace c3 := cell_kept c3 hkb (fun e => e)
      replace ct1 := cell_kept ct1 hkb (fun e => e)
      have hkab := HKa.out.trans hkb fun _ _ e => e
      have HKb : Hid (Keeps (fun _ => False) w wb ∧ X.Rn wb ∧ Rm wb mb g xs) := ⟨hkab, HL.out.1.grown hkab, HL.out.2.1.grown hkab⟩
      clear hkb hkab HKa cl1
      go_wp2_with fail
      have hS0 : wb.cell? ⟨X.b, 3, none⟩ = some (.slice (some ⟨gt, 0, none⟩) nt ct) ∧ wb.cell? ⟨X.b, 1, none⟩ = some (.int .i64 (n : Int)) ∧ wb.cell? ⟨gt, n, none⟩ = some (.int .u32 (tt : Int)) := ⟨c3, c1, ct1⟩
      go_region_held3 (fun w' => w'.cell? ⟨X.b, 3, none⟩ = some (.slice (some ⟨gt, 0, none⟩) nt ct) ∧ w'.cell? ⟨X.b, 1, none⟩ = some (.int .i64 (n : Int)) ∧ w'.cell? ⟨gt, n, none⟩ = some (.int .u32 (tt : Int))) (first | exact hS | exact hS0 | go_keep)
        (first | (go_at_call 33; refine (HT.out _ (HKb.out.2.2.grown (Keeps.refl _ _).drew)).mono ?_; rintro e w3 ⟨rfl, hk3⟩; have hS : w3.cell? ⟨X.b, 3, none⟩ = some (.slice (some ⟨gt, 0, none⟩) nt ct) ∧ w3.cell? ⟨X.b, 1, none⟩ = some (.int .i64 (n : Int)) ∧ w3.cell? ⟨gt, n, none⟩ = some (.int .u32 (tt : Int)) := ⟨cell_kept (w := wb.drew) hS0.1 hk3 (fun e => e), cell_kept (w := wb.drew) hS0.2.1 hk3 (fun e => e), cell_kept (w := wb.drew) hS0.2.2 hk3 (fun e => e)⟩))
      have hK3 : Keeps (fun _ => False) w w3 := (HKb.out.1.drew).trans hk3 fun _ _ e => e
      have hX3 : X.Rn w3 := HL.out.1.grown hK3
      have hM3 : Rm w3 mb g xs := HL.out.2.1.grown hK3
      have HF : Hid (RallP X mb g { tk := X.tk, st := X.st, xs := xs, did := false, e := E } w (.returned (.tuple #[.bool false, .int .i64 (E : Int)])) w3) :=
        ⟨rfl, X.vt, hX3, hM3, hK3.none, .inl rfl⟩
      clear hX3 hM3 hK3 hk3 hS hS0 HT c0 c1 c2 c3 ct1
      rcases hok with rfl | rfl
      · go_wp2
        go_ret2
        exact HF.out
      · go_wp2
        go_ret2
        exact HF.out

end Go.Proofs.Ytadhldpeklkcmaa
