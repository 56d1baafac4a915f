import Derived.Test.YtonjmknjjdnjkaaExF
namespace Go.Proofs.Ytonjmknjjdnjkaa
open Go.RowKit
set_option linter.unusedVariables false

section
variable {P : Program} {ops : Array Oper} {C : World → Prop} {Q : Act → Prop} {a : Act} {o : Oper} {rest : List Oper}
theorem wpQuiet_convert_run (hw : Region.wanted o (yielded ops a.tmps) = true) (x : Operand) (t k : TypeId) (ho : o.op = .convert t k x) (vs v' : Value) (hs : a.eval x = vs)
    (hr : ∀ w, C w → (convert t k vs).run P w = .ok v' w) (h : wpQuiet P ops C Q rest (a.put o.dst v')) : wpQuiet P ops C Q (o :: rest) a :=
  BigFrame.wpQuiet_want hw fun K hK => ⟨v', fun w hC => by
    unfold Oper.quietAt execOp
    simp only [ho, hs, Sem.run_bind, hr w hC, Result.andThen_ok, Sem.run_pure]
    exact ⟨rfl, rfl⟩, hK _ h⟩
end

set_option maxRecDepth 100000 in
set_option maxHeartbeats 1000000 in
theorem refRText_ok (b p N : Nat) (most : Int) (v : Value) (xs : List UInt8) (w : World) (h : RR w b v xs p 0) (hn : p + 4 ≤ xs.length) (hN : N = highN ((xs.drop p).take 4)) (hm : ¬ max most 0 < (N : Int)) (hs4 : p + 4 + N ≤ xs.length) :
    Calls Try.prog 63 #[.pointer (some ⟨b, 0, none⟩), .int .i64 most] w fun e w' => e = .returned (.string ⟨((xs.drop (p + 4)).take N).toArray⟩) ∧ RR w' b v xs (p + 4 + N) 0 ∧ Keeps (· = b) w w' := by
  obtain ⟨a, c, rfl, h1, h2, hs⟩ := h.look
  rcases hs with hs | ⟨g, o, rfl, hcell⟩
  · rw [hs] at hn; simp at hn
  have c0 := h.blk.cell (i := 0) rfl
  have c1 := h.blk.cell (i := 1) rfl
  have c2 := h.blk.cell (i := 2) rfl
  have f2 := h.blk.frozen 1
  have hle := h.le
  have HH : Hid (RR _ _ _ _ _ _) := h
  have hln : ((xs.drop p).take 4).length = 4 := by rw [List.length_take, List.length_drop]; omega
  have hNlt := highN_lt ((xs.drop p).take 4)
  rw [hln, ← hN] at hNlt
  have HC : Hid (∀ k, Calls Try.prog 85 #[.slice (some ⟨g, o + p, none⟩) 4 (c - p)] (w.drewN k) fun e w' => e = .returned (.int .u64 N) ∧ w' = w.drewN k) := fun k => by
    rw [hN]
    exact high_any g (o + p) 4 (c - p) ((xs.drop p).take 4) (w.drewN k) (fun j hj => by
      rw [hln] at hj
      have := hcell (p + j) (by omega)
      rw [Nat.add_assoc, World.cell?_drewN, this]
      simp) hln (by omega)
  have hcv : Hid (∀ k q cp, (q = o + (p + 4) ∨ N = 0) → (convert 38 9 (.slice (some ⟨g, q, none⟩) N cp)).run Try.prog (w.drewN k) = .ok (.string ⟨((xs.drop (p + 4)).take N).toArray⟩) (w.drewN k)) := fun k q cp hq => by
    have hlen : ((xs.drop (p + 4)).take N).length = N := by rw [List.length_take, List.length_drop]; omega
    have hl := run_loadCells_list (P := Try.prog) (w.drewN k) ⟨g, q, none⟩ (bvs ((xs.drop (p + 4)).take N)) (by
      intro j u hj
      have hjl : j < N := by
        have := (List.getElem?_eq_some_iff.1 hj).1
        rw [bvs_length, hlen] at this; exact this
      rw [bvs_get _ j (by rw [hlen]; exact hjl)] at hj
      rcases hq with hq | hq
      · have := hcell (p + 4 + j) (by omega)
        rw [addr_add, World.cell?_drewN, hq, Nat.add_assoc, this, ← hj]
        simp
      · omega)
    rw [run_convert_bytes_string (w.drewN k) 38 9 5 _ _ _ Try.underlying38 Try.underlying5 Try.underlying9]
    have hb : bvs ((xs.drop (p + 4)).take N) = (((xs.drop (p + 4)).take N).map fun x => (x.toNat : Int)).map (Value.int .u8) := by unfold bvs; rw [List.map_map]; rfl
    rw [bvs_length, hlen, hb] at hl
    rw [run_bytesToString (w.drewN k) _ _ _ _ hl, foldl_push]
    simp [ByteArray.empty, ByteArray.emptyWithCapacity]
    rfl
  obtain ⟨T, hT⟩ : ∃ T, T = ((xs.drop (p + 4)).take N).toArray := ⟨_, rfl⟩
  rw [← hT] at hcv ⊢
  obtain ⟨L, hL⟩ : ∃ L, L = xs.length := ⟨_, rfl⟩
  have HL : Hid (p + 4 + N ≤ xs.length) := hs4
  rw [← hL] at hn hle HH c0 h1 hs4 ⊢
  have t1 : ¬ (L : Int) - (p : Int) < 4 := by omega
  have hLm : (L : Int) ≤ 9223372036854775807 := by omega
  have hcp : ¬ c = p := by omega
  have HW : Hid (IntKind.i64.wrap ((p : Int) + 4) = (p : Int) + 4) := by show _ = _; rw [IntKind.wrap_i64]; omega
  have H3 : Hid ((p : Int) + 4 ≤ (c : Int)) := by show _ ≤ _; omega
  have HT : Hid (((p : Int) + 4).toNat - p = 4) := by show _ = _; omega
  have HNI : Hid (True ∧ wrap64 (N : Int) = (N : Int)) := ⟨trivial, by unfold wrap64; omega⟩
  have H5 : Hid (True ∧ ¬ (L : Int) - (p : Int) - 4 < (N : Int)) := ⟨trivial, by omega⟩
  have HQ : Hid (True ∧ IntKind.i64.wrap ((p : Int) + 4 + (N : Int)) = (p : Int) + 4 + (N : Int) ∧ (p : Int) + 4 + (N : Int) ≤ (c : Int) ∧ (((p : Int) + 4 + (N : Int)).toNat - ((p : Int) + 4).toNat = N) ∧ ((p : Int) + 4).toNat = p + 4) := ⟨trivial, by rw [IntKind.wrap_i64]; omega, by omega, by omega, by omega⟩
  by_cases hm0 : most < 0
  · have HCM : Hid (True ∧ ¬ (0 : Int) < (N : Int)) := ⟨trivial, by omega⟩
    clear h hL hN hcell hln hm hNlt hn h1 h2 hs4 hT
    go_enter Try.func63, Try.ntmps63
    go_wp2
    go_quiet (fail)
    go_wp2
    have hwr := HW.out
    have t3 := H3.out
    go_quiet ((go_at_call 85; (try rw [HT.out]); exact (HC.out _).mono fun e w2 h2 => ⟨h2.1, _, h2.2⟩))
    have hNi := HNI.out.2
    have hcmp := HCM.out.2
    go_wp2
    have t5 := H5.out.2
    go_quiet (fail)
    go_wp2
    obtain ⟨_, q1, q2, q3, q4⟩ := HQ.out
    have q5 : (0 : Int) ≤ (p : Int) + 4 := by omega
    have q6 : (p : Int) + 4 ≤ (p : Int) + 4 + (N : Int) := by omega
    clear hcp
    by_cases hcq : c = p + 4
    · have q7 : N = 0 := by omega
      have HC7 : Hid (c = p + 4 ∧ N = 0) := ⟨hcq, q7⟩
      clear q7
      refine wp_region_quiet_lit (by kernel_rfl) (by kernel_rfl) ?_
      repeat (go_big_quiet_step (fail))
      have q3' : p + 4 + N - (p + 4) = N := by omega
      refine wpQuiet_convert_run rfl (.tmp 82) 38 9 rfl (.slice (some ⟨g, o, none⟩) (p + 4 + N - (p + 4)) 0) (.string ⟨T⟩) rfl ?_ ?_
      · rintro w2 ⟨n2, rfl⟩
        rw [q3', World.drewN_drewN, World.drewN_drewN]
        exact hcv.out _ _ _ (.inr HC7.out.2)
      repeat (first | go_big_quiet_step (fail) | quiet_step (fail))
      refine wpQuiet_nil ?_
      intro _ hw'
      obtain ⟨nq2, hw''⟩ := hw'
      subst hw''
      clear q3' q3 q4 q5 q6
      go_wp2
      go_ret
      refine ⟨rfl, ?_, ((Keeps.refl _ w).drewN _).setCell _ _ fun _ => rfl⟩
      refine (?_ : ∀ m1, RR ((w.drewN m1).setCell ⟨b, 1, none⟩ (.int .i64 ((p : Int) + 4 + (N : Int)))) b _ xs (p + 4 + N) 0) _
      intro m1
      have := (HH.out.drewN m1).go (p + 4 + N) HL.out
      rw [Int.natCast_add, Int.natCast_add] at this
      exact this
    · refine wp_region_quiet_lit (by kernel_rfl) (by kernel_rfl) ?_
      repeat (go_big_quiet_step (fail))
      have q3' : ((p : Int) + 4 + (N : Int)).toNat - (p + 4) = N := by omega
      refine wpQuiet_convert_run rfl (.tmp 82) 38 9 rfl (.slice (some ⟨g, o + (p + 4), none⟩) (((p : Int) + 4 + (N : Int)).toNat - (p + 4)) (c - (p + 4))) (.string ⟨T⟩) rfl ?_ ?_
      · rintro w2 ⟨n2, rfl⟩
        rw [q3', World.drewN_drewN, World.drewN_drewN]
        exact hcv.out _ _ _ (.inl rfl)
      repeat (first | go_big_quiet_step (fail) | quiet_step (fail))
      refine wpQuiet_nil ?_
      intro _ hw'
      obtain ⟨nq2, hw''⟩ := hw'
      subst hw''
      clear q3' q3 q4 q5 q6
      go_wp2
      go_ret
      refine ⟨rfl, ?_, ((Keeps.refl _ w).drewN _).setCell _ _ fun _ => rfl⟩
      refine (?_ : ∀ m1, RR ((w.drewN m1).setCell ⟨b, 1, none⟩ (.int .i64 ((p : Int) + 4 + (N : Int)))) b _ xs (p + 4 + N) 0) _
      intro m1
      have := (HH.out.drewN m1).go (p + 4 + N) HL.out
      rw [Int.natCast_add, Int.natCast_add] at this
      exact this
  · have HCM : Hid (True ∧ ¬ most < (N : Int)) := ⟨trivial, by omega⟩
    clear h hL hN hcell hln hm hNlt hn h1 h2 hs4 hT
    go_enter Try.func63, Try.ntmps63
    go_wp2
    go_quiet (fail)
    go_wp2
    have hwr := HW.out
    have t3 := H3.out
    go_quiet ((go_at_call 85; (try rw [HT.out]); exact (HC.out _).mono fun e w2 h2 => ⟨h2.1, _, h2.2⟩))
    have hNi := HNI.out.2
    have hcmp := HCM.out.2
    go_wp2
    have t5 := H5.out.2
    go_quiet (fail)
    go_wp2
    obtain ⟨_, q1, q2, q3, q4⟩ := HQ.out
    have q5 : (0 : Int) ≤ (p : Int) + 4 := by omega
    have q6 : (p : Int) + 4 ≤ (p : Int) + 4 + (N : Int) := by omega
    clear hcp
    by_cases hcq : c = p + 4
    · have q7 : N = 0 := by omega
      have HC7 : Hid (c = p + 4 ∧ N = 0) := ⟨hcq, q7⟩
      clear q7
      refine wp_region_quiet_lit (by kernel_rfl) (by kernel_rfl) ?_
      repeat (go_big_quiet_step (fail))
      have q3' : p + 4 + N - (p + 4) = N := by omega
      refine wpQuiet_convert_run rfl (.tmp 82) 38 9 rfl (.slice (some ⟨g, o, none⟩) (p + 4 + N - (p + 4)) 0) (.string ⟨T⟩) rfl ?_ ?_
      · rintro w2 ⟨n2, rfl⟩
        rw [q3', World.drewN_drewN, World.drewN_drewN]
        exact hcv.out _ _ _ (.inr HC7.out.2)
      repeat (first | go_big_quiet_step (fail) | quiet_step (fail))
      refine wpQuiet_nil ?_
      intro _ hw'
      obtain ⟨nq2, hw''⟩ := hw'
      subst hw''
      clear q3' q3 q4 q5 q6
      go_wp2
      go_ret
      refine ⟨rfl, ?_, ((Keeps.refl _ w).drewN _).setCell _ _ fun _ => rfl⟩
      refine (?_ : ∀ m1, RR ((w.drewN m1).setCell ⟨b, 1, none⟩ (.int .i64 ((p : Int) + 4 + (N : Int)))) b _ xs (p + 4 + N) 0) _
      intro m1
      have := (HH.out.drewN m1).go (p + 4 + N) HL.out
      rw [Int.natCast_add, Int.natCast_add] at this
      exact this
    · refine wp_region_quiet_lit (by kernel_rfl) (by kernel_rfl) ?_
      repeat (go_big_quiet_step (fail))
      have q3' : ((p : Int) + 4 + (N : Int)).toNat - (p + 4) = N := by omega
      refine wpQuiet_convert_run rfl (.tmp 82) 38 9 rfl (.slice (some ⟨g, o + (p + 4), none⟩) (((p : Int) + 4 + (N : Int)).toNat - (p + 4)) (c - (p + 4))) (.string ⟨T⟩) rfl ?_ ?_
      · rintro w2 ⟨n2, rfl⟩
        rw [q3', World.drewN_drewN, World.drewN_drewN]
        exact hcv.out _ _ _ (.inl rfl)
      repeat (first | go_big_quiet_step (fail) | quiet_step (fail))
      refine wpQuiet_nil ?_
      intro _ hw'
      obtain ⟨nq2, hw''⟩ := hw'
      subst hw''
      clear q3' q3 q4 q5 q6
      go_wp2
      go_ret
      refine ⟨rfl, ?_, ((Keeps.refl _ w).drewN _).setCell _ _ fun _ => rfl⟩
      refine (?_ : ∀ m1, RR ((w.drewN m1).setCell ⟨b, 1, none⟩ (.int .i64 ((p : Int) + 4 + (N : Int)))) b _ xs (p + 4 + N) 0) _
      intro m1
      have := (HH.out.drewN m1).go (p + 4 + N) HL.out
      rw [Int.natCast_add, Int.natCast_add] at this
      exact this

theorem refRText_any (b p : Nat) (er most : Int) (v : Value) (xs : List UInt8) (w : World) (h : RR w b v xs p er) :
    Calls Try.prog 63 #[.pointer (some ⟨b, 0, none⟩), .int .i64 most] w fun e w' => e = .returned (.string ⟨(txtV xs p er most).toArray⟩) ∧ RR w' b v xs (txtP xs p er most) (txtE xs p er most) ∧ Keeps (· = b) w w' := by
  by_cases he : er ≠ 0
  · have e1 : txtE xs p er most = er := by unfold txtE; rw [if_pos he]
    have e2 : txtV xs p er most = [] := by unfold txtV; rw [e1, if_neg he]
    have e3 : txtP xs p er most = p := by unfold txtP; rw [e1, if_neg he]
    rw [e1, e2, e3]
    exact (refRText_fault b p er most v xs w h (by simpa using he)).mono fun e w' ⟨h1, h2⟩ => ⟨h1, h2 ▸ h, h2 ▸ Keeps.refl _ _⟩
  · have he0 : er = 0 := by omega
    subst he0
    by_cases h4 : xs.length < p + 4
    · have e1 : txtE xs p 0 most = 12 := by unfold txtE; rw [if_neg he, if_pos h4]
      have e2 : txtV xs p 0 most = [] := by unfold txtV; rw [e1, if_neg (by omega)]
      have e3 : txtP xs p 0 most = p := by unfold txtP; rw [e1, if_neg (by omega)]
      rw [e1, e2, e3]
      exact refRText_few b p most v xs w h h4
    · by_cases hm : max most 0 < (txtN xs p : Int)
      · have e1 : txtE xs p 0 most = 14 := by unfold txtE; rw [if_neg he, if_neg h4, if_pos hm]
        have e2 : txtV xs p 0 most = [] := by unfold txtV; rw [e1, if_neg (by omega)]
        have e3 : txtP xs p 0 most = p := by unfold txtP; rw [e1, if_neg (by omega)]
        rw [e1, e2, e3]
        exact refRText_most b p _ most v xs w h (by omega) rfl hm
      · by_cases hs : xs.length < p + 4 + txtN xs p
        · have e1 : txtE xs p 0 most = 12 := by unfold txtE; rw [if_neg he, if_neg h4, if_neg hm, if_pos hs]
          have e2 : txtV xs p 0 most = [] := by unfold txtV; rw [e1, if_neg (by omega)]
          have e3 : txtP xs p 0 most = p := by unfold txtP; rw [e1, if_neg (by omega)]
          rw [e1, e2, e3]
          exact refRText_short b p _ most v xs w h (by omega) rfl hm hs
        · have e1 : txtE xs p 0 most = 0 := by unfold txtE; rw [if_neg he, if_neg h4, if_neg hm, if_neg hs]
          have e2 : txtV xs p 0 most = (xs.drop (p + 4)).take (txtN xs p) := by unfold txtV; rw [e1, if_pos rfl]
          have e3 : txtP xs p 0 most = p + 4 + txtN xs p := by unfold txtP; rw [e1, if_pos rfl]
          rw [e1, e2, e3]
          exact refRText_ok b p _ most v xs w h (by omega) rfl hm (by omega)
end Go.Proofs.Ytonjmknjjdnjkaa
