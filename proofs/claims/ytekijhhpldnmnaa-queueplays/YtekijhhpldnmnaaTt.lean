import Derived.Test.YtekijhhpldnmnaaTs
import Derived.Deep.RegionHeld3
import Derived.Deep.RegionHeld2
import Derived.Test.YtekijhhpldnmnaaU
namespace Go.Proofs.Ytekijhhpldnmnaa
open Go.RowKit
set_option linter.unusedVariables false
set_option linter.unusedSimpArgs false

theorem opAppend_run {P : Program} {w : World} {o : Oper} {a : Act} {K : Act → World → Prop} {Q : Exit → Act → World → Prop} (s x : Operand) (t k : TypeId)
    (ho : o.op = .call { callee := .builtin .append, args := #[s, x], argTypes := #[t, k] }) (vs vx v' : Value) (w' : World) (hs : a.eval s = vs) (hx : a.eval x = vx)
    (hr : (Builtin.append_ #[t, k] o.type #[vs, vx]).run P w = .ok v' w') (h : K (a.put o.dst v') w') : o.wp P a w K Q := by
  unfold Oper.wp execOp
  simp only [ho, resolve, invoke, builtin, Sem.run_bind, Sem.run_pure, Result.andThen_ok, List.map_toArray, List.map_cons, List.map_nil, hs, hx, hr]
  exact h

set_option maxRecDepth 20000 in
set_option maxHeartbeats 4000000 in
theorem rput_any (D M c : Nat) (p n d : Int) (xs m : List UInt32) (ma : Option Addr) (mc : Nat) (w : World) (hB : Blk w D (wvs xs) 52) (hM : M = xs.length) (hm : M ≤ 256) (hs : SegW w ma m) :
    Calls Try.prog 27 #[.slice (some ⟨D, 0, none⟩) M c, .int .i64 p, .int .i64 n, .int .i64 d, .slice ma m.length mc] w fun e w' => NxP w D M (ptX false xs p n d m) (ptB false xs p n d m.length) (ptE false xs p n d m.length) e w' := by
  have hno : ∀ E : Int, ptE false xs p n d m.length = E → E ≠ 0 → ptB false xs p n d m.length = false ∧ ptX false xs p n d m = xs := fun E h1 h2 => by
    have h3 : ptB false xs p n d m.length = false := by unfold ptB; rw [h1, decide_eq_false h2]; rfl
    exact ⟨h3, by unfold ptX; rw [if_neg (by rw [h3]; decide)]⟩
  have HB9 : Hid (Blk w D (wvs xs) 52) := hB
  have hbn := bounds_any n d w
  by_cases hf : fitE false n d = 0
  · rw [bnd_yes hf] at hbn
    have HBn : Hid (Calls _ _ _ _ _) := hbn
    obtain ⟨_, f1, f2, f3, f4⟩ := fit_ok hf
    obtain ⟨n', rfl⟩ : ∃ k : Nat, n = k := ⟨n.toNat, by omega⟩
    obtain ⟨d', rfl⟩ : ∃ k : Nat, d = k := ⟨d.toNat, by omega⟩
    obtain ⟨ml, hml⟩ : ∃ ml, ml = m.length := ⟨_, rfl⟩
    rw [← hml] at hno ⊢
    by_cases hlen : ml < 1 ∨ (n' : Int) < (ml : Int)
    · have hE : ptE false xs p n' d' ml = 200 := by unfold ptE; rw [if_neg (fun q => q hf), if_pos hlen]
      obtain ⟨h1, h2⟩ := hno 200 hE (by decide)
      rw [hE, h1, h2]
      by_cases l1 : ml < 1
      · have l2 : (ml : Int) < 1 := by omega
        obtain rfl : ml = 0 := by omega
        clear hno hbn hf f1 f2 f3 f4 hB hM hm hs hlen hE h1 h2 hml l1 l2
        go_enter Try.func27, Try.ntmps27
        go_wp2_with fail
        refine HBn.out.mono ?_
        rintro e w1 ⟨rfl, rfl⟩
        go_wp2
        go_returns
        exact ⟨D, c, rfl, .inl rfl, HB9.out, Keeps.refl _ _⟩
      · have l2 : ¬ (ml : Int) < 1 := by omega
        have l3 : (n' : Int) < (ml : Int) := by omega
        have l4 : n' < ml := by omega
        clear hno hbn hf f1 f2 f3 f4 hB hM hm hs hlen hE h1 h2 hml
        go_enter Try.func27, Try.ntmps27
        go_wp2_with fail
        refine HBn.out.mono ?_
        rintro e w1 ⟨rfl, rfl⟩
        go_wp2
        go_returns
        exact ⟨D, c, rfl, .inl rfl, HB9.out, Keeps.refl _ _⟩
    have hpE : ptE false xs p n' d' ml = lkE false xs p 1 n' d' := by unfold ptE; rw [if_neg (fun q => q hf), if_neg hlen]
    have l2 : ¬ (ml : Int) < 1 := by omega
    have l2' : ¬ ml < 1 := by omega
    have l3 : ¬ (n' : Int) < (ml : Int) := by omega
    have l3' : ¬ n' < ml := by omega
    have HC : Hid (Calls _ _ _ _ _) := stage_any D M c n' d' p xs w hB hM hm hf
    obtain ⟨E, hE⟩ : ∃ E, E = lkE false xs p 1 n' d' := ⟨_, rfl⟩
    obtain ⟨r, hr⟩ : ∃ r, r = rdA xs p 1 n' d' := ⟨_, rfl⟩
    obtain ⟨PX, hPX⟩ : ∃ PX, PX = ptX false xs p n' d' m := ⟨_, rfl⟩
    obtain ⟨PB, hPB⟩ : ∃ PB, PB = ptB false xs p n' d' ml := ⟨_, rfl⟩
    rw [← hE] at HC hpE
    rw [← hr] at HC
    rw [hpE, ← hPX, ← hPB]
    rw [hpE] at hno
    have HR : Hid (r = rdA xs p 1 n' d' ∧ E = lkE false xs p 1 n' d' ∧ PX = ptX false xs p n' d' m ∧ PB = ptB false xs p n' d' ml ∧ ml = m.length ∧ SegW w ma m ∧ M = xs.length ∧ M ≤ 256 ∧ ptE false xs p n' d' ml = E ∧ (E ≠ 0 → PB = false ∧ PX = xs)) := ⟨hr, hE, hPX, hPB, hml, hs, hM, hm, hpE, fun q => by rw [hPB, hPX]; exact hno E rfl q⟩
    clear hno hbn hf hB hM hm hs hlen hml hpE hE hr hPX hPB
    go_enter Try.func27, Try.ntmps27
    go_wp2_with fail
    refine HBn.out.mono ?_
    rintro e w1 ⟨rfl, rfl⟩
    go_wp2_with fail
    refine HC.out.mono ?_
    intro e w2 hpp
    rcases hpp with ⟨hE, v, rfl, hms, hk⟩ | ⟨hE, rfl, hk⟩
    · obtain ⟨a, cc, hv, hcc, hlc⟩ := hms.form
      obtain ⟨LL, hLL⟩ : ∃ LL, LL = r.ms.length := ⟨_, rfl⟩
      rw [← hLL] at hv hlc
      subst hv
      obtain ⟨F, hF⟩ : ∃ F, F = r.f := ⟨_, rfl⟩
      obtain ⟨X, hX⟩ : ∃ X, X = r.lost.toNat := ⟨_, rfl⟩
      rw [← hF, ← hX]
      by_cases hfull : LL = d'
      · have HQ : Hid (E = 0 ∧ PB = false ∧ PX = xs ∧ Keeps (fun _ => False) w1 w2 ∧ Blk w2 D (wvs xs) 52) := by
          have q : PB = false := by
            rw [HR.out.2.2.2.1]; unfold ptB; rw [HR.out.2.2.2.2.2.2.2.2.1, hE, ← HR.out.1, ← hLL, hfull]; simp
          refine ⟨hE, q, ?_, hk, HB9.out.kept hk fun e => e⟩
          rw [HR.out.2.2.1]; unfold ptX; rw [← HR.out.2.2.2.2.1, ← HR.out.2.2.2.1, if_neg (by rw [q]; decide)]
        have hfz : ((LL : Int) == (d' : Int)) = true := beq_iff_eq.2 (by omega)
        clear hE hms hk hLL hF hX HC hfull
        go_wp2
        go_returns
        refine ⟨D, c, ?_, .inl rfl, ?_, HQ.out.2.2.2.1.alloc _⟩
        · rw [HQ.out.1, HQ.out.2.1]; rfl
        · rw [HQ.out.2.2.1]; exact HQ.out.2.2.2.2.alloc _
      · have hE0 : lkE false xs p 1 n' d' = 0 := by rw [← HR.out.2.1]; exact hE
        obtain ⟨_, p', n9, d9, rfl, en, ed, LI⟩ := lkE_ok (.inl rfl) hE0
        obtain rfl : n' = n9 := by omega
        obtain rfl : d' = d9 := by omega
        rw [← HR.out.1] at LI
        have hlt : LL < d' := by have := LI.ok.m; omega
        have q : PB = true := by
          rw [HR.out.2.2.2.1]; unfold ptB; rw [HR.out.2.2.2.2.2.2.2.2.1, hE, ← HR.out.1, ← hLL]
          rw [decide_eq_true rfl, decide_eq_false (by simp; omega)]; rfl
        have hpx : PX = lay xs p' (enc 1 n' d' (r.push m)) := by
          rw [HR.out.2.2.1]; unfold ptX; rw [← HR.out.2.2.2.2.1, ← HR.out.2.2.2.1, if_pos q, ← HR.out.1]; rfl
        have hpo := LI.ok.push (m := m) (by omega) (by have := HR.out.2.2.2.2.1; omega)
        have HQ : Hid (E = 0 ∧ PB = true ∧ PX = lay xs p' (enc 1 n' d' (r.push m))) := ⟨hE, q, hpx⟩
        have hfz : ((LL : Int) == (d' : Int)) = false := beq_eq_false_iff_ne.2 (by omega)
        obtain ⟨T, hT⟩ : ∃ T, T = w2.heap.size := ⟨_, rfl⟩
        obtain ⟨G, hG⟩ : ∃ G, G = (w2.alloc (.cells #[.int .i64 F, .slice a LL cc, .int .u32 X] 92)).heap.size := ⟨_, rfl⟩
        have hGT : G = T + 1 := by rw [hG, hT]; simp
        have hk3 : Keeps (fun _ => False) w2 (w2.alloc (.cells #[.int .i64 F, .slice a LL cc, .int .u32 X] 92)) := (Keeps.refl _ w2).alloc _
        have hT3 : Blk (w2.alloc (.cells #[.int .i64 F, .slice a LL cc, .int .u32 X] 92)) T [.int .i64 F, .slice a LL cc, .int .u32 X] 92 := by rw [hT]; exact Blk.new w2 _ 92
        have hcp := rcopied_any (some ⟨D, 0, none⟩) c xs (w2.alloc (.cells #[.int .i64 F, .slice a LL cc, .int .u32 X] 92)) (Blk.segw ((HB9.out.kept hk fun e => e).kept hk3 fun e => e)) (by have := HR.out.2.2.2.2.2.2; omega)
        rw [← HR.out.2.2.2.2.2.2.1, ← hG] at hcp
        have HCP : Hid (Calls _ _ _ _ _) := hcp
        have HA4 : Hid (∀ w4, Blk w4 G (wvs xs) 52 → Keeps (fun _ => False) (w2.alloc (.cells #[.int .i64 F, .slice a LL cc, .int .u32 X] 92)) w4 → w4.drew.cell? ⟨T, 1, none⟩ = some (.slice a LL cc) ∧
            Calls Try.prog 55 #[.slice ma ml mc] w4.drew (fun e w' => e = .returned (.slice (some ⟨w4.drew.heap.size, 0, none⟩) ml ml) ∧ Blk w' w4.drew.heap.size (wvs m) 52 ∧ Keeps (fun _ => False) w4.drew w') ∧
            ∀ w5, Blk w5 w4.drew.heap.size (wvs m) 52 → Keeps (fun _ => False) w4.drew w5 → w5.cell? ⟨T, 1, none⟩ = some (.slice a LL cc) ∧ (w5.alloc (.cells #[.slice (some ⟨w4.drew.heap.size, 0, none⟩) ml ml] 22)).cell? ⟨T, 1, none⟩ = some (.slice a LL cc) ∧
              ∃ a9 L9 c9 W9, (∀ ty, (Builtin.append_ #[43, 43] ty #[.slice a LL cc, .slice (some ⟨w5.heap.size, 0, none⟩) 1 1]).run Try.prog (w5.alloc (.cells #[.slice (some ⟨w4.drew.heap.size, 0, none⟩) ml ml] 22)) = .ok (.slice a9 L9 c9) W9) ∧ W9.cell? ⟨T, 1, none⟩ = some (.slice a LL cc) ∧ W9.frozen? ⟨T, 1, none⟩ = false ∧
                (W9.setCell ⟨T, 1, none⟩ (.slice a9 L9 c9)).cell? ⟨T, 0, none⟩ = some (.int .i64 F) ∧ (W9.setCell ⟨T, 1, none⟩ (.slice a9 L9 c9)).cell? ⟨T, 1, none⟩ = some (.slice a9 L9 c9) ∧ (W9.setCell ⟨T, 1, none⟩ (.slice a9 L9 c9)).cell? ⟨T, 2, none⟩ = some (.int .u32 X) ∧
                Keeps (fun _ => False) w1 (W9.setCell ⟨T, 1, none⟩ (.slice a9 L9 c9)) ∧ w1.heap.size ≤ G ∧ L9 ≤ 100 ∧ c9 ≤ maxLen ∧ L9 ≤ c9 ∧
                Calls Try.prog 56 #[.slice (some ⟨G, 0, none⟩) M M, .int .i64 p', .int .i64 n', .int .i64 d', .agg #[.int .i64 F, .slice a9 L9 c9, .int .u32 X]] (W9.setCell ⟨T, 1, none⟩ (.slice a9 L9 c9)) fun e w' => e = .returned (.tuple #[]) ∧ Blk w' G (wvs (lay xs p' (enc 1 n' d' (r.push m)))) 52 ∧ Keeps (· = G) (W9.setCell ⟨T, 1, none⟩ (.slice a9 L9 c9)) w') := fun w4 hb4 hk4 => by
          have d4 : Keeps (fun _ => False) (w2.alloc (.cells #[.int .i64 F, .slice a LL cc, .int .u32 X] 92)) w4.drew := hk4.drew
          have k24 : Keeps (fun _ => False) w2 w4.drew := hk3.trans d4 fun _ _ e => e
          have T4 := hT3.kept d4 fun e => e
          have G4 := hb4.kept ((Keeps.refl (fun _ => False) w4).drew) fun e => e
          have hseg : SegW w4.drew ma m := (HR.out.2.2.2.2.2.1.kept hk fun _ _ e => e).kept k24 fun _ _ e => e
          have hcm := rcopied_any ma mc m w4.drew hseg (by have := HR.out.2.2.2.2.1; omega)
          rw [← HR.out.2.2.2.2.1] at hcm
          refine ⟨T4.cell rfl, hcm, fun w5 hb5 hk5 => ?_⟩
          have T5 := T4.kept hk5 fun e => e
          have G5 := G4.kept hk5 fun e => e
          have k25 : Keeps (fun _ => False) w2 w5 := k24.trans hk5 fun _ _ e => e
          have T6 := T5.kept ((Keeps.refl (fun _ => False) w5).alloc (.cells #[.slice (some ⟨w4.drew.heap.size, 0, none⟩) ml ml] 22)) fun e => e
          have hGlt := G4.lt
          obtain ⟨vals0, m1, m2, m3, m4⟩ := hms
          have hS5 : MsS (· ≠ G) w5 (.slice a LL cc) r.ms := ⟨vals0, m1.kept k25 fun _ _ e => e, m3, fun j x hj => by
            obtain ⟨B, b1, b2, b3⟩ := m4 j x hj
            exact ⟨B, by have := b3.lt; omega, b2, b3.kept k25 fun e => e⟩⟩
          obtain ⟨v9, W9, r1, r2, r3⟩ := msS_app hS5 m w4.drew.heap.size hb5 (by omega) (by omega)
          rw [← HR.out.2.2.2.2.1] at r1
          obtain ⟨a9, c9, hv9, hc9, hl9⟩ := r2.form
          obtain ⟨L9, hL9⟩ : ∃ L9, L9 = (r.ms ++ [m]).length := ⟨_, rfl⟩
          have hL9' : L9 = LL + 1 := by rw [hL9, hLL]; simp
          rw [← hL9] at hv9 hl9
          subst hv9
          have aT := msS_away hS5 T5 (by decide)
          have aG := msS_away hS5 G5 (by decide)
          have T9 := T5.kept r3 aT
          have G9 := G5.kept r3 aG
          have ks : Keeps (· = T) W9 (W9.setCell ⟨T, 1, none⟩ (.slice a9 L9 c9)) := (Keeps.refl _ W9).setCell _ _ fun _ => rfl
          have T10 := T9.setCell 1 (.slice a9 L9 c9)
          have G10 := G9.kept ks (fun e => by omega)
          have k19 : Keeps (fun _ => False) w1 W9 := (hk.trans k25 fun _ _ e => e).trans r3 fun b hb e => by
            have := m2 b e.symm; omega
          have k110 : Keeps (fun _ => False) w1 (W9.setCell ⟨T, 1, none⟩ (.slice a9 L9 c9)) := k19.trans ks fun b hb e => by have := hk.size; omega
          have S10 : MsS (· ≠ G) (W9.setCell ⟨T, 1, none⟩ (.slice a9 L9 c9)) (.slice a9 L9 c9) (r.ms ++ [m]) := by
            obtain ⟨vals, q1, q3, q4⟩ := r2
            refine ⟨vals, q1.kept ks fun b hb e => ?_, q3, fun i x hi => ?_⟩
            · obtain ⟨l, hl⟩ := q1.blk hb
              exact hl.ne T9 (by decide) e
            · obtain ⟨C, s1, s2, s3⟩ := q4 i x hi
              exact ⟨C, s1, s2, s3.kept ks fun e => s3.ne T9 (by decide) e⟩
          have hlay := layStage_any G M M p' n' d' F X xs (.slice a9 L9 c9) (r.push m) _ G10 HR.out.2.2.2.2.2.2.1 HR.out.2.2.2.2.2.2.2.1 S10 (fun x hx => (hpo.l x hx).2) ⟨by omega, by omega⟩ (by omega) (by rw [HR.out.2.2.2.2.2.2.1]; exact LI.fit) hpo.m (hpo.s rfl).1
          exact ⟨T5.cell rfl, T6.cell rfl, a9, L9, c9, W9, r1, T9.cell rfl, T9.frozen 1, T10.cell rfl, T10.cell rfl, T10.cell rfl, k110, by have := hk.size; omega, by omega, hc9, hl9, hlay⟩
        have HBD : Hid (w1.heap.size ≤ w2.heap.size) := hk.size
        clear hE hms hk hLL hF hX HC hE0 LI en ed q hpx hpo hcp hT3 hk3 hfull
        go_wp2_with fail
        refine HCP.out.mono ?_
        rintro e w4 ⟨rfl, hb4, hk4⟩
        obtain ⟨hS4, hcm, haf⟩ := HA4.out w4 hb4 hk4
        have HCM : Hid (Calls _ _ _ _ _) := hcm
        have HAF : Hid (∀ w5, _ → _ → _) := haf
        have HTT : Hid (T = w2.heap.size) := hT
        clear hcm haf hb4 hk4 HA4 HCP hGT hG hT
        go_wp2
        rw [← HTT.out]
        refine wp_region_held_drew (S := (fun _ => True)) Try.mixd trivial (fun hHeld => ?_)
        simp only [List.size_toArray, List.length_cons, List.length_nil, Nat.reduceAdd, Array.replicate_succ, Array.replicate_zero, List.push_toArray, List.append_toArray, List.nil_append, List.cons_append]
        refine wpAnyH_take (i := 0) (oi := { dst := some 52, op := Op.fieldAddr 92 (Operand.tmp 13) 1, type := 0, pos := "ref.go:141", after := #[], guard := none }) (v := .pointer (some ⟨T, 1, none⟩)) rfl (by kernel_rfl) (by kernel_rfl) (by kernel_rfl) (fun _ _ _ h => h) (Or.inl ⟨by kernel_rfl, by (intro w hSw; (try dsimp only at hSw); go_simp; try omega)⟩) hHeld ?_
        simp only [Act.put, List.setIfInBounds_toArray, List.set_cons_zero, List.set_cons_succ]
        refine wpAnyH_take (i := 2) (oi := { dst := some 54, op := Op.move (Operand.tmp 4), type := 22, pos := "ref.go:141", after := #[], guard := none }) (v := .slice ma ml mc) rfl (by kernel_rfl) (by kernel_rfl) (by kernel_rfl) (fun _ _ _ h => h) (Or.inl ⟨by kernel_rfl, by (intro w hSw; (try dsimp only at hSw); go_simp; try omega)⟩) hHeld ?_
        simp only [Act.put, List.setIfInBounds_toArray, List.set_cons_zero, List.set_cons_succ]
        refine wpAnyH_ready (rs := [1, 3]) (by kernel_rfl) (by simp) ?_
        refine AllReadyH.cons (o := { dst := some 53, op := Op.load 43 (Operand.tmp 52), type := 43, pos := "ref.go:141", after := #[{ on := 0, ground := Ground.data }], guard := none }) rfl (fun Kq hK => ?_) (AllReadyH.cons (o := { dst := some 55, op := Op.call { callee := Callee.value (Operand.func 55), args := #[Operand.tmp 54], argTypes := #[22] }, type := 22, pos := "ref.go:141", after := #[{ on := 2, ground := Ground.data }], guard := none }) rfl (fun Kq hK => ?_) AllReadyH.nil)
        · go_simp
          refine hK.out _ _ trivial (fun hHeld => ?_)
          simp only [Act.put, List.setIfInBounds_toArray, List.set_cons_zero, List.set_cons_succ]
          refine wpAnyH_ready (rs := [3]) (by kernel_rfl) (by simp) ?_
          refine AllReadyH.cons (o := { dst := some 55, op := Op.call { callee := Callee.value (Operand.func 55), args := #[Operand.tmp 54], argTypes := #[22] }, type := 22, pos := "ref.go:141", after := #[{ on := 2, ground := Ground.data }], guard := none }) rfl (fun Kq hK => ?_) AllReadyH.nil
          go_simp
          refine HCM.out.mono ?_
          rintro e w5 ⟨rfl, hb5, hk5⟩
          obtain ⟨hS5, hS6, a9, L9, c9, W9, hrun, hS9, hz9, t0, t1, t2, k9, hGl, n1, n2, n3, hlay⟩ := HAF.out w5 hb5 hk5
          clear hb5 hk5
          refine hK.out _ _ trivial (fun hHeld => ?_)
          simp only [Act.put, List.setIfInBounds_toArray, List.set_cons_zero, List.set_cons_succ]
          refine wpAnyH_ready (rs := [4]) (by kernel_rfl) (by simp) ?_
          refine AllReadyH.cons (o := { dst := some 56, op := Op.buildSlice 43 1 #[(0, Operand.tmp 55)], type := 43, pos := "ref.go:141", after := #[{ on := 3, ground := Ground.data }], guard := none }) rfl (fun Kq hK => ?_) AllReadyH.nil
          go_simp
          refine hK.out _ _ trivial (fun hHeld => ?_)
          simp only [Act.put, List.setIfInBounds_toArray, List.set_cons_zero, List.set_cons_succ]
          refine wpAnyH_ready (rs := [5]) (by kernel_rfl) (by simp) ?_
          refine AllReadyH.cons (o := { dst := some 57, op := Op.call { callee := Callee.builtin Builtin.append, args := #[Operand.tmp 53, Operand.tmp 56], argTypes := #[43, 43] }, type := 43, pos := "ref.go:141", after := #[{ on := 1, ground := Ground.data }, { on := 4, ground := Ground.data }, { on := 3, ground := Ground.chain }], guard := none }) rfl (fun Kq hK => ?_) AllReadyH.nil
          rw [if_pos (by kernel_rfl)]
          refine opAppend_run _ _ 43 43 rfl (.slice a LL cc) (.slice (some ⟨w5.heap.size, 0, none⟩) 1 1) (.slice a9 L9 c9) W9 rfl rfl (hrun _) ?_
          refine hK.out _ _ trivial (fun hHeld => ?_)
          simp only [Act.put, List.setIfInBounds_toArray, List.set_cons_zero, List.set_cons_succ]
          refine wpAnyH_take (i := 6) (oi := { dst := some 58, op := Op.fieldAddr 92 (Operand.tmp 13) 1, type := 0, pos := "ref.go:141", after := #[{ on := 0, ground := Ground.phase }, { on := 1, ground := Ground.phase }, { on := 2, ground := Ground.phase }, { on := 3, ground := Ground.phase }, { on := 4, ground := Ground.phase }, { on := 5, ground := Ground.phase }], guard := none }) (v := .pointer (some ⟨T, 1, none⟩)) rfl (by kernel_rfl) (by kernel_rfl) (by kernel_rfl) (fun _ _ _ h => h) (Or.inl ⟨by kernel_rfl, by (intro w hSw; (try dsimp only at hSw); go_simp; try omega)⟩) hHeld ?_
          simp only [Act.put, List.setIfInBounds_toArray, List.set_cons_zero, List.set_cons_succ]
          refine wpAnyH_ready (rs := [7]) (by kernel_rfl) (by simp) ?_
          refine AllReadyH.cons (o := { dst := none, op := Op.store 43 (Operand.tmp 58) (Operand.tmp 57), type := 0, pos := "ref.go:141", after := #[{ on := 6, ground := Ground.data }, { on := 5, ground := Ground.data }, { on := 5, ground := Ground.chain }, { on := 0, ground := Ground.phase }, { on := 1, ground := Ground.phase }, { on := 2, ground := Ground.phase }, { on := 3, ground := Ground.phase }, { on := 4, ground := Ground.phase }, { on := 5, ground := Ground.phase }], guard := none }) rfl (fun Kq hK => ?_) AllReadyH.nil
          go_simp
          refine hK.out _ _ trivial (fun hHeld => ?_)
          simp only [Act.put, List.setIfInBounds_toArray, List.set_cons_zero, List.set_cons_succ]
          refine wpAnyH_done (by kernel_rfl) ?_ _
          clear hHeld
          have HLY : Hid (Calls _ _ _ _ _) := hlay
          have HK9 : Hid (Keeps _ _ _ ∧ w1.heap.size ≤ G) := ⟨k9, hGl⟩
          clear hlay k9 hGl hrun hS5 hS6 hS9 hz9 hS4
          go_wp2_with fail
          refine HLY.out.mono ?_
          rintro e w7 ⟨rfl, hb7, hk7⟩
          have HF : Hid (Blk w7 G (wvs (lay xs p' (enc 1 n' d' (r.push m)))) 52 ∧ Keeps (fun _ => False) w1 w7 ∧ w1.heap.size ≤ G) := ⟨hb7, (HK9.out.1.trans hk7 fun b hb e => by have := HK9.out.2; omega), HK9.out.2⟩
          clear hb7 hk7 HLY HK9
          go_wp2
          go_returns
          refine ⟨G, M, ?_, .inr HF.out.2.2, ?_, HF.out.2.1⟩
          · rw [HQ.out.1, HQ.out.2.1]; rfl
          · rw [HQ.out.2.2]; exact HF.out.1
        · go_simp
          refine HCM.out.mono ?_
          rintro e w5 ⟨rfl, hb5, hk5⟩
          obtain ⟨hS5, hS6, a9, L9, c9, W9, hrun, hS9, hz9, t0, t1, t2, k9, hGl, n1, n2, n3, hlay⟩ := HAF.out w5 hb5 hk5
          clear hb5 hk5
          refine hK.out _ _ trivial (fun hHeld => ?_)
          simp only [Act.put, List.setIfInBounds_toArray, List.set_cons_zero, List.set_cons_succ]
          refine wpAnyH_ready (rs := [1, 4]) (by kernel_rfl) (by simp) ?_
          refine AllReadyH.cons (o := { dst := some 53, op := Op.load 43 (Operand.tmp 52), type := 43, pos := "ref.go:141", after := #[{ on := 0, ground := Ground.data }], guard := none }) rfl (fun Kq hK => ?_) (AllReadyH.cons (o := { dst := some 56, op := Op.buildSlice 43 1 #[(0, Operand.tmp 55)], type := 43, pos := "ref.go:141", after := #[{ on := 3, ground := Ground.data }], guard := none }) rfl (fun Kq hK => ?_) AllReadyH.nil)
          · go_simp
            refine hK.out _ _ trivial (fun hHeld => ?_)
            simp only [Act.put, List.setIfInBounds_toArray, List.set_cons_zero, List.set_cons_succ]
            refine wpAnyH_ready (rs := [4]) (by kernel_rfl) (by simp) ?_
            refine AllReadyH.cons (o := { dst := some 56, op := Op.buildSlice 43 1 #[(0, Operand.tmp 55)], type := 43, pos := "ref.go:141", after := #[{ on := 3, ground := Ground.data }], guard := none }) rfl (fun Kq hK => ?_) AllReadyH.nil
            go_simp
            refine hK.out _ _ trivial (fun hHeld => ?_)
            simp only [Act.put, List.setIfInBounds_toArray, List.set_cons_zero, List.set_cons_succ]
            refine wpAnyH_ready (rs := [5]) (by kernel_rfl) (by simp) ?_
            refine AllReadyH.cons (o := { dst := some 57, op := Op.call { callee := Callee.builtin Builtin.append, args := #[Operand.tmp 53, Operand.tmp 56], argTypes := #[43, 43] }, type := 43, pos := "ref.go:141", after := #[{ on := 1, ground := Ground.data }, { on := 4, ground := Ground.data }, { on := 3, ground := Ground.chain }], guard := none }) rfl (fun Kq hK => ?_) AllReadyH.nil
            rw [if_pos (by kernel_rfl)]
            refine opAppend_run _ _ 43 43 rfl (.slice a LL cc) (.slice (some ⟨w5.heap.size, 0, none⟩) 1 1) (.slice a9 L9 c9) W9 rfl rfl (hrun _) ?_
            refine hK.out _ _ trivial (fun hHeld => ?_)
            simp only [Act.put, List.setIfInBounds_toArray, List.set_cons_zero, List.set_cons_succ]
            refine wpAnyH_take (i := 6) (oi := { dst := some 58, op := Op.fieldAddr 92 (Operand.tmp 13) 1, type := 0, pos := "ref.go:141", after := #[{ on := 0, ground := Ground.phase }, { on := 1, ground := Ground.phase }, { on := 2, ground := Ground.phase }, { on := 3, ground := Ground.phase }, { on := 4, ground := Ground.phase }, { on := 5, ground := Ground.phase }], guard := none }) (v := .pointer (some ⟨T, 1, none⟩)) rfl (by kernel_rfl) (by kernel_rfl) (by kernel_rfl) (fun _ _ _ h => h) (Or.inl ⟨by kernel_rfl, by (intro w hSw; (try dsimp only at hSw); go_simp; try omega)⟩) hHeld ?_
            simp only [Act.put, List.setIfInBounds_toArray, List.set_cons_zero, List.set_cons_succ]
            refine wpAnyH_ready (rs := [7]) (by kernel_rfl) (by simp) ?_
            refine AllReadyH.cons (o := { dst := none, op := Op.store 43 (Operand.tmp 58) (Operand.tmp 57), type := 0, pos := "ref.go:141", after := #[{ on := 6, ground := Ground.data }, { on := 5, ground := Ground.data }, { on := 5, ground := Ground.chain }, { on := 0, ground := Ground.phase }, { on := 1, ground := Ground.phase }, { on := 2, ground := Ground.phase }, { on := 3, ground := Ground.phase }, { on := 4, ground := Ground.phase }, { on := 5, ground := Ground.phase }], guard := none }) rfl (fun Kq hK => ?_) AllReadyH.nil
            go_simp
            refine hK.out _ _ trivial (fun hHeld => ?_)
            simp only [Act.put, List.setIfInBounds_toArray, List.set_cons_zero, List.set_cons_succ]
            refine wpAnyH_done (by kernel_rfl) ?_ _
            clear hHeld
            have HLY : Hid (Calls _ _ _ _ _) := hlay
            have HK9 : Hid (Keeps _ _ _ ∧ w1.heap.size ≤ G) := ⟨k9, hGl⟩
            clear hlay k9 hGl hrun hS5 hS6 hS9 hz9 hS4
            go_wp2_with fail
            refine HLY.out.mono ?_
            rintro e w7 ⟨rfl, hb7, hk7⟩
            have HF : Hid (Blk w7 G (wvs (lay xs p' (enc 1 n' d' (r.push m)))) 52 ∧ Keeps (fun _ => False) w1 w7 ∧ w1.heap.size ≤ G) := ⟨hb7, (HK9.out.1.trans hk7 fun b hb e => by have := HK9.out.2; omega), HK9.out.2⟩
            clear hb7 hk7 HLY HK9
            go_wp2
            go_returns
            refine ⟨G, M, ?_, .inr HF.out.2.2, ?_, HF.out.2.1⟩
            · rw [HQ.out.1, HQ.out.2.1]; rfl
            · rw [HQ.out.2.2]; exact HF.out.1
          · go_simp
            refine hK.out _ _ trivial (fun hHeld => ?_)
            simp only [Act.put, List.setIfInBounds_toArray, List.set_cons_zero, List.set_cons_succ]
            refine wpAnyH_ready (rs := [1]) (by kernel_rfl) (by simp) ?_
            refine AllReadyH.cons (o := { dst := some 53, op := Op.load 43 (Operand.tmp 52), type := 43, pos := "ref.go:141", after := #[{ on := 0, ground := Ground.data }], guard := none }) rfl (fun Kq hK => ?_) AllReadyH.nil
            have hS6b := hS6
            rw [show w4.drew.heap.size = w4.heap.size from rfl] at hS6b
            go_simp
            refine hK.out _ _ trivial (fun hHeld => ?_)
            simp only [Act.put, List.setIfInBounds_toArray, List.set_cons_zero, List.set_cons_succ]
            clear hS6b
            refine wpAnyH_ready (rs := [5]) (by kernel_rfl) (by simp) ?_
            refine AllReadyH.cons (o := { dst := some 57, op := Op.call { callee := Callee.builtin Builtin.append, args := #[Operand.tmp 53, Operand.tmp 56], argTypes := #[43, 43] }, type := 43, pos := "ref.go:141", after := #[{ on := 1, ground := Ground.data }, { on := 4, ground := Ground.data }, { on := 3, ground := Ground.chain }], guard := none }) rfl (fun Kq hK => ?_) AllReadyH.nil
            rw [if_pos (by kernel_rfl)]
            refine opAppend_run _ _ 43 43 rfl (.slice a LL cc) (.slice (some ⟨w5.heap.size, 0, none⟩) 1 1) (.slice a9 L9 c9) W9 rfl rfl (hrun _) ?_
            refine hK.out _ _ trivial (fun hHeld => ?_)
            simp only [Act.put, List.setIfInBounds_toArray, List.set_cons_zero, List.set_cons_succ]
            refine wpAnyH_take (i := 6) (oi := { dst := some 58, op := Op.fieldAddr 92 (Operand.tmp 13) 1, type := 0, pos := "ref.go:141", after := #[{ on := 0, ground := Ground.phase }, { on := 1, ground := Ground.phase }, { on := 2, ground := Ground.phase }, { on := 3, ground := Ground.phase }, { on := 4, ground := Ground.phase }, { on := 5, ground := Ground.phase }], guard := none }) (v := .pointer (some ⟨T, 1, none⟩)) rfl (by kernel_rfl) (by kernel_rfl) (by kernel_rfl) (fun _ _ _ h => h) (Or.inl ⟨by kernel_rfl, by (intro w hSw; (try dsimp only at hSw); go_simp; try omega)⟩) hHeld ?_
            simp only [Act.put, List.setIfInBounds_toArray, List.set_cons_zero, List.set_cons_succ]
            refine wpAnyH_ready (rs := [7]) (by kernel_rfl) (by simp) ?_
            refine AllReadyH.cons (o := { dst := none, op := Op.store 43 (Operand.tmp 58) (Operand.tmp 57), type := 0, pos := "ref.go:141", after := #[{ on := 6, ground := Ground.data }, { on := 5, ground := Ground.data }, { on := 5, ground := Ground.chain }, { on := 0, ground := Ground.phase }, { on := 1, ground := Ground.phase }, { on := 2, ground := Ground.phase }, { on := 3, ground := Ground.phase }, { on := 4, ground := Ground.phase }, { on := 5, ground := Ground.phase }], guard := none }) rfl (fun Kq hK => ?_) AllReadyH.nil
            go_simp
            refine hK.out _ _ trivial (fun hHeld => ?_)
            simp only [Act.put, List.setIfInBounds_toArray, List.set_cons_zero, List.set_cons_succ]
            refine wpAnyH_done (by kernel_rfl) ?_ _
            clear hHeld
            have HLY : Hid (Calls _ _ _ _ _) := hlay
            have HK9 : Hid (Keeps _ _ _ ∧ w1.heap.size ≤ G) := ⟨k9, hGl⟩
            clear hlay k9 hGl hrun hS5 hS6 hS9 hz9 hS4
            go_wp2_with fail
            refine HLY.out.mono ?_
            rintro e w7 ⟨rfl, hb7, hk7⟩
            have HF : Hid (Blk w7 G (wvs (lay xs p' (enc 1 n' d' (r.push m)))) 52 ∧ Keeps (fun _ => False) w1 w7 ∧ w1.heap.size ≤ G) := ⟨hb7, (HK9.out.1.trans hk7 fun b hb e => by have := HK9.out.2; omega), HK9.out.2⟩
            clear hb7 hk7 HLY HK9
            go_wp2
            go_returns
            refine ⟨G, M, ?_, .inr HF.out.2.2, ?_, HF.out.2.1⟩
            · rw [HQ.out.1, HQ.out.2.1]; rfl
            · rw [HQ.out.2.2]; exact HF.out.1
    · have HQ : Hid (PB = false ∧ PX = xs ∧ Keeps (fun _ => False) w1 w2 ∧ Blk w2 D (wvs xs) 52) := ⟨(HR.out.2.2.2.2.2.2.2.2.2 hE).1, (HR.out.2.2.2.2.2.2.2.2.2 hE).2, hk, HB9.out.kept hk fun e => e⟩
      have hE9 : (E != 0) = true := bne_iff_ne.2 hE
      clear hE hk HC
      go_wp2
      go_returns
      refine ⟨D, c, ?_, .inl rfl, ?_, HQ.out.2.2.1.alloc _⟩
      · rw [HQ.out.1]; rfl
      · rw [HQ.out.2.1]; exact HQ.out.2.2.2.alloc _
  · rw [bnd_no hf] at hbn
    have HBn : Hid (Calls _ _ _ _ _) := hbn
    have hE : ptE false xs p n d m.length = 1 := by unfold ptE; rw [if_pos hf, fitE_one hf]
    obtain ⟨h1, h2⟩ := hno 1 hE (by decide)
    rw [hE, h1, h2]
    clear hno hbn hf hB hM hm hs hE h1 h2
    go_enter Try.func27, Try.ntmps27
    go_wp2_with fail
    refine HBn.out.mono ?_
    rintro e w1 ⟨rfl, rfl⟩
    go_wp2
    go_returns
    exact ⟨D, c, rfl, .inl rfl, HB9.out, Keeps.refl _ _⟩

end Go.Proofs.Ytekijhhpldnmnaa
