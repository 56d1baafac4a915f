import Derived.Test.YtbddahdbadkobaaDoorRh
import Derived.Test.YtbddahdbadkobaaDoorTr
namespace Go.Proofs.YtbddahdbadkobaaDoor
open Go.RowKit Go.Shelf
attribute [local go_sem] Oper.semAt_some
set_option linter.unusedVariables false
set_option linter.unusedSimpArgs false

theorem func_nil64 (f : Fn) (a b : Array Value) (w : World) : (binOp .eql 64 (.func f a b) .nilFunc).run Tryd.prog w = .ok (.bool false) w := by kernel_rfl

theorem things_kvP (P : List (Int × ByteArray)) : Things (kvP P) := fun p hp => by
  obtain ⟨q, hq, rfl⟩ := List.mem_map.1 hp
  exact ⟨q.2, rfl⟩

theorem results_cell_val {P : Program} {fn : Func} {p : Tmp} {ty : TypeId} (h : fn.results = #[.cell p ty]) (tmps : Array Value) (w : World) (g : Nat) (v : Value)
    (hp : tmps.getD p undef = .pointer (some ⟨g, 0, none⟩)) (hl : (loadVar ty ⟨g, 0, none⟩).run P w = .ok v w) : (results fn tmps).run P w = .ok v w := by
  have hp' : tmps[p]?.getD undef = .pointer (some ⟨g, 0, none⟩) := by simpa using hp
  simp [results, h, hp', asAddr, hl]

set_option maxRecDepth 20000 in
set_option maxHeartbeats 40000000 in
theorem all8_any (Z s b room : Nat) (P : List (Int × ByteArray)) (w : World) (h : Es Z (fun _ => False) w s b room P) :
    Calls Tryd.prog 8 #[.agg #[ptr s, ptr b]] w fun r w' => r = .returned (.bool true) ∧ Keeps (fun _ => False) w w' := by
  obtain ⟨X0, eX⟩ : ∃ X0, X0 = (w.alloc (.cells #[ptr s, ptr b] 32)).alloc (.cells #[.bool false] 4) := ⟨_, rfl⟩
  have hK0 : Keeps (fun _ => False) w X0 := by rw [eX]; exact ((Keeps.refl _ w).alloc _).alloc _
  have hA : Blk X0 w.heap.size [ptr s, ptr b] 32 := by rw [eX]; exact (Blk.new w _ 32).alloc _
  have hR : Blk X0 (w.heap.size + 1) [.bool false] 4 := by
    rw [eX]
    have := Blk.new (w.alloc (.cells #[ptr s, ptr b] 32)) #[.bool false] 4
    simpa using this
  have hz : X0.heap.size = w.heap.size + 1 + 1 := by rw [eX]; simp
  obtain ⟨A, eA⟩ : ∃ A, A = w.heap.size := ⟨_, rfl⟩
  obtain ⟨R, eR⟩ : ∃ R, R = w.heap.size + 1 := ⟨_, rfl⟩
  have HX : Hid ((w.alloc (.cells #[ptr s, ptr b] 32)).alloc (.cells #[.bool false] 4) = X0) := eX.symm
  have HAR : Hid (w.heap.size + 1 = R ∧ w.heap.size = A) := ⟨eR.symm, eA.symm⟩
  rw [← eA] at hA
  rw [← eR] at hR
  have a0 := hA.cell (i := 0) rfl
  have H0 : Hid ((Keeps (fun _ => False) w X0 ∧ Blk X0 A [ptr s, ptr b] 32 ∧ Blk X0 R [.bool false] 4) ∧ (X0.heap.size = R + 1 ∧ R = A + 1 ∧ A = w.heap.size) ∧ Es Z (fun _ => False) w s b room P) := ⟨⟨hK0, hA, hR⟩, ⟨by omega, by omega, eA⟩, h⟩
  clear h hK0 hA hR hz eA eR eX
  refine (callsIn_wide (n := 8)).1 ?_
  refine callsIn_of_wp_marks Tryd.func8 rfl trivial ?_ rfl
  refine wpIn_wide.2 ?_
  simp only [Tryd.ntmps8, List.size_toArray, List.length_cons, List.length_nil, Nat.reduceAdd, Nat.reduceSub, Array.replicate_succ, Array.replicate_zero, List.push_toArray, List.append_toArray, List.nil_append, List.cons_append]
  go_upto_region 1 with fail
  rw [HX.out, HAR.out.1, HAR.out.2]
  go_wp2_with fail
  refine (all_any (some ⟨s, 0, none⟩) _).mono ?_
  rintro e w7 ⟨rfl, hw7⟩
  obtain ⟨B1, hB1⟩ : ∃ B1, B1 = X0.heap.size := ⟨_, rfl⟩
  have hK7 : Keeps (fun _ => False) X0 w7 := by rw [hw7]; exact (Keeps.refl (fun _ => False) X0).alloc _
  have hb8 : Blk w7 B1 [ptr s] 23 := by rw [hw7, hB1]; exact Blk.new _ _ 23
  rw [← hB1]
  have hk7 : Keeps (fun _ => False) w w7 := H0.out.1.1.trans hK7 fun _ _ h => h
  have HS : Hid ((Keeps (fun _ => False) w w7 ∧ Blk w7 A [ptr s, ptr b] 32 ∧ Blk w7 R [.bool false] 4 ∧ Blk w7 B1 [ptr s] 23) ∧ Es Z (fun _ => False) w7 s b room P ∧ (A < w7.heap.size ∧ R < w7.heap.size ∧ A ≠ R ∧ w.heap.size ≤ A ∧ w.heap.size ≤ R)) :=
    ⟨⟨hk7, H0.out.1.2.1.kept hK7 fun h => h, H0.out.1.2.2.kept hK7 fun h => h, hb8⟩, H0.out.2.2.kept hk7, by have := H0.out.2.1; have := hK7.size; omega⟩
  have hfn := func_nil64 (.func 43) #[] #[.pointer (some ⟨B1, 0, none⟩)] w7
  clear hw7 hB1 hK7 hb8 hk7 H0 HX HAR a0
  go_wp2
  obtain ⟨Y0, hY0⟩ : ∃ Y0, Y0 = w7.alloc (.cells #[.int .i64 0] 3) := ⟨_, rfl⟩
  have hKx : Keeps (fun _ => False) w7 Y0 := by rw [hY0]; exact (Keeps.refl (fun _ => False) w7).alloc _
  have hBi : Blk Y0 w7.heap.size [.int .i64 0] 3 := by rw [hY0]; exact Blk.new w7 _ 3
  have hzx : Y0.heap.size = w7.heap.size + 1 := by rw [hY0]; simp
  rw [← hY0]
  obtain ⟨Ib, hIb⟩ : ∃ Ib, Ib = w7.heap.size := ⟨_, rfl⟩
  rw [← hIb] at hBi ⊢
  have HX : Hid (Keeps (fun _ => False) w7 Y0 ∧ Blk Y0 Ib [.int .i64 0] 3 ∧ Y0.heap.size = Ib + 1 ∧ Ib = w7.heap.size) := ⟨hKx, hBi, by omega, hIb⟩
  clear hKx hBi hzx hY0 hfn hIb
  have Hold : Hid (∀ X, Keeps (· = Ib) Y0 X → Keeps (fun _ => False) w7 X) := fun X hK => HX.out.1.trans hK fun b hb he => by have := HX.out.2.2.2; omega
  have hlen : P.length ≤ 4096 := by
    obtain ⟨F, G, hB⟩ := HS.out.2.1
    obtain ⟨u, v, hr⟩ := hB.rf
    have h1 := hr.fits; have h2 := hr.hi
    simp [ksP] at h1; omega
  refine (wpIn_wide (n := 8)).1 ?_
  refine range_list rfl (by omega) (gf := 43) (lb := #[.pointer (some ⟨B1, 0, none⟩)]) rfl trivial (enters_of Tryd.func43 (by kernel_rfl) rfl) (all_lists 7 B1 s room (kvP P) (things_kvP P))
    (fun X hK => ?good) (fun _ => rfl) (fun g i X => g < X.heap.size ∧ Keeps (· = Ib) Y0 X ∧ Blk X Ib [.int .i64 (i : Nat)] 3) (fun _ _ => False)
    (fun g i X X' hK h => ⟨Nat.lt_of_lt_of_le h.1 hK.size, h.2.1.trans hK fun b hb he => by omega, h.2.2.kept hK fun he => by have := HX.out.2.2; omega⟩) (fun _ _ _ _ h => h)
    (fun g X hK hg1 hg2 => ⟨hg2, hK.mono fun _ _ h => h.elim, by simpa using HX.out.2.1.kept hK fun h => h⟩) ?body ?done ?stop
  case good =>
    have hK' := Hold.out X (hK.mono fun _ _ h => h.elim)
    obtain ⟨F, G, hB⟩ := HS.out.2.1.kept hK'
    exact ⟨(HS.out.1.2.2.2.kept hK' fun h => h).cell rfl, F, hB.sf⟩
  case stop =>
    rintro c W h _
    exact h.elim
  case body =>
    intro l g i x X hx hC hgB
    have hil : i < P.length := by have := (List.getElem?_eq_some_iff.1 hx).1; simp [kvP] at this; exact this
    obtain ⟨p, hp⟩ : ∃ p, P[i]? = some p := ⟨_, List.getElem?_eq_getElem hil⟩
    obtain rfl : x = (p.1, .string p.2) := by
      have : (kvP P)[i]? = some (p.1, .string p.2) := by simp [kvP, hp]
      rw [this] at hx; exact (Option.some.inj hx).symm
    unfold encA
    gi_wp2
    refine ⟨trivial, ?_⟩
    intro X2 hlt hC2
    have hKW := Hold.out X2 hC2.2.1
    obtain ⟨F, G, hB⟩ := HS.out.2.1.kept hKW
    obtain ⟨u, v, hr⟩ := hB.rf
    obtain ⟨ka, kc, rfl, hkc⟩ := owns_slice hr.kr
    obtain ⟨va, vc, rfl, hvc⟩ := owns_slice hr.vr
    have hpk : (ksP P)[i]? = some (tx p.1) := by simp [ksP, hp]
    have hpv : (vsP P)[i]? = some p.2 := by simp [vsP, hp]
    obtain ⟨g1, rfl, hg1⟩ := hkc i _ (sv_get hpk)
    obtain ⟨g2, rfl, hg2⟩ := hvc i _ (sv_get hpv)
    have hki : I64 p.1 := sf_key_ok hB.sf (p.1, .string p.2) (List.mem_map.2 ⟨p, List.mem_of_getElem? hp, rfl⟩)
    have hlk : (ksP P).length = P.length ∧ (vsP P).length = P.length := by simp [ksP, vsP]
    obtain ⟨L, eL⟩ : ∃ L, L = P.length := ⟨_, rfl⟩
    have c1 := hr.blk.cell (i := 1) rfl
    have c2 := hr.blk.cell (i := 2) rfl
    rw [hlk.1, ← eL] at c1
    rw [hlk.2, ← eL] at c2
    have cA := (HS.out.1.2.1.kept hKW fun h => h).cell (i := 1) rfl
    have cI := hC2.2.2.cell (i := 0) rfl
    have hiL : (i : Int) < L := by omega
    have hib : (i : Int) ≤ 4096 := by omega
    obtain ⟨q1, q2⟩ := p
    dsimp only at hg1 hg2 hki ⊢
    have HKey : Hid (∀ W, Keeps (fun _ => False) X2 W → Calls Tryd.prog 20 #[.int .i64 q1] W fun r w' => r = .returned (.string (tx q1)) ∧ Keeps (fun _ => False) W w') := fun W hK => key_any q1 W hki (hB.tb.kept hK fun h => h)
    have HC : Hid (∀ W, Keeps (fun _ => False) X2 W → (W.cell? ⟨Ib, 0, none⟩ = some (.int .i64 (i : Nat)) ∧ W.frozen? ⟨Ib, 0, none⟩ = false ∧ W.cell? ⟨A, 1, none⟩ = some (ptr b) ∧ W.cell? ⟨b, 1, none⟩ = some (.slice (some ⟨g1, 0, none⟩) L kc) ∧ W.cell? ⟨b, 2, none⟩ = some (.slice (some ⟨g2, 0, none⟩) L vc) ∧ W.cell? ⟨g1, i, none⟩ = some (.string (tx q1)) ∧ W.cell? ⟨g2, i, none⟩ = some (.string q2))) := fun W hK =>
      ⟨ckept cI hK fun h => h, (hC2.2.2.kept hK fun h => h).frozen 0, ckept cA hK fun h => h, ckept c1 hK fun h => h, ckept c2 hK fun h => h, ckept hg1 hK fun h => h, ckept hg2 hK fun h => h⟩
    have HFin : Hid (∀ W, Keeps (fun _ => False) X2 W → KeptAt Y0.heap.size g X2 (W.setCell ⟨Ib, 0, none⟩ (.int .i64 ((i : Int) + 1))) ∧ g < (W.setCell ⟨Ib, 0, none⟩ (.int .i64 ((i : Int) + 1))).heap.size ∧ Keeps (· = Ib) Y0 (W.setCell ⟨Ib, 0, none⟩ (.int .i64 ((i : Int) + 1))) ∧ Blk (W.setCell ⟨Ib, 0, none⟩ (.int .i64 ((i : Int) + 1))) Ib [.int .i64 ((i + 1 : Nat) : Int)] 3) := fun W hK => by
      have hz := HX.out.2.2
      have hs := hK.size
      have hC3 := hC2
      have hks : Keeps (· = Ib) X2 (W.setCell ⟨Ib, 0, none⟩ (.int .i64 ((i : Int) + 1))) := (hK.mono fun _ _ h => h.elim).trans ((Keeps.refl (· = Ib) W).setCell _ _ fun _ => rfl) fun _ _ e => e
      refine ⟨⟨hks.block _ (by omega) (by omega), hks.block _ (by omega) (by omega), hks.block g hC3.1 (by omega)⟩, Nat.lt_of_lt_of_le hC3.1 hks.size, hC3.2.1.trans hks fun _ _ e => e, ?_⟩
      have := (hC3.2.2.kept hK fun h => h).setCell 0 (.int .i64 ((i : Int) + 1))
      rw [show (((i + 1 : Nat)) : Int) = (i : Int) + 1 by omega]
      exact this
    have c0 := cI
    clear hC hC2 hKW hB hr hkc hvc hpk hpv hx hp hil hki hlk eL hlt hgB hlen HS HX Hold cI
    have hmix : Tryd.prog.follows Departure.mixedOrders = true := by kernel_rfl
    gi_wp2_with fail
    have hS0 : (fun w' : World => w'.cell? ⟨Ib, 0, none⟩ = some (.int .i64 (i : Nat)) ∧ w'.frozen? ⟨Ib, 0, none⟩ = false ∧ w'.cell? ⟨A, 1, none⟩ = some (ptr b) ∧ w'.cell? ⟨b, 1, none⟩ = some (.slice (some ⟨g1, 0, none⟩) L kc) ∧ w'.cell? ⟨b, 2, none⟩ = some (.slice (some ⟨g2, 0, none⟩) L vc) ∧ w'.cell? ⟨g1, i, none⟩ = some (.string (tx q1)) ∧ w'.cell? ⟨g2, i, none⟩ = some (.string q2)) X2.drew := HC.out _ ((Keeps.refl (fun _ => False) X2).drew)
    have HKd : Hid (Calls _ _ _ _ _) := HKey.out _ ((Keeps.refl (fun _ => False) X2).drew)
    refine region_inRound Tryd.mixed (noDefer_of (by kernel_rfl)) ?nq (fun w' => w'.cell? ⟨Ib, 0, none⟩ = some (.int .i64 (i : Nat)) ∧ w'.frozen? ⟨Ib, 0, none⟩ = false ∧ w'.cell? ⟨A, 1, none⟩ = some (ptr b) ∧ w'.cell? ⟨b, 1, none⟩ = some (.slice (some ⟨g1, 0, none⟩) L kc) ∧ w'.cell? ⟨b, 2, none⟩ = some (.slice (some ⟨g2, 0, none⟩) L vc) ∧ w'.cell? ⟨g1, i, none⟩ = some (.string (tx q1)) ∧ w'.cell? ⟨g2, i, none⟩ = some (.string q2)) hS0 (fun hHeld => ?_)
    case nq =>
      rintro ⟨a, w, h⟩
      exact h
    simp only [List.size_toArray, List.length_cons, List.length_nil, Nat.reduceAdd, Array.replicate_succ, Array.replicate_zero, List.push_toArray, List.append_toArray, List.nil_append, List.cons_append]
    refine tk 0 (.int .i64 (i : Nat)) hHeld ?_
    simp only [Act.put, List.setIfInBounds_toArray, List.set_cons_zero, List.set_cons_succ]
    refine tk 1 (.pointer (some ⟨A, 1, none⟩)) hHeld ?_
    simp only [Act.put, List.setIfInBounds_toArray, List.set_cons_zero, List.set_cons_succ]
    refine tk 2 (ptr b) hHeld ?_
    simp only [Act.put, List.setIfInBounds_toArray, List.set_cons_zero, List.set_cons_succ]
    refine tk 3 (ptr b) hHeld ?_
    simp only [Act.put, List.setIfInBounds_toArray, List.set_cons_zero, List.set_cons_succ]
    refine tk 4 (.pointer (some ⟨b, 1, none⟩)) hHeld ?_
    simp only [Act.put, List.setIfInBounds_toArray, List.set_cons_zero, List.set_cons_succ]
    refine tk 5 (.slice (some ⟨g1, 0, none⟩) L kc) hHeld ?_
    simp only [Act.put, List.setIfInBounds_toArray, List.set_cons_zero, List.set_cons_succ]
    refine tk 6 (.int .i64 (L : Nat)) hHeld ?_
    simp only [Act.put, List.setIfInBounds_toArray, List.set_cons_zero, List.set_cons_succ]
    refine tk 7 (.bool false) hHeld ?_
    simp only [Act.put, List.setIfInBounds_toArray, List.set_cons_zero, List.set_cons_succ]
    refine tk 8 (.bool false) hHeld ?_
    simp only [Act.put, List.setIfInBounds_toArray, List.set_cons_zero, List.set_cons_succ]
    refine tk 9 (.int .i64 q1) hHeld ?_
    simp only [Act.put, List.setIfInBounds_toArray, List.set_cons_zero, List.set_cons_succ]
    refine tk 11 (.pointer (some ⟨A, 1, none⟩)) hHeld ?_
    simp only [Act.put, List.setIfInBounds_toArray, List.set_cons_zero, List.set_cons_succ]
    refine tk 12 (ptr b) hHeld ?_
    simp only [Act.put, List.setIfInBounds_toArray, List.set_cons_zero, List.set_cons_succ]
    refine tk 13 (ptr b) hHeld ?_
    simp only [Act.put, List.setIfInBounds_toArray, List.set_cons_zero, List.set_cons_succ]
    refine tk 14 (.pointer (some ⟨b, 1, none⟩)) hHeld ?_
    simp only [Act.put, List.setIfInBounds_toArray, List.set_cons_zero, List.set_cons_succ]
    refine tk 15 (.slice (some ⟨g1, 0, none⟩) L kc) hHeld ?_
    simp only [Act.put, List.setIfInBounds_toArray, List.set_cons_zero, List.set_cons_succ]
    refine tk 16 (.int .i64 (i : Nat)) hHeld ?_
    simp only [Act.put, List.setIfInBounds_toArray, List.set_cons_zero, List.set_cons_succ]
    refine tk 17 (.pointer (some ⟨g1, i, none⟩)) hHeld ?_
    simp only [Act.put, List.setIfInBounds_toArray, List.set_cons_zero, List.set_cons_succ]
    refine tk 18 (.string (tx q1)) hHeld ?_
    simp only [Act.put, List.setIfInBounds_toArray, List.set_cons_zero, List.set_cons_succ]
    refine wpAnyH_ready (rs := [10]) (by kernel_rfl) (by simp) ?_
    refine AllReadyH.cons rfl (fun Kq hK => ?_) AllReadyH.nil
    go_simp
    refine HKd.out.mono ?_
    rintro e X3 ⟨rfl, hK3'⟩
    have hK3 : Keeps (fun _ => False) X2 X3 := ((Keeps.refl (fun _ => False) X2).drew).trans hK3' fun _ _ h => h
    have hS3 := HC.out X3 hK3
    have HE3 : Hid _ := HFin.out X3 hK3
    clear hK3' HFin
    refine hK.out _ _ hS3 (fun hHeld => ?_)
    simp only [Act.put, List.setIfInBounds_toArray, List.set_cons_zero, List.set_cons_succ]
    refine tk 19 (.bool false) hHeld ?_
    simp only [Act.put, List.setIfInBounds_toArray, List.set_cons_zero, List.set_cons_succ]
    refine tk 20 (.bool false) hHeld ?_
    simp only [Act.put, List.setIfInBounds_toArray, List.set_cons_zero, List.set_cons_succ]
    refine tk 21 (.bool false) hHeld ?_
    simp only [Act.put, List.setIfInBounds_toArray, List.set_cons_zero, List.set_cons_succ]
    refine tk 22 (.string q2) hHeld ?_
    simp only [Act.put, List.setIfInBounds_toArray, List.set_cons_zero, List.set_cons_succ]
    refine tk 23 (.pointer (some ⟨A, 1, none⟩)) hHeld ?_
    simp only [Act.put, List.setIfInBounds_toArray, List.set_cons_zero, List.set_cons_succ]
    refine tk 24 (ptr b) hHeld ?_
    simp only [Act.put, List.setIfInBounds_toArray, List.set_cons_zero, List.set_cons_succ]
    refine tk 25 (ptr b) hHeld ?_
    simp only [Act.put, List.setIfInBounds_toArray, List.set_cons_zero, List.set_cons_succ]
    refine tk 26 (.pointer (some ⟨b, 2, none⟩)) hHeld ?_
    simp only [Act.put, List.setIfInBounds_toArray, List.set_cons_zero, List.set_cons_succ]
    refine tk 27 (.slice (some ⟨g2, 0, none⟩) L vc) hHeld ?_
    simp only [Act.put, List.setIfInBounds_toArray, List.set_cons_zero, List.set_cons_succ]
    refine tk 28 (.int .i64 (i : Nat)) hHeld ?_
    simp only [Act.put, List.setIfInBounds_toArray, List.set_cons_zero, List.set_cons_succ]
    refine tk 29 (.pointer (some ⟨g2, i, none⟩)) hHeld ?_
    simp only [Act.put, List.setIfInBounds_toArray, List.set_cons_zero, List.set_cons_succ]
    refine tk 30 (.string q2) hHeld ?_
    simp only [Act.put, List.setIfInBounds_toArray, List.set_cons_zero, List.set_cons_succ]
    refine tk 31 (.bool false) hHeld ?_
    simp only [Act.put, List.setIfInBounds_toArray, List.set_cons_zero, List.set_cons_succ]
    refine tk 32 (.bool false) hHeld ?_
    simp only [Act.put, List.setIfInBounds_toArray, List.set_cons_zero, List.set_cons_succ]
    refine wpAnyH_done (by kernel_rfl) ?_ _
    clear hHeld
    obtain ⟨x1, x2, x3, x4, x5, x6, x7⟩ := hS3
    gi_wp2
    exact HE3.out
  case done =>
    intro g X hC hD
    have hKW := Hold.out X hC.2.1
    obtain ⟨F, G, hB⟩ := HS.out.2.1.kept hKW
    obtain ⟨u, v, hr⟩ := hB.rf
    obtain ⟨ka, kc, rfl, _⟩ := owns_slice hr.kr
    have hlk : (ksP P).length = P.length ∧ (kvP P).length = P.length := by simp [ksP, kvP]
    obtain ⟨L, eL⟩ : ∃ L, L = P.length := ⟨_, rfl⟩
    have c1 := hr.blk.cell (i := 1) rfl
    rw [hlk.1, ← eL] at c1
    have cA := (HS.out.1.2.1.kept hKW fun h => h).cell (i := 1) rfl
    have cI := hC.2.2.cell (i := 0) rfl
    rw [hlk.2, ← eL] at cI
    have hR := HS.out.1.2.2.1.kept hKW fun h => h
    have cR := hR.cell (i := 0) rfl
    have fR := hR.frozen 0
    have HZ : Hid (Blk X R [.bool false] 4 ∧ Keeps (fun _ => False) w X ∧ X.heap[Y0.heap.size]? = some (.deferred (some [])) ∧ (R < Y0.heap.size ∧ w.heap.size ≤ R ∧ w.heap.size ≤ Y0.heap.size)) := by
      have h1 := HS.out.2.2; have h2 := HX.out.2.2
      have h3 := HS.out.1.1.size
      exact ⟨hR, HS.out.1.1.trans hKW fun _ _ h => h, hD, by omega⟩
    clear hC hD hKW hB hr hlk eL hR HS HX Hold hlen
    gi_wp2
    go_wp2
    go_region
    go_wp2
    obtain ⟨hR, hKw, hD, hz⟩ := HZ.out
    have hKs : Keeps (· = R) X (X.setCell ⟨R, 0, none⟩ (.bool true)).drew := ((Keeps.refl (· = R) X).setCell ⟨R, 0, none⟩ (.bool true) fun _ => rfl).drew
    have d1 : (X.setCell ⟨R, 0, none⟩ (.bool true)).drew.heap[Y0.heap.size]? = some (.deferred (some [])) := (hKs.block _ (Array.getElem?_eq_some_iff.1 hD).1 (by omega)).trans hD
    have hr := (hR.setCell 0 (.bool true)).kept ((Keeps.refl (fun _ => False) (X.setCell ⟨R, 0, none⟩ (.bool true))).drew) fun h => h
    revert hKs d1 hr
    generalize (X.setCell ⟨R, 0, none⟩ (.bool true)).drew = WF
    intro hKs d1 hr
    have hKf : Keeps (· = Y0.heap.size) WF (WF.putObj Y0.heap.size (.deferred none)) := ⟨rfl, rfl, rfl, by simp, fun k _ hn => World.putObj_heap_other hn⟩
    have hrf := (hr.kept hKf (by omega)).cell (i := 0) rfl
    refine ⟨by simp, .inl ⟨_, _, rfl, run_takeDeferred d1, ?_⟩⟩
    refine ⟨.bool true, results_cell_val rfl _ _ R (.bool true) rfl (by simp [go_sem, hrf]), rfl, ?_⟩
    exact (hKw.trans hKs fun k hk e => by omega).trans hKf fun k hk e => by omega

end Go.Proofs.YtbddahdbadkobaaDoor
