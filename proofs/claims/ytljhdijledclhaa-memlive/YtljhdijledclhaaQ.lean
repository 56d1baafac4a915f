import Derived.Test.YtljhdijledclhaaP
namespace Go.Proofs.Ytljhdijledclhaa
open Go.RowKit Go.Shelf
attribute [local go_sem] Oper.semAt_some func_nil57 func_nil58
set_option linter.unusedVariables false

theorem Tw.lt {W : World} {T a ga b gb gx gy : Nat} {xs ys : List UInt32} (h : Tw W T a ga b gb gx gy xs ys) : T < W.heap.size ∧ a < W.heap.size ∧ ga < W.heap.size ∧ b < W.heap.size ∧ gb < W.heap.size ∧ gx < W.heap.size ∧ gy < W.heap.size :=
  ⟨h.t.lt, h.ma.lt.1, h.ma.lt.2, h.mb.lt.1, h.mb.lt.2, h.x.lt, h.y.lt⟩

theorem WorksAt.kept {w w' : World} {a : Option Addr} {ds : List WorkD} (h : WorksAt w a ds) (hK : Keeps (fun _ => False) w w') : WorksAt w' a ds := by
  rcases h with h | ⟨B, o, ha, hc⟩
  · exact .inl h
  · exact .inr ⟨B, o, ha, fun j hj => ⟨cell_kept' (hc j hj).1 hK fun e => e, cell_kept' (hc j hj).2.1 hK fun e => e, cell_kept' (hc j hj).2.2 hK fun e => e⟩⟩

theorem keeps_two {w w' : World} {A B : Obj} (h : w' = (w.drew.alloc A).alloc B) : Keeps (fun _ => False) w w' := by
  rw [h]; exact ((Keeps.refl _ w).drew.alloc _).alloc _

set_option maxRecDepth 20000 in
set_option maxHeartbeats 8000000 in
theorem live_main (c1 c2 wa : Option Addr) (d1 d2 cap : Nat) (us vs : List UInt32) (ds : List WorkD) (w : World) (hu : SegW w c1 us) (hv : SegW w c2 vs) (hul : us.length ≤ maxLen) (hvl : vs.length ≤ maxLen)
    (hw : WorksAt w wa ds) (hf : ∀ d ∈ ds, d.p ≤ 9223372036854775807) (hm : ds.length ≤ maxLen) :
    Calls Try.prog 6 #[.slice c1 us.length d1, .slice c2 vs.length d2, .slice wa ds.length cap] w fun e w' => e = .returned (.bool true) ∧ Keeps (fun _ => False) w w' := by
  obtain ⟨m, hmm⟩ : ∃ m, m = ds.length := ⟨_, rfl⟩
  have HMM : Hid (m = ds.length) := hmm
  have hm1 : (m : Int) ≤ 9223372036854775807 := by unfold maxLen at hm; omega
  have HWk : Hid (WorksAt w wa ds ∧ (∀ d ∈ ds, d.p ≤ 9223372036854775807) ∧ ds.length ≤ maxLen) := ⟨hw, hf, hm⟩
  have hK1 : Keeps (fun _ => False) w (w.alloc (.cells #[.pointer none, .pointer none, .slice none 0 0, .slice none 0 0] 67)) := (Keeps.refl _ w).alloc _
  have HM1 : Hid (Calls _ _ _ (w.alloc (.cells #[.pointer none, .pointer none, .slice none 0 0, .slice none 0 0] 67)) _) := made_any c1 d1 us _ (hu.kept hK1 fun _ _ e => e) hul
  have HV : Hid (SegW w c2 vs ∧ vs.length ≤ maxLen) := ⟨hv, hvl⟩
  have hT1 := Blk.new w #[.pointer none, .pointer none, .slice none 0 0, .slice none 0 0] 67
  obtain ⟨n1, hn1⟩ : ∃ n, n = us.length := ⟨_, rfl⟩
  obtain ⟨n2, hn2⟩ : ∃ n, n = vs.length := ⟨_, rfl⟩
  have HN2 : Hid (n2 = vs.length) := hn2
  rw [← hn1] at HM1
  rw [← hmm, ← hn1, ← hn2]
  have hsz1 : (w.alloc (.cells #[.pointer none, .pointer none, .slice none 0 0, .slice none 0 0] 67)).heap.size = w.heap.size + 1 := by simp
  clear hmm hw hf hm hu hv hul hvl hn1 hn2
  go_enter Try.func6, Try.ntmps6
  go_wp2_with fail
  refine HM1.out.mono ?_
  rintro e w2 ⟨a, ga, xs, hga, ha, rfl, hx48, hMa, hBx, hK2⟩
  obtain ⟨T, hT⟩ : ∃ T, T = w.heap.size := ⟨_, rfl⟩
  rw [hsz1] at hga hBx ⊢
  rw [← hT] at hT1 hga hBx ⊢
  obtain ⟨gx, hgx⟩ : ∃ g, g = T + 1 := ⟨_, rfl⟩
  rw [← hgx] at hga hBx ⊢
  have hT2 := hT1.kept hK2 fun e => e
  have z0 := hT2.frozen 0
  have z1 := hT2.frozen 1
  have z2 := hT2.frozen 2
  have z3 := hT2.frozen 3
  have e0 := hT2.cell (i := 0) rfl
  have e2 := hT2.cell (i := 2) rfl
  obtain ⟨L, hL⟩ : ∃ L, L = xs.length := ⟨_, rfl⟩
  rw [← hL]
  have hKs : Keeps (· = T) w2 ((w2.setCell ⟨T, 0, none⟩ (.pointer (some ⟨a, 0, none⟩))).setCell ⟨T, 2, none⟩ (.slice (some ⟨gx, 0, none⟩) L L)) :=
    ((Keeps.refl (· = T) w2).setCell ⟨T, 0, none⟩ _ fun _ => rfl).setCell ⟨T, 2, none⟩ _ fun _ => rfl
  have hT3 := (hT2.setCell 0 (.pointer (some ⟨a, 0, none⟩))).setCell 2 (.slice (some ⟨gx, 0, none⟩) L L)
  have hKw3 : Keeps (fun _ => False) w ((w2.setCell ⟨T, 0, none⟩ (.pointer (some ⟨a, 0, none⟩))).setCell ⟨T, 2, none⟩ (.slice (some ⟨gx, 0, none⟩) L L)) := (hK1.trans hK2 fun _ _ e => e).trans hKs fun k hk e => by omega
  have H3 : Hid (Blk ((w2.setCell ⟨T, 0, none⟩ (.pointer (some ⟨a, 0, none⟩))).setCell ⟨T, 2, none⟩ (.slice (some ⟨gx, 0, none⟩) L L)) T [.pointer (some ⟨a, 0, none⟩), .pointer none, .slice (some ⟨gx, 0, none⟩) L L, .slice none 0 0] 67 ∧
      Mm ((w2.setCell ⟨T, 0, none⟩ (.pointer (some ⟨a, 0, none⟩))).setCell ⟨T, 2, none⟩ (.slice (some ⟨gx, 0, none⟩) L L)) a ga xs ∧ Blk ((w2.setCell ⟨T, 0, none⟩ (.pointer (some ⟨a, 0, none⟩))).setCell ⟨T, 2, none⟩ (.slice (some ⟨gx, 0, none⟩) L L)) gx (wvs xs) 26 ∧
      Keeps (fun _ => False) w ((w2.setCell ⟨T, 0, none⟩ (.pointer (some ⟨a, 0, none⟩))).setCell ⟨T, 2, none⟩ (.slice (some ⟨gx, 0, none⟩) L L))) :=
    ⟨hT3, hMa.kept hKs (by omega) (by omega), hBx.kept hKs (by omega), hKw3⟩
  have HO1 : Hid (T = w.heap.size ∧ gx = T + 1 ∧ gx < ga ∧ ga < a ∧ L = xs.length ∧ L ≤ 48) := ⟨hT, hgx, hga, ha, hL, by omega⟩
  have HM2 : Hid (Calls _ _ _ ((w2.setCell ⟨T, 0, none⟩ (.pointer (some ⟨a, 0, none⟩))).setCell ⟨T, 2, none⟩ (.slice (some ⟨gx, 0, none⟩) L L)) _) := made_any c2 d2 vs _ (HV.out.1.kept hKw3 fun _ _ e => e) HV.out.2
  rw [← HN2.out] at HM2
  clear hT1 hK1 hK2 hMa hBx hKs hT3 hKw3 hT hgx hga ha hL hx48 hsz1 hT2 HM1 HV
  go_wp2_with fail
  revert HM2 H3
  generalize (w2.setCell ⟨T, 0, none⟩ (.pointer (some ⟨a, 0, none⟩))).setCell ⟨T, 2, none⟩ (.slice (some ⟨gx, 0, none⟩) L L) = w3
  intro H3 HM2
  refine HM2.out.mono ?_
  rintro e w4 ⟨b, gb, ys, hgb, hb, rfl, hy48, hMb, hBy, hK4⟩
  obtain ⟨gy, hgy⟩ : ∃ g, g = w3.heap.size := ⟨_, rfl⟩
  rw [← hgy] at hgb hBy ⊢
  obtain ⟨M, hM⟩ : ∃ M, M = ys.length := ⟨_, rfl⟩
  rw [← hM]
  have hT4 := H3.out.1.kept hK4 fun e => e
  clear z0 z1 z2 z3 e0 e2
  have z1 := hT4.frozen 1
  have z3 := hT4.frozen 3
  have e1 := hT4.cell (i := 1) rfl
  have e3 := hT4.cell (i := 3) rfl
  have hKs : Keeps (· = T) w4 ((w4.setCell ⟨T, 1, none⟩ (.pointer (some ⟨b, 0, none⟩))).setCell ⟨T, 3, none⟩ (.slice (some ⟨gy, 0, none⟩) M M)) :=
    ((Keeps.refl (· = T) w4).setCell ⟨T, 1, none⟩ _ fun _ => rfl).setCell ⟨T, 3, none⟩ _ fun _ => rfl
  have hT5 := (hT4.setCell 1 (.pointer (some ⟨b, 0, none⟩))).setCell 3 (.slice (some ⟨gy, 0, none⟩) M M)
  have hal := H3.out.2.1.lt
  have hglt := H3.out.2.2.1.lt
  have H5 : Hid (Tw ((w4.setCell ⟨T, 1, none⟩ (.pointer (some ⟨b, 0, none⟩))).setCell ⟨T, 3, none⟩ (.slice (some ⟨gy, 0, none⟩) M M)) T a ga b gb gx gy xs ys ∧ Keeps (fun _ => False) w ((w4.setCell ⟨T, 1, none⟩ (.pointer (some ⟨b, 0, none⟩))).setCell ⟨T, 3, none⟩ (.slice (some ⟨gy, 0, none⟩) M M))) := by
    have ho := HO1.out
    refine ⟨⟨?_, (H3.out.2.1.kept hK4 (fun e => e) (fun e => e)).kept hKs (by omega) (by omega), hMb.kept hKs (by omega) (by omega), (H3.out.2.2.1.kept hK4 fun e => e).kept hKs (by omega), hBy.kept hKs (by omega)⟩, (H3.out.2.2.2.trans hK4 fun _ _ e => e).trans hKs fun k hk e => by omega⟩
    rw [← ho.2.2.2.2.1, ← hM]; exact hT5
  have HFar : Hid (Far T a ga b gb gx gy ∧ ∀ k, Hot ga gb gx gy k → w.heap.size ≤ k) := by
    have ho := HO1.out
    refine ⟨⟨?_, ?_, ?_, ?_, ?_, ?_, ?_, ?_, ?_⟩, fun k e => ?_⟩
    all_goals (try unfold Hot at *)
    all_goals omega
  have HLM : Hid (xs.length = L ∧ ys.length = M) := ⟨HO1.out.2.2.2.2.1.symm, hM.symm⟩
  have f0 := hT5.cell (i := 0) rfl
  have f1 := hT5.cell (i := 1) rfl
  clear hT4 hKs hT5 hal hglt hgy hgb hb hM hy48 hMb hBy hK4 HM2 H3
  go_wp2
  revert H5 f0 f1
  generalize (w4.setCell ⟨T, 1, none⟩ (.pointer (some ⟨b, 0, none⟩))).setCell ⟨T, 3, none⟩ (.slice (some ⟨gy, 0, none⟩) M M) = w5
  intro H5 f0 f1
  clear z1 z3 e1 e3
  go_region_held3 (fun w' => w'.cell? ⟨T, 0, none⟩ = some (.pointer (some ⟨a, 0, none⟩)) ∧ w'.cell? ⟨T, 1, none⟩ = some (.pointer (some ⟨b, 0, none⟩))) (first | exact hS | go_keep)
    (first | (go_at_call 22; refine (differ_any (some ⟨a, 0, none⟩) (some ⟨b, 0, none⟩) _).mono ?_; rintro e w6 ⟨rfl, hw6⟩; have hK6 := keeps_two hw6; have hS : w6.cell? ⟨T, 0, none⟩ = some (.pointer (some ⟨a, 0, none⟩)) ∧ w6.cell? ⟨T, 1, none⟩ = some (.pointer (some ⟨b, 0, none⟩)) := ⟨cell_kept' f0 hK6 fun e => e, cell_kept' f1 hK6 fun e => e⟩))
  have hB1 : Blk w6 w5.heap.size [.pointer (some ⟨a, 0, none⟩)] 42 := by rw [hw6]; exact (Blk.new w5.drew _ 42).alloc _
  have hB2 : Blk w6 (w5.heap.size + 1) [.pointer (some ⟨b, 0, none⟩)] 42 := by
    have := Blk.new (w5.drew.alloc (.cells #[.pointer (some ⟨a, 0, none⟩)] 42)) #[.pointer (some ⟨b, 0, none⟩)] 42
    rw [World.size_alloc] at this
    rw [hw6]; exact this
  obtain ⟨B1, hB1e⟩ : ∃ B, B = w5.heap.size := ⟨_, rfl⟩
  obtain ⟨B2, hB2e⟩ : ∃ B, B = w5.heap.size + 1 := ⟨_, rfl⟩
  have hlt5 := H5.out.1.lt
  have HNh : Hid (¬ Hot ga gb gx gy B1 ∧ ¬ Hot ga gb gx gy B2) := by
    show ¬ Hot ga gb gx gy B1 ∧ ¬ Hot ga gb gx gy B2
    unfold Hot
    constructor <;> omega
  rw [← hB2e] at hB2 ⊢
  rw [← hB1e] at hB1 ⊢
  have H6 : Hid (Tw w6 T a ga b gb gx gy xs ys ∧ Keeps (fun _ => False) w w6 ∧ w6.cell? ⟨B1, 0, none⟩ = some (.pointer (some ⟨a, 0, none⟩)) ∧ w6.cell? ⟨B2, 0, none⟩ = some (.pointer (some ⟨b, 0, none⟩))) :=
    ⟨H5.out.1.grown hK6, H5.out.2.trans hK6 fun _ _ e => e, hB1.cell (i := 0) rfl, hB2.cell (i := 0) rfl⟩
  have lieAt : ∀ (W : World) {ps qs : List UInt32}, Tw W T a ga b gb gx gy ps qs → Lie W.heap.size T a ga b gb gx gy B1 B2 := fun W ps qs ht => by
    obtain ⟨h1, h2, h3, h4, h5, h6, h7⟩ := ht.lt
    exact ⟨HFar.out.1, h1, h2, h4, h3, h5, h6, h7, HNh.out.1, HNh.out.2⟩
  have HLi : Hid (∀ (W : World) {ps qs : List UInt32}, Tw W T a ga b gb gx gy ps qs → Lie W.heap.size T a ga b gb gx gy B1 B2) := lieAt
  have hE : ((w5.alloc (.cells #[.pointer (some ⟨a, 0, none⟩)] 42)).alloc (.cells #[.pointer (some ⟨b, 0, none⟩)] 42)).drew = w6 := by rw [hw6]; rfl
  rw [hE]
  clear lieAt hB1 hB2 hB1e hB2e hlt5 hS hK6 hw6 f0 f1 H5 hE
  go_wp2
  go_loopw [9, 10] (fun d r wr => ∃ (dn rr : Nat) (ps qs : List UInt32), dn ≤ m ∧ rr ≤ 3 ∧ d = .int .i64 (dn : Int) ∧ r = .int .i64 (rr : Int) ∧ Tw wr T a ga b gb gx gy ps qs ∧ Keeps (fun _ => False) w wr ∧ wr.cell? ⟨B1, 0, none⟩ = some (.pointer (some ⟨a, 0, none⟩)) ∧ wr.cell? ⟨B2, 0, none⟩ = some (.pointer (some ⟨b, 0, none⟩)))
    (fun _ r _ => 3 - (intOf r).toNat)
  case atStart => exact ⟨0, 0, xs, ys, by omega, by omega, rfl, rfl, H6.out.1, H6.out.2.1, H6.out.2.2.1, H6.out.2.2.2⟩
  case round =>
    obtain ⟨dn, rr, ps, qs, hdn, hrr, rfl, rfl, ht, hk, hq1, hq2⟩ := hrel
    have HR : Hid (Tw wr T a ga b gb gx gy ps qs ∧ Keeps (fun _ => False) w wr ∧ wr.cell? ⟨B1, 0, none⟩ = some (.pointer (some ⟨a, 0, none⟩)) ∧ wr.cell? ⟨B2, 0, none⟩ = some (.pointer (some ⟨b, 0, none⟩))) := ⟨ht, hk, hq1, hq2⟩
    clear ht hk hq1 hq2
    have HTh : Hid (∀ (W : World) (ps qs : List UInt32) (dn : Nat), dn ≤ m → Tw W T a ga b gb gx gy ps qs → Keeps (fun _ => False) w W → W.cell? ⟨B1, 0, none⟩ = some (.pointer (some ⟨a, 0, none⟩)) → W.cell? ⟨B2, 0, none⟩ = some (.pointer (some ⟨b, 0, none⟩)) →
        Calls Try.prog 27 #[.pointer (some ⟨T, 0, none⟩), .func (.func 54) #[] #[.pointer (some ⟨B1, 0, none⟩), .pointer (some ⟨B2, 0, none⟩)], .slice wa m cap, .int .i64 dn] W fun e w' =>
          ∃ dn' : Nat, dn' ≤ m ∧ e = .returned (.tuple #[.int .i64 dn', .bool true]) ∧ (∃ us vs, Tw w' T a ga b gb gx gy us vs) ∧ Keeps (fun _ => False) w w' ∧ w'.cell? ⟨B1, 0, none⟩ = some (.pointer (some ⟨a, 0, none⟩)) ∧ w'.cell? ⟨B2, 0, none⟩ = some (.pointer (some ⟨b, 0, none⟩))) := by
      intro W ps qs dn hdn ht hk hq1 hq2
      have h1 := through_any w W T a ga b gb gx gy B1 B2 ps qs wa cap dn ds ht (HLi.out W ht) hk HFar.out.2 HWk.out.1 HWk.out.2.1 HWk.out.2.2 (by have := HMM.out; omega) hq1 hq2
      rw [← HMM.out] at h1
      refine h1.mono ?_
      rintro e w' ⟨dn', hd', he, ⟨us', vs', ht', _, _⟩, hk'⟩
      exact ⟨dn', hd', he, ⟨us', vs', ht'⟩, hk.trans hk' fun k hk0 e => by have := HFar.out.2 k e; omega, cell_kept' hq1 hk' HNh.out.1, cell_kept' hq2 hk' HNh.out.2⟩
    by_cases hr3 : rr < 3
    · by_cases hdm : dn < m
      · have hju : dn < ds.length := by have := HMM.out; omega
        rcases (HWk.out.1.kept HR.out.2.1) with h0 | ⟨B, o, rfl, hcell⟩
        · exact absurd hju (by rw [h0]; simp)
        obtain ⟨wd, hwd⟩ : ∃ wd, wd = ds[dn]'hju := ⟨_, rfl⟩
        have hc3 := hcell dn hju
        rw [← hwd] at hc3
        have k0 := hc3.1
        have k1 := hc3.2.1
        have k2 := hc3.2.2
        have hp64 : wd.p ≤ 9223372036854775807 := by rw [hwd]; exact HWk.out.2.1 _ (List.getElem_mem hju)
        have HTw : Hid (Calls Try.prog 26 #[.pointer (some ⟨T, 0, none⟩), .agg #[.bool wd.s, .int .i64 wd.p, .int .u32 (wd.x.toNat : Int)]] wr fun e w' => Wrote wr T a ga b gb gx gy ps.length qs.length e w') := twrite_any T a ga b gb gx gy ps qs wd.s wd.p wd.x wr HR.out.1 HFar.out.1 hp64
        obtain ⟨y, hy⟩ : ∃ y : Nat, y = wd.x.toNat := ⟨_, rfl⟩
        rw [← hy] at k2 HTw
        clear hju hcell hwd hc3 hp64 hy
        go_wp2_with fail
        refine HTw.out.mono ?_
        rintro e w8 ⟨rfl, us', vs', ht8, _, _, hK8⟩
        have H8 : Hid (Tw w8 T a ga b gb gx gy us' vs' ∧ Keeps (fun _ => False) w w8 ∧ w8.cell? ⟨B1, 0, none⟩ = some (.pointer (some ⟨a, 0, none⟩)) ∧ w8.cell? ⟨B2, 0, none⟩ = some (.pointer (some ⟨b, 0, none⟩))) :=
          ⟨ht8, HR.out.2.1.trans hK8 fun k hk0 e => by have := HFar.out.2 k e; omega, cell_kept' HR.out.2.2.1 hK8 HNh.out.1, cell_kept' HR.out.2.2.2 hK8 HNh.out.2⟩
        have HC : Hid (Calls _ _ _ w8 _) := HTh.out w8 us' vs' (dn + 1) (by omega) H8.out.1 H8.out.2.1 H8.out.2.2.1 H8.out.2.2.2
        rw [show ((dn + 1 : Nat) : Int) = (dn : Int) + 1 by omega] at HC
        clear ht8 hK8 k0 k1 k2 HTw
        go_wp2_with fail
        refine HC.out.mono ?_
        rintro e w9 ⟨dn', hd', rfl, ⟨us2, vs2, ht9⟩, hk9, hq91, hq92⟩
        have H9 : Hid (Tw w9 T a ga b gb gx gy us2 vs2 ∧ Keeps (fun _ => False) w w9 ∧ w9.cell? ⟨B1, 0, none⟩ = some (.pointer (some ⟨a, 0, none⟩)) ∧ w9.cell? ⟨B2, 0, none⟩ = some (.pointer (some ⟨b, 0, none⟩))) := ⟨ht9, hk9, hq91, hq92⟩
        clear ht9 hk9 hq91 hq92 HC
        go_wp2
        go_roundw
        case rel => exact ⟨dn', rr + 1, us2, vs2, hd', by omega, rfl, by go_num, H9.out.1, H9.out.2.1, H9.out.2.2.1, H9.out.2.2.2⟩
        case measure => simp [intOf]; omega
      · have HC : Hid (Calls _ _ _ wr _) := HTh.out wr ps qs dn hdn HR.out.1 HR.out.2.1 HR.out.2.2.1 HR.out.2.2.2
        go_wp2_with fail
        refine HC.out.mono ?_
        rintro e w9 ⟨dn', hd', rfl, ⟨us2, vs2, ht9⟩, hk9, hq91, hq92⟩
        have H9 : Hid (Tw w9 T a ga b gb gx gy us2 vs2 ∧ Keeps (fun _ => False) w w9 ∧ w9.cell? ⟨B1, 0, none⟩ = some (.pointer (some ⟨a, 0, none⟩)) ∧ w9.cell? ⟨B2, 0, none⟩ = some (.pointer (some ⟨b, 0, none⟩))) := ⟨ht9, hk9, hq91, hq92⟩
        clear ht9 hk9 hq91 hq92 HC
        go_wp2
        go_roundw
        case rel => exact ⟨dn', rr + 1, us2, vs2, hd', by omega, rfl, by go_num, H9.out.1, H9.out.2.1, H9.out.2.2.1, H9.out.2.2.2⟩
        case measure => simp [intOf]; omega
    · obtain rfl : rr = 3 := by omega
      go_wp2
      go_ret
      exact ⟨rfl, HR.out.2.1⟩

end Go.Proofs.Ytljhdijledclhaa
