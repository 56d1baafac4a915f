import Derived.Test.YtffhkapegmnklaaV
namespace Go.Proofs.Ytffhkapegmnklaa
open Go.RowKit Go.Shelf
attribute [local go_sem] Oper.semAt_some
set_option linter.unusedVariables false

abbrev RetW (e : Ending) : Prop := ∃ v, e = .returned v

set_option maxRecDepth 20000 in
set_option maxHeartbeats 8000000 in
theorem within_any (s rm : Nat) (kvs : List (Int × Value)) (F0 : Nat → Prop) (a : Option Addr) (c : Nat) (other : Int) (w : World) (hS : Sf w s rm kvs F0) (hth : Things kvs) (hseg : SegP w a kvs) (hsF : ∀ x, a = some x → ¬ F0 x.block) (hot : I64 other) (hcap : (c : Int) ≤ 9223372036854775807) (hcL : (kvs.length : Int) ≤ c) :
    Calls Try.prog 23 #[ptr s, .slice a kvs.length c, .int .i64 other] w fun e w' => e = .returned (.bool true) ∧ (∃ kvs' F', Sf w' s rm kvs' F' ∧ Things kvs' ∧ ∀ b, F' b → F0 b ∨ w.heap.size ≤ b) ∧ Keeps F0 w w' := by
  have hL4 := ksl hS
  have hko : ∀ p ∈ kvs, I64 p.1 := hS.key_ok
  obtain ⟨L, hL⟩ : ∃ L, L = kvs.length := ⟨_, rfl⟩
  rw [← hL] at hcL ⊢
  have hLi : (L : Int) ≤ 4096 := by omega
  have HA : Hid (Sf w s rm kvs F0 ∧ Things kvs ∧ SegP w a kvs ∧ (∀ x, a = some x → ¬ F0 x.block) ∧ I64 other ∧ L = kvs.length ∧ ∀ p ∈ kvs, I64 p.1) := ⟨hS, hth, hseg, hsF, hot, hL, hko⟩
  clear hS hth hseg hsF hot hL hL4 hko
  refine (callsIn_wide (n := 8)).1 ?_
  refine callsIn_of_wp_marks Try.func23 rfl trivial ?_ rfl
  refine wpIn_wide.2 ?_
  simp only [Try.ntmps23, List.size_toArray, List.length_cons, List.length_nil, Nat.reduceAdd, Nat.reduceSub, Array.replicate_succ, Array.replicate_zero, List.push_toArray, List.append_toArray, List.nil_append, List.cons_append]
  go_wp2_with fail
  refine (all_any (some ⟨s, 0, none⟩) _).mono ?_
  rintro e X0 ⟨rfl, hX0⟩
  have hz : (((((w.alloc (.cells #[ptr s] 35)).alloc (.cells #[.slice a L c] 47)).alloc (.cells #[.int .i64 other] 3)).alloc (.cells #[.bool false] 4)).alloc (.cells #[.int .i64 0] 3)).heap.size = w.heap.size + 5 := by simp
  have z1 : (w.alloc (.cells #[ptr s] 35)).heap.size = w.heap.size + 1 := by simp
  have z2 : ((w.alloc (.cells #[ptr s] 35)).alloc (.cells #[.slice a L c] 47)).heap.size = w.heap.size + 1 + 1 := by simp
  have z3 : (((w.alloc (.cells #[ptr s] 35)).alloc (.cells #[.slice a L c] 47)).alloc (.cells #[.int .i64 other] 3)).heap.size = w.heap.size + 1 + 1 + 1 := by simp
  have z4 : ((((w.alloc (.cells #[ptr s] 35)).alloc (.cells #[.slice a L c] 47)).alloc (.cells #[.int .i64 other] 3)).alloc (.cells #[.bool false] 4)).heap.size = w.heap.size + 1 + 1 + 1 + 1 := by simp
  have e1 : Blk X0 w.heap.size [ptr s] 35 := by rw [hX0]; exact (((((Blk.new w _ 35).alloc _).alloc _).alloc _).alloc _).alloc _
  have e2 : Blk X0 (w.heap.size + 1) [.slice a L c] 47 := by rw [hX0, ← z1]; exact ((((Blk.new _ _ 47).alloc _).alloc _).alloc _).alloc _
  have e3 : Blk X0 (w.heap.size + 1 + 1) [.int .i64 other] 3 := by rw [hX0, ← z2]; exact (((Blk.new _ _ 3).alloc _).alloc _).alloc _
  have e4 : Blk X0 (w.heap.size + 1 + 1 + 1) [.bool false] 4 := by rw [hX0, ← z3]; exact ((Blk.new _ _ 4).alloc _).alloc _
  have e5 : Blk X0 (w.heap.size + 1 + 1 + 1 + 1) [.int .i64 0] 3 := by rw [hX0, ← z4]; exact (Blk.new _ _ 3).alloc _
  have e6 : Blk X0 (w.heap.size + 5) [ptr s] 35 := by rw [hX0, ← hz]; exact Blk.new _ _ 35
  have e7 : X0.heap.size = w.heap.size + 6 := by rw [hX0, World.size_alloc, hz]
  have e8 : Keeps (fun _ => False) w X0 := by rw [hX0]; exact ((((((Keeps.refl _ w).alloc _).alloc _).alloc _).alloc _).alloc _).alloc _
  rw [hz]
  clear hX0 hz z1 z2 z3 z4
  obtain ⟨b3, h3⟩ : ∃ b, b = w.heap.size := ⟨_, rfl⟩
  obtain ⟨b4, h4⟩ : ∃ b, b = w.heap.size + 1 := ⟨_, rfl⟩
  obtain ⟨b5, h5⟩ : ∃ b, b = w.heap.size + 1 + 1 := ⟨_, rfl⟩
  obtain ⟨R, h6⟩ : ∃ b, b = w.heap.size + 1 + 1 + 1 := ⟨_, rfl⟩
  obtain ⟨Ib, h7⟩ : ∃ b, b = w.heap.size + 1 + 1 + 1 + 1 := ⟨_, rfl⟩
  obtain ⟨B1, h8⟩ : ∃ b, b = w.heap.size + 5 := ⟨_, rfl⟩
  rw [← h8, ← h7, ← h6, ← h5, ← h4, ← h3]
  rw [← h3] at e1
  rw [← h4] at e2
  rw [← h5] at e3
  rw [← h6] at e4
  rw [← h7] at e5
  rw [← h8] at e6
  have HB : Hid (Blk X0 b3 [ptr s] 35 ∧ Blk X0 b4 [.slice a L c] 47 ∧ Blk X0 b5 [.int .i64 other] 3 ∧ Blk X0 R [.bool false] 4 ∧ Blk X0 Ib [.int .i64 0] 3 ∧ Blk X0 B1 [ptr s] 35) := ⟨e1, e2, e3, e4, e5, e6⟩
  have HN : Hid (b3 = w.heap.size ∧ b4 = w.heap.size + 1 ∧ b5 = w.heap.size + 2 ∧ R = w.heap.size + 3 ∧ Ib = w.heap.size + 4 ∧ B1 = w.heap.size + 5 ∧ X0.heap.size = w.heap.size + 6 ∧ Keeps (fun _ => False) w X0) := ⟨h3, by omega, by omega, by omega, by omega, h8, e7, e8⟩
  clear e1 e2 e3 e4 e5 e6 e7 e8 h3 h4 h5 h6 h7 h8
  have HF : Hid (WF0 X0 F0 Ib) := by
    have hn := HN.out
    refine ⟨by omega, fun h => ?_, fun b h => ?_⟩
    · have := HA.out.1.lt _ h; omega
    · have := HA.out.1.lt _ h; omega
  -- what lies still
  have Hst : Hid (∀ X, Keeps (fun b => b = Ib ∨ F0 b) X0 X → Blk X b3 [ptr s] 35 ∧ Blk X b4 [.slice a L c] 47 ∧ Blk X b5 [.int .i64 other] 3 ∧ Blk X R [.bool false] 4 ∧ SegP X a kvs) := by
    intro X hK
    have hn := HN.out
    have nf : ∀ b, w.heap.size ≤ b → b ≠ Ib → ¬ (b = Ib ∨ F0 b) := fun b hb hne h => by
      rcases h with h | h
      · exact hne h
      · have := HA.out.1.lt b h; omega
    obtain ⟨f1, f2, f3, f4, f5, f6⟩ := HB.out
    refine ⟨f1.kept hK (nf _ (by omega) (by omega)), f2.kept hK (nf _ (by omega) (by omega)), f3.kept hK (nf _ (by omega) (by omega)), f4.kept hK (nf _ (by omega) (by omega)), ?_⟩
    by_cases hk : kvs = []
    · exact .inl hk
    · rcases HA.out.2.2.1 with h0 | ⟨gg, hag, hcc⟩
      · exact .inl h0
      · obtain ⟨p, hp⟩ : ∃ p, kvs[0]? = some p := by
          cases kvs with
          | nil => exact absurd rfl hk
          | cons p r => exact ⟨p, rfl⟩
        have hgl : gg < w.heap.size := World.block_lt_of_cell? w ⟨gg, 0 * 2, none⟩ (hcc 0 p hp).1
        have hseg : SegP w a kvs := .inr ⟨gg, hag, hcc⟩
        refine (hseg.kept hn.2.2.2.2.2.2.2 fun _ _ _ h => h).kept hK fun x hx hlt h => ?_
        rw [hag] at hx
        cases hx
        rcases h with h | h
        · simp at h; omega
        · exact HA.out.2.2.2.1 _ hag h
  go_wp2
  refine (wpIn_wide (n := 8)).1 ?_
  refine range_list2 rfl (by omega) (gf := 40) (lb := #[.pointer (some ⟨B1, 0, none⟩)]) rfl trivial (enters_of Try.func40 (by kernel_rfl) rfl) (all_lists 7 B1 s rm kvs HA.out.2.1)
    (fun X hK => ?good) (fun _ => rfl) (fun g i X => WI X0 s rm F0 Ib g i X) (fun _ _ => False) (fun g i X X' hK h => h.kept HF.out hK) (fun _ _ _ _ h => h)
    (fun g X hK hg1 hg2 => ?start) ?body ?done ?stop
  case good =>
    have hS := HA.out.1.kept HN.out.2.2.2.2.2.2.2 fun _ _ h => h
    exact ⟨(HB.out.2.2.2.2.2.kept hK fun h => h).cell rfl, F0, hS.kept hK fun _ _ h => h⟩
  case start =>
    have hS := HA.out.1.kept HN.out.2.2.2.2.2.2.2 fun _ _ h => h
    exact ⟨hg2, hg1, ⟨kvs, F0, hS.kept hK fun _ _ h => h, HA.out.2.1, fun b hb => .inl hb⟩, hK.mono fun _ _ h => h.elim, HB.out.2.2.2.2.1.kept hK fun h => h⟩
  case stop =>
    rintro c W h _
    exact h.elim
  case done =>
    intro g X hC hD
    obtain ⟨t1, t2, t3, t4, t5⟩ := Hst.out X hC.k
    have cI := hC.ib.cell (i := 0) rfl
    rw [← HA.out.2.2.2.2.2.1] at cI
    have cw := t2.cell (i := 0) rfl
    have c0 := t4.cell (i := 0) rfl
    have f0 := t4.frozen 0
    have HC : Hid (WI X0 s rm F0 Ib g kvs.length X ∧ X.heap[X0.heap.size]? = some (.deferred (some [])) ∧ Blk X R [.bool false] 4) := ⟨hC, hD, t4⟩
    clear hC hD t1 t2 t3 t4 t5
    gi_wp2
    go_wp2
    obtain ⟨hC, hD, t4⟩ := HC.out
    have hn := HN.out
    have hKs : Keeps (· = R) X (X.setCell ⟨R, 0, none⟩ (.bool true)) := (Keeps.refl _ X).setCell _ _ fun _ => rfl
    have d1 := obj_kept hD hKs (by omega)
    have hr := t4.setCell 0 (.bool true)
    obtain ⟨kv2, F2, g1, g2, g3⟩ := hC.sh
    have hnR : ∀ b, F2 b → b ≠ R ∧ b ≠ X0.heap.size := fun b hb => by
      rcases g3 b hb with h | h
      · have := HA.out.1.lt b h; omega
      · omega
    have hSR := g1.kept hKs fun b hb he => (hnR b hb).1 he
    have hKw := hC.k
    revert hKs d1 hr hSR
    generalize X.setCell ⟨R, 0, none⟩ (.bool true) = WF
    intro hKs d1 hr hSR
    have hKf : Keeps (· = X0.heap.size) WF (WF.putObj X0.heap.size (.deferred none)) := ⟨rfl, rfl, rfl, by simp, fun k _ hn => World.putObj_heap_other hn⟩
    have hrf := (hr.kept hKf (by omega)).cell (i := 0) rfl
    refine ⟨by simp, .inl ⟨_, _, rfl, run_takeDeferred d1, ?_⟩⟩
    refine ⟨.bool true, results_cell_val rfl _ _ R (.bool true) rfl (by simp [go_sem, hrf]), rfl, ⟨kv2, F2, hSR.kept hKf fun b hb he => (hnR b hb).2 he, g2, fun b hb => ?_⟩, ?_⟩
    · rcases g3 b hb with h | h
      · exact .inl h
      · exact .inr (by omega)
    · refine (((hn.2.2.2.2.2.2.2.mono fun _ _ h => h.elim).trans (S := F0) hKw fun b hb h => ?_).trans hKs fun b hb he => by omega).trans hKf fun b hb he => by omega
      rcases h with h | h
      · omega
      · exact h
  case body =>
    intro l g i x W hx hC hgB hl
    obtain ⟨n, hn⟩ := HA.out.2.1 x (List.mem_of_getElem? hx)
    obtain ⟨xk, xv⟩ := x
    simp only at hn
    subst hn
    have hiL : i < L := by have := (List.getElem?_eq_some_iff.1 hx).1; have := HA.out.2.2.2.2.2.1; omega
    unfold encA
    gi_wp2
    refine ⟨trivial, ?_⟩
    intro X2 hlt hC2 hrec
    obtain ⟨r₀, hrec⟩ := hrec
    obtain ⟨t1, t2, t3, t4, t5⟩ := Hst.out X2 hC2.k
    rcases t5 with h0 | ⟨gg, rfl, hcc⟩
    · rw [h0] at hx; simp at hx
    have cI := hC2.ib.cell (i := 0) rfl
    have fI := hC2.ib.frozen 0
    have cw := t2.cell (i := 0) rfl
    obtain ⟨q1, q2⟩ := hcc i _ hx
    simp only at q1 q2
    have hi1 : (i : Int) < (L : Int) := by omega
    obtain ⟨X3, hX3⟩ : ∃ X3, X3 = X2.setCell ⟨Ib, 0, none⟩ (.int .i64 ((i : Int) + 1)) := ⟨_, rfl⟩
    have hC3 := hC2.count HF.out (i + 1)
    rw [show (((i + 1 : Nat)) : Int) = (i : Int) + 1 by omega, ← hX3] at hC3
    obtain ⟨s1, s2, s3, s4, s5⟩ := Hst.out X3 hC3.1.k
    have d3 := s1.cell (i := 0) rfl
    have d4 := s2.cell (i := 0) rfl
    have d5 := s3.cell (i := 0) rfl
    rw [hX3] at d3 d4 d5
    obtain ⟨p0, hp0⟩ : ∃ p, kvs[0]? = some p := ⟨_, List.getElem?_eq_getElem (by have := HA.out.2.2.2.2.2.1; omega)⟩
    have hk0 : I64 p0.1 := HA.out.2.2.2.2.2.2 p0 (List.mem_of_getElem? hp0)
    have HP : Hid (Calls Try.prog 20 #[ptr s, .int .i64 other, .int .i64 ((i : Int) + 1)] X3 _) :=
      hC3.1.step HF.out (Pe := RetW) fun kv F hS ht => (put_any s rm kv F other ((i : Int) + 1) X3 hS HA.out.2.2.2.2.1).mono fun e X' h => ⟨⟨_, h.1⟩, _, things_put ht, h.2⟩
    have HD : Hid (Calls Try.prog 25 #[ptr s, .int .i64 other] X3 _) :=
      hC3.1.step HF.out (Pe := RetW) fun kv F hS ht => (drop_any s rm kv F other X3 hS HA.out.2.2.2.2.1).mono fun e X' h => ⟨⟨_, h.1⟩, _, things_del ht, h.2⟩
    have hKd : Keeps (fun _ => False) X3 X3.drew := (Keeps.refl _ X3).drew
    have HG : Hid (Calls Try.prog 17 #[ptr s, .int .i64 p0.1] X3.drew _) :=
      (hC3.1.grown HF.out hKd).step HF.out (Pe := RetW) fun kv F hS ht => (get_any s rm kv F p0.1 X3.drew hS hk0).mono fun e X' h => ⟨⟨_, h.1⟩, _, things_got ht, h.2⟩
    have hg0 : X3.cell? ⟨gg, 0, none⟩ = some (.int .i64 p0.1) := by
      rcases s5 with h0 | ⟨gg', hag, hc3⟩
      · rw [h0] at hp0; simp at hp0
      · cases hag
        have := (hc3 0 p0 hp0).1
        simpa using this
    rw [hX3] at hg0
    obtain ⟨k0, hk0e⟩ : ∃ k, k = p0.1 := ⟨_, rfl⟩
    rw [← hk0e] at HG hg0
    have HK3 : Hid (KeptAt X0.heap.size g X2 X3) := hC3.2
    have HW3 : Hid (X3 = X2.setCell ⟨Ib, 0, none⟩ (.int .i64 ((i : Int) + 1))) := hX3
    have HR : Hid (X2.heap[X0.heap.size + 1]? = some (.loop r₀)) := hrec
    have hmix : Try.prog.follows Departure.mixedOrders = true := Try.mixed
    have hLpos : (0 : Int) < (L : Int) := by omega
    have h3 : (((i : Int) + 1) % 3 == 0) = true ∨ ((((i : Int) + 1) % 3 == 0) = false ∧ (((i : Int) + 1) % 3 == 1) = true) ∨ ((((i : Int) + 1) % 3 == 0) = false ∧ (((i : Int) + 1) % 3 == 1) = false ∧ (((i : Int) + 1) % 3 == 2) = true) := by
      have : ((i : Int) + 1) % 3 = 0 ∨ ((i : Int) + 1) % 3 = 1 ∨ ((i : Int) + 1) % 3 = 2 := by omega
      rcases this with h | h | h <;> simp [h]
    subst hl
    clear hC hC2 t1 t2 t3 t4 hcc hx hiL hlt hrec hX3 hC3 s1 s2 s3 s4 s5 hp0 hk0 hKd hk0e
    rcases h3 with m0 | ⟨m0, m1⟩ | ⟨m0, m1, m2⟩
    focus
      gi_wp2_with fail
      refine ⟨trivial, ?_⟩
      rw [← HW3.out]
      refine (CallsIn.inRound _ (callsIn_wide.2 HP.out)).mono ?_
      rintro e W4 ⟨⟨v4, rfl⟩, hC4, hA4⟩
    rotate_left
    focus
      gi_wp2_with fail
      refine ⟨trivial, ?_⟩
      rw [← HW3.out]
      refine (CallsIn.inRound _ (callsIn_wide.2 HD.out)).mono ?_
      rintro e W4 ⟨⟨v4, rfl⟩, hC4, hA4⟩
    rotate_left
    focus
      gi_wp2_with fail
      rw [← HW3.out]
      rw [← HW3.out] at d3 d4 d5 hg0
      gi_region_with_o (refine ⟨trivial, ?_⟩; gi_at_call 17; refine (CallsIn.inRound _ (callsIn_wide.2 HG.out)).mono ?_; rintro e W4 ⟨⟨v4, rfl⟩, hC4, hA4⟩)
    all_goals
      have hA3 : KeptAt X0.heap.size g X3 W4 := hA4
      have hA2 := HK3.out.trans hA3
      obtain ⟨t1, _, _, _, _⟩ := Hst.out W4 hC4.k
      obtain ⟨kv4, F4, hS4, ht4, hF4⟩ := hC4.sh
      have cs4 := t1.cell (i := 0) rfl
      have cs5 := (t1.alloc (.cells #[.int .i64 0] 3)).cell (i := 0) rfl
      have HL4 : Hid (Calls _ _ _ _ _) := len_any s rm kv4 F4 W4 hS4
      have hl4 : (kv4.length : Int) ≤ 4096 := by have := ksl hS4; omega
      obtain ⟨L4, hL4⟩ : ∃ L4, L4 = kv4.length := ⟨_, rfl⟩
      rw [← hL4] at HL4 hl4
      have H4 : Hid (WI X0 s rm F0 Ib g (i + 1) W4 ∧ KeptAt X0.heap.size g X2 W4 ∧ Sf W4 s rm kv4 F4 ∧ Things kv4 ∧ L4 = kv4.length) := ⟨hC4, hA2, hS4, ht4, hL4⟩
      clear hC4 hA4 hA3 hA2 t1 hS4 ht4 hF4 hL4 HP HD HG d3 d4 d5 hg0 q1 q2 cI fI cw HK3
      gi_wp2_with fail
      refine ⟨trivial, ?_⟩
      refine (CallsIn.inRound _ (callsIn_wide.2 HL4.out)).mono ?_
      rintro e W5 ⟨rfl, rfl⟩
      gi_wp2_with fail
      refine ⟨trivial, ?_⟩
      refine (CallsIn.inRound _ (callsIn_wide.2 (all_any (some ⟨s, 0, none⟩) _))).mono ?_
      rintro e X5 ⟨rfl, hX5⟩
      have hzz : (W5.alloc (.cells #[.int .i64 0] 3)).heap.size = W5.heap.size + 1 := by simp
      have hK5 : Keeps (fun _ => False) W5 X5 := by rw [hX5]; exact ((Keeps.refl (fun _ => False) W5).alloc _).alloc _
      have hN5 : Blk X5 W5.heap.size [.int .i64 0] 3 := by rw [hX5]; exact (Blk.new W5 _ 3).alloc _
      have hB5 : Blk X5 (W5.heap.size + 1) [ptr s] 35 := by rw [hX5, ← hzz]; exact Blk.new _ _ 35
      have hs5 : X5.heap.size = W5.heap.size + 2 := by rw [hX5, World.size_alloc, hzz]
      rw [hzz]
      have H5 : Hid (Keeps (fun _ => False) W5 X5 ∧ Blk X5 W5.heap.size [.int .i64 0] 3 ∧ Blk X5 (W5.heap.size + 1) [ptr s] 35 ∧ X5.heap.size = W5.heap.size + 2) := ⟨hK5, hN5, hB5, hs5⟩
      have hr5 : X5.heap[X0.heap.size + 1]? = some (.loop r₀) := by
        have h1 := H4.out.2.1.2.1.trans HR.out
        exact obj_kept h1 hK5 fun h => h
      clear hX5 hzz hK5 hN5 hB5 hs5 HL4 cs4 cs5
      gi_wp2_with fail
      refine range_list_in (F := Fence.wide.inRound (X0.heap.size + 1)) (n := 6) rfl hr5 (by omega) (gf := 40) (lb := #[.pointer (some ⟨W5.heap.size + 1, 0, none⟩)]) rfl trivial (enters_of Try.func40 (by kernel_rfl) rfl) (Lists.inRound _ (all_lists 5 (W5.heap.size + 1) s rm kv4 H4.out.2.2.2.1))
        (fun Y hK => ?gin) (fun _ => rfl) (fun g2 j Y => g2 < Y.heap.size ∧ Keeps (· = W5.heap.size) X5 Y ∧ Blk Y W5.heap.size [.int .i64 j] 3)
        (fun g2 j Y Y' hK h => ⟨Nat.lt_of_lt_of_le h.1 hK.size, h.2.1.trans hK fun b hb he => by omega, h.2.2.kept hK fun he => by have := H5.out.2.2.2; omega⟩)
        (fun g2 Y hK hg1 hg2 => ⟨hg2, hK.mono fun _ _ h => h.elim, H5.out.2.1.kept hK fun h => h⟩) ?bin ?din
      case gin =>
        exact ⟨(H5.out.2.2.1.kept hK fun h => h).cell rfl, F4, (H4.out.2.2.1.kept H5.out.1 fun _ _ h => h).kept hK fun _ _ h => h⟩
      case bin =>
        intro l2 g2 j x Y hx hC hgB
        have hjL : (j : Int) < 4096 := by have := (List.getElem?_eq_some_iff.1 hx).1; have := H4.out.2.2.2.2; omega
        obtain ⟨xk2, xv2⟩ := x
        unfold encA
        gi_wp2
        refine ⟨trivial, ?_⟩
        intro Y2 hlt2 hC2
        have cN := hC2.2.2.cell (i := 0) rfl
        have fN := hC2.2.2.frozen 0
        have HFi : Hid ((((Y2.setCell ⟨W5.heap.size, 0, none⟩ (.int .i64 ((j : Int) + 1))).heap[X5.heap.size]? = Y2.heap[X5.heap.size]?) ∧ ((Y2.setCell ⟨W5.heap.size, 0, none⟩ (.int .i64 ((j : Int) + 1))).heap[g2]? = Y2.heap[g2]?)) ∧ g2 < (Y2.setCell ⟨W5.heap.size, 0, none⟩ (.int .i64 ((j : Int) + 1))).heap.size ∧ Keeps (· = W5.heap.size) X5 (Y2.setCell ⟨W5.heap.size, 0, none⟩ (.int .i64 ((j : Int) + 1))) ∧ Blk (Y2.setCell ⟨W5.heap.size, 0, none⟩ (.int .i64 ((j : Int) + 1))) W5.heap.size [.int .i64 ((j + 1 : Nat) : Int)] 3) := by
          have hz := H5.out.2.2.2
          refine ⟨⟨Below.heap_setCell Y2 ⟨W5.heap.size, 0, none⟩ _ _ (show _ ≠ W5.heap.size by omega), Below.heap_setCell Y2 ⟨W5.heap.size, 0, none⟩ _ _ (show _ ≠ W5.heap.size by omega)⟩, by simp; exact hC2.1, hC2.2.1.setCell _ _ fun _ => rfl, ?_⟩
          have := hC2.2.2.setCell 0 (.int .i64 ((j : Int) + 1))
          simpa using this
        clear hC hC2 hx hgB hlt2
        gi_wp2
        exact HFi.out
      case din =>
        intro g2 Y hC
        have cN := hC.2.2.cell (i := 0) rfl
        rw [← H4.out.2.2.2.2] at cN
        have HE : Hid (KeptAt X0.heap.size g X2 Y ∧ WI X0 s rm F0 Ib g (i + 1) Y) := by
          have hKY : Keeps (fun _ => False) W5 Y := H5.out.1.trans hC.2.1 fun b hb he => by omega
          exact ⟨H4.out.2.1.trans (kept_grown H4.out.1 hKY), H4.out.1.grown HF.out hKY⟩
        clear hC hr5 HR
        gi_wp2
        exact HE.out

end Go.Proofs.Ytffhkapegmnklaa
