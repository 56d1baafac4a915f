import Derived.Test.YtadhldpeklkcmaaSr
import Derived.Test.YtadhldpeklkcmaaPa
namespace Go.Proofs.Ytadhldpeklkcmaa
open Go.RowKit
set_option linter.unusedVariables false
set_option linter.unusedSimpArgs false
set_option maxRecDepth 10000

theorem Chn.Rn.can {X : Chn} {w : World} (h : X.Rn w) : canB X.lk.length (heldN X.tk X.st : Nat) (askedB X.st) X.tk.length = true := by
  unfold canB heldN askedB
  rcases h.wf with ⟨h1, h2⟩ | ⟨h1, h2⟩ | ⟨h1, h2, h3⟩
  · simp [h1, h2]
  · simp [h1]; omega
  · simp [h1]; omega
set_option maxHeartbeats 2000000 in
theorem makes_again (p : Pst) (N : Nat) (o : Opr) (w : World) (hok : p.Ok N w) (hs : p.Same) (hn0 : 0 < p.Xs.length) (hn : p.Xs.length ≤ 4294967296) (hp1 : -9223372036854775808 ≤ o.who) (hp2 : o.who ≤ 9223372036854775807) (hkd : o.kind = 10) :
    Calls Try.prog 8 #[.pointer (some ⟨p.WB, 0, none⟩), .agg o.vs.toArray] w (PlayP p N w) := by
  obtain ⟨hkb, hO⟩ := box_op o w
  obtain ⟨wa, hwa⟩ : ∃ wa, wa = w.alloc (.cells o.vs.toArray 30) := ⟨_, rfl⟩
  rw [← hwa] at hkb hO
  have hok1 := hok.same hkb
  obtain ⟨i, hi⟩ : ∃ i, i = pk o.who p.Xs.length := ⟨_, rfl⟩
  have hil : i < p.Xs.length := by rw [hi]; exact pk_lt _ _ hn0
  obtain ⟨lb, lc, X, Y, hlv, hX, hY, cX, cY, hlc1, hlc2⟩ := hok1.at hil
  obtain ⟨B, hB⟩ : ∃ B, B = w.heap.size := ⟨_, rfl⟩
  have hlbF : p.F 5 lb := Pst.f5 (by rw [hlv]; rfl)
  have hO' : Blk wa B o.vs 30 := by rw [hB]; exact hO
  have hS0 : dcell p o B lb lc i X.b Y.b wa.drew := ⟨by have := hok1.drew.blk.cell (i := 4) rfl; rw [this, hlv], hO'.drew.cell (i := 1) rfl, cX, cY⟩
  obtain ⟨xb, hxb⟩ : ∃ xb, xb = X.b := ⟨_, rfl⟩
  obtain ⟨yb, hyb⟩ : ∃ yb, yb = Y.b := ⟨_, rfl⟩
  rw [← hxb, ← hyb] at hS0
  have HPK : ∀ w', Calls _ _ _ w' _ := fun w' => pick_big o.who p.Xs.length w' hn0 (by omega) hp1 hp2
  rw [← hi] at HPK
  have k0 : wa.cell? ⟨B, 0, none⟩ = some (.int .i64 10) := by rw [← hkd]; exact hO'.cell (i := 0) rfl
  have HW : Hid (w.alloc (.cells #[.int .i64 10, .int .i64 o.who, .int .i64 o.a, .int .i64 o.b, .bool o.asked, .int .u32 (o.wd.toNat : Int), .slice o.la o.ln o.lc, .slice o.ta o.tn o.tc] 30) = wa) := by rw [hwa, ← hkd]; rfl
  have hvs : o.vs.toArray = #[.int .i64 10, .int .i64 o.who, .int .i64 o.a, .int .i64 o.b, .bool o.asked, .int .u32 (o.wd.toNat : Int), .slice o.la o.ln o.lc, .slice o.ta o.tn o.tc] := by rw [← hkd]; rfl
  rw [hvs]
  obtain ⟨n, hnn⟩ : ∃ n, n = p.Xs.length := ⟨_, rfl⟩
  unfold dcell at hS0
  rw [← hnn] at hS0 HPK hil hlc1 hn
  have HPK : Hid (∀ w', Calls _ _ _ w' _) := HPK
  have hil' : (i : Int) < n := by omega
  have hlc1' : (n : Int) ≤ lc := by omega
  have hlc2' : (lc : Int) ≤ 9223372036854775807 := by unfold maxLen at hlc2; omega
  have hnI : (n : Int) ≤ 4294967296 := by omega
  have HP0 : Hid (p.Ok N wa ∧ Keeps (fun _ => False) w wa ∧ p.Same ∧ p.Xs[i]? = some X ∧ p.Ys[i]? = some Y ∧ xb = X.b ∧ yb = Y.b ∧ p.F 5 lb ∧ Blk wa B o.vs 30) := ⟨hok1, hkb, hs, hX, hY, hxb, hyb, hlbF, hO'⟩
  obtain ⟨C, hC⟩ : ∃ C, C = wa.heap.size := ⟨_, rfl⟩
  obtain ⟨W3, hW3⟩ : ∃ W3, W3 = (wa.alloc (.cells #[.pointer (some ⟨xb, 0, none⟩), .pointer (some ⟨yb, 0, none⟩)] 84)).drew := ⟨_, rfl⟩
  have hk3 : Keeps (fun _ => False) wa W3 := by rw [hW3]; exact ((Keeps.refl _ _).alloc _).drew
  have HM : Hid (Mid N w C xb yb p W3 ∧ Keeps (fun _ => False) w W3) := by
    refine ⟨⟨hok1.same hk3, (hkb.trans hk3 fun _ _ e => e).none, ?_, fun c k hk e => by have := hok1.sep.lt c k hk; omega⟩, hkb.trans hk3 fun _ _ e => e⟩
    rw [hW3, hC]
    exact (Blk.new wa #[.pointer (some ⟨xb, 0, none⟩), .pointer (some ⟨yb, 0, none⟩)] 84).drew
  have k3 : W3.cell? ⟨B, 0, none⟩ = some (.int .i64 10) := cell_kept k0 hk3 id
  have hSa : dcell p o B lb lc i xb yb (wa.alloc (.cells #[.pointer none, .pointer none] 84)).drew := by
    have h : dcell p o B lb lc i xb yb wa := by unfold dcell; rw [← hnn]; exact hS0
    exact h.kept (S := fun _ => False) ((((Keeps.refl _ wa).alloc _).drew : Keeps (fun _ => False) wa _)) id id id
  have hSb : dcell p o B lb lc i xb yb W3 := by
    have h : dcell p o B lb lc i xb yb wa := by unfold dcell; rw [← hnn]; exact hS0
    exact h.kept (S := fun _ => False) hk3 id id id
  unfold dcell at hSa hSb
  rw [← hnn] at hSa hSb
  have hsy := hs.ch i X Y hX hY
  have hYR := HM.out.1.1.cy i Y hY
  obtain ⟨ls, hls⟩ : ∃ ls, ls = Y.lk := ⟨_, rfl⟩
  obtain ⟨ts, hts⟩ : ∃ ts, ts = Y.tk := ⟨_, rfl⟩
  obtain ⟨ph, hph⟩ : ∃ ph : Nat, ph = heldN Y.tk Y.st := ⟨_, rfl⟩
  obtain ⟨pa, hpa⟩ : ∃ pa, pa = askedB Y.st := ⟨_, rfl⟩
  obtain ⟨va, vc, hvl, -, -⟩ := hYR.vlS
  obtain ⟨nl, hnl⟩ : ∃ nl, nl = ls.length := ⟨_, rfl⟩
  obtain ⟨nt, hnt⟩ : ∃ nt, nt = ts.length := ⟨_, rfl⟩
  have d1 := HM.out.1.cells.2.1
  have y0 : W3.cell? ⟨yb, 0, none⟩ = some (.slice va nl vc) := by rw [hyb, hYR.blk.cell (i := 0) rfl, hvl, hnl, hls]
  have hSy : Calls Try.prog 39 #[.pointer (some ⟨yb, 0, none⟩)] W3 fun e w6 => ∃ a c, e = .returned (.tuple #[.int .i64 (ph : Nat), .bool pa, .slice a nt c]) ∧ SegW w6 a ts ∧ Keeps (fun _ => False) W3 w6 := by
    have h1 := rstate_any Y W3 hYR
    rw [← hyb] at h1
    refine h1.mono ?_
    rintro e w6 ⟨v, he, ho, hf, hK⟩
    rw [← hts] at ho
    obtain ⟨a, c, hv, -, -⟩ := owns_slice ho
    rw [hv] at he ho
    exact ⟨a, c, by rw [he, hph, hpa, hnt], owns_segW' ho, hK⟩
  have hXc := hok.cx i X hX
  have HT : Hid (SegI W3 va ls ∧ nl = ls.length ∧ (∀ z ∈ ls, z ≤ 9223372036854775807) ∧ nl ≤ 2147483647 ∧ canB ls.length (ph : Int) pa ts.length = true ∧ nt = ts.length ∧ nt ≤ 2147483647 ∧ p.Same ∧ p.Xs.length ≤ 4294967296) := by
    refine ⟨owns_segI (c := vc) (by rw [hls, ← hvl]; exact hYR.lrow), hnl, ?_, by rw [hnl, hls, hsy.1]; exact hXc.2, by rw [hls, hts, hph, hpa]; exact hYR.can, hnt, ?_, hs, by omega⟩
    · rw [hls, hsy.1]; exact hXc.1.top
    · have : Y.tk.length ≤ Y.lk.length := by rcases hYR.wf with h | h | h <;> omega
      rw [hnt, hts]; rw [hsy.1] at this; have := hXc.2; omega
  have HD : Hid (Calls _ _ _ _ _) := hSy
  have HNN : Hid (n = p.Xs.length) := hnn
  have HW3 : Hid (W3 = _) := hW3
  clear hnn hW3 hk3 hsy hYR hls hts hph hpa hvl hnl hnt hSy hXc
  clear hok hs hn0 hn hkb hO hok1 hwa hi hil hlv hX hY cX cY hlc1 hlc2 hlbF hO' hxb hyb hkd hvs hp1 hp2 HP0
  go_enter Try.func8, Try.ntmps8
  clear k0
  go_wp2_with (fail)
  rw [HW.out, ← hB]
  clear HW hB
  refine wp_region_held_drew (S := (fun w' => w'.cell? ⟨p.WB, 4, none⟩ = some (.slice (some ⟨lb, 0, none⟩) n lc) ∧ w'.cell? ⟨B, 1, none⟩ = some (.int .i64 o.who) ∧ w'.cell? ⟨lb, i * 2, none⟩ = some (.pointer (some ⟨xb, 0, none⟩)) ∧ w'.cell? ⟨lb, i * 2 + 1, none⟩ = some (.pointer (some ⟨yb, 0, none⟩)))) Try.mixed hS0 (fun hHeld => ?_)
  simp only [List.size_toArray, List.length_cons, List.length_nil, Nat.reduceAdd, Array.replicate_succ, Array.replicate_zero, List.push_toArray, List.append_toArray, List.nil_append, List.cons_append]
  refine wpAnyH_take (i := 0) (oi := { dst := some 31, op := Op.move (Operand.tmp 0), type := 23, pos := "law.go:100", after := #[], guard := none }) (v := .pointer (some ⟨p.WB, 0, none⟩)) rfl (by kernel_rfl) (by kernel_rfl) (by kernel_rfl) (fun _ _ _ h => h) (Or.inl ⟨by kernel_rfl, by (intro w hSw; (try dsimp only at hSw); go_simp)⟩) hHeld ?_
  simp only [Act.put, List.setIfInBounds_toArray, List.set_cons_zero, List.set_cons_succ]
  refine wpAnyH_take (i := 1) (oi := { dst := some 32, op := Op.nilCheck (Operand.tmp 31), type := 0, pos := "law.go:100", after := #[{ on := 0, ground := Ground.data }], guard := none }) (v := .pointer (some ⟨p.WB, 0, none⟩)) rfl (by kernel_rfl) (by kernel_rfl) (by kernel_rfl) (fun _ _ _ h => h) (Or.inl ⟨by kernel_rfl, by (intro w hSw; (try dsimp only at hSw); go_simp)⟩) hHeld ?_
  simp only [Act.put, List.setIfInBounds_toArray, List.set_cons_zero, List.set_cons_succ]
  refine wpAnyH_take (i := 2) (oi := { dst := some 33, op := Op.fieldAddr 41 (Operand.tmp 32) 4, type := 0, pos := "law.go:100", after := #[{ on := 1, ground := Ground.data }], guard := none }) (v := .pointer (some ⟨p.WB, 4, none⟩)) rfl (by kernel_rfl) (by kernel_rfl) (by kernel_rfl) (fun _ _ _ h => h) (Or.inl ⟨by kernel_rfl, by (intro w hSw; (try dsimp only at hSw); go_simp)⟩) hHeld ?_
  simp only [Act.put, List.setIfInBounds_toArray, List.set_cons_zero, List.set_cons_succ]
  refine wpAnyH_take (i := 3) (oi := { dst := some 34, op := Op.load 35 (Operand.tmp 33), type := 35, pos := "law.go:100", after := #[{ on := 2, ground := Ground.data }], guard := none }) (v := .slice (some ⟨lb, 0, none⟩) n lc) rfl (by kernel_rfl) (by kernel_rfl) (by kernel_rfl) (fun _ _ _ h => h) (Or.inl ⟨by kernel_rfl, by (intro w hSw; (try dsimp only at hSw); go_simp)⟩) hHeld ?_
  simp only [Act.put, List.setIfInBounds_toArray, List.set_cons_zero, List.set_cons_succ]
  refine wpAnyH_take (i := 4) (oi := { dst := some 35, op := Op.fieldAddr 30 (Operand.tmp 3) 1, type := 0, pos := "law.go:100", after := #[], guard := none }) (v := .pointer (some ⟨B, 1, none⟩)) rfl (by kernel_rfl) (by kernel_rfl) (by kernel_rfl) (fun _ _ _ h => h) (Or.inl ⟨by kernel_rfl, by (intro w hSw; (try dsimp only at hSw); go_simp)⟩) hHeld ?_
  simp only [Act.put, List.setIfInBounds_toArray, List.set_cons_zero, List.set_cons_succ]
  refine wpAnyH_take (i := 5) (oi := { dst := some 36, op := Op.load 3 (Operand.tmp 35), type := 3, pos := "law.go:100", after := #[{ on := 4, ground := Ground.data }], guard := none }) (v := .int .i64 o.who) rfl (by kernel_rfl) (by kernel_rfl) (by kernel_rfl) (fun _ _ _ h => h) (Or.inl ⟨by kernel_rfl, by (intro w hSw; (try dsimp only at hSw); go_simp)⟩) hHeld ?_
  simp only [Act.put, List.setIfInBounds_toArray, List.set_cons_zero, List.set_cons_succ]
  refine wpAnyH_take (i := 6) (oi := { dst := some 37, op := Op.move (Operand.tmp 0), type := 23, pos := "law.go:100", after := #[], guard := none }) (v := .pointer (some ⟨p.WB, 0, none⟩)) rfl (by kernel_rfl) (by kernel_rfl) (by kernel_rfl) (fun _ _ _ h => h) (Or.inl ⟨by kernel_rfl, by (intro w hSw; (try dsimp only at hSw); go_simp)⟩) hHeld ?_
  simp only [Act.put, List.setIfInBounds_toArray, List.set_cons_zero, List.set_cons_succ]
  refine wpAnyH_take (i := 7) (oi := { dst := some 38, op := Op.nilCheck (Operand.tmp 37), type := 0, pos := "law.go:100", after := #[{ on := 6, ground := Ground.data }], guard := none }) (v := .pointer (some ⟨p.WB, 0, none⟩)) rfl (by kernel_rfl) (by kernel_rfl) (by kernel_rfl) (fun _ _ _ h => h) (Or.inl ⟨by kernel_rfl, by (intro w hSw; (try dsimp only at hSw); go_simp)⟩) hHeld ?_
  simp only [Act.put, List.setIfInBounds_toArray, List.set_cons_zero, List.set_cons_succ]
  refine wpAnyH_take (i := 8) (oi := { dst := some 39, op := Op.fieldAddr 41 (Operand.tmp 38) 4, type := 0, pos := "law.go:100", after := #[{ on := 7, ground := Ground.data }], guard := none }) (v := .pointer (some ⟨p.WB, 4, none⟩)) rfl (by kernel_rfl) (by kernel_rfl) (by kernel_rfl) (fun _ _ _ h => h) (Or.inl ⟨by kernel_rfl, by (intro w hSw; (try dsimp only at hSw); go_simp)⟩) hHeld ?_
  simp only [Act.put, List.setIfInBounds_toArray, List.set_cons_zero, List.set_cons_succ]
  refine wpAnyH_take (i := 9) (oi := { dst := some 40, op := Op.load 35 (Operand.tmp 39), type := 35, pos := "law.go:100", after := #[{ on := 8, ground := Ground.data }], guard := none }) (v := .slice (some ⟨lb, 0, none⟩) n lc) rfl (by kernel_rfl) (by kernel_rfl) (by kernel_rfl) (fun _ _ _ h => h) (Or.inl ⟨by kernel_rfl, by (intro w hSw; (try dsimp only at hSw); go_simp)⟩) hHeld ?_
  simp only [Act.put, List.setIfInBounds_toArray, List.set_cons_zero, List.set_cons_succ]
  refine wpAnyH_take (i := 10) (oi := { dst := some 41, op := Op.call { callee := Callee.builtin Builtin.len, args := #[Operand.tmp 40], argTypes := #[35] }, type := 3, pos := "law.go:100", after := #[{ on := 9, ground := Ground.data }], guard := none }) (v := .int .i64 (n : Int)) rfl (by kernel_rfl) (by kernel_rfl) (by kernel_rfl) (fun _ _ _ h => h) (Or.inl ⟨by kernel_rfl, by (intro w hSw; (try dsimp only at hSw); go_simp)⟩) hHeld ?_
  simp only [Act.put, List.setIfInBounds_toArray, List.set_cons_zero, List.set_cons_succ]
  refine wpAnyH_ready (rs := [11, 14]) (by kernel_rfl) (by simp) ?_
  refine AllReadyH.cons (o := { dst := some 42, op := Op.call { callee := Callee.value (Operand.func 20), args := #[Operand.tmp 36, Operand.tmp 41], argTypes := #[3, 3] }, type := 3, pos := "law.go:100", after := #[{ on := 5, ground := Ground.data }, { on := 10, ground := Ground.data }], guard := none }) rfl (fun K hK => ?_) (AllReadyH.cons (o := { dst := some 9, op := Op.alloc 84, type := 0, pos := "law.go:100", after := #[], guard := none }) rfl (fun K hK => ?_) AllReadyH.nil)
  · go_simp
    refine (HPK.out _).mono ?_
    rintro e w5 ⟨rfl, rfl⟩
    refine hK.out _ _ hS0 (fun hHeld => ?_)
    simp only [Act.put, List.setIfInBounds_toArray, List.set_cons_zero, List.set_cons_succ]
    refine wpAnyH_take (i := 12) (oi := { dst := some 43, op := Op.indexAddr 35 (Operand.tmp 34) (Operand.tmp 42), type := 0, pos := "law.go:100", after := #[{ on := 3, ground := Ground.data }, { on := 11, ground := Ground.data }], guard := none }) (v := .pointer (some ⟨lb, i * 2, none⟩)) rfl (by kernel_rfl) (by kernel_rfl) (by kernel_rfl) (fun _ _ _ h => h) (Or.inl ⟨by kernel_rfl, by (intro w hSw; (try dsimp only at hSw); go_simp)⟩) hHeld ?_
    simp only [Act.put, List.setIfInBounds_toArray, List.set_cons_zero, List.set_cons_succ]
    refine wpAnyH_take (i := 13) (oi := { dst := some 44, op := Op.load 84 (Operand.tmp 43), type := 84, pos := "law.go:100", after := #[{ on := 12, ground := Ground.data }], guard := none }) (v := .agg #[.pointer (some ⟨xb, 0, none⟩), .pointer (some ⟨yb, 0, none⟩)]) rfl (by kernel_rfl) (by kernel_rfl) (by kernel_rfl) (fun _ _ _ h => h) (Or.inl ⟨by kernel_rfl, by (intro w hSw; (try dsimp only at hSw); go_simp)⟩) hHeld ?_
    simp only [Act.put, List.setIfInBounds_toArray, List.set_cons_zero, List.set_cons_succ]
    refine wpAnyH_ready (rs := [14]) (by kernel_rfl) (by simp) ?_
    refine AllReadyH.cons (o := { dst := some 9, op := Op.alloc 84, type := 0, pos := "law.go:100", after := #[], guard := none }) rfl (fun K hK => ?_) AllReadyH.nil
    go_simp
    refine hK.out _ _ hSa (fun hHeld => ?_)
    simp only [Act.put, List.setIfInBounds_toArray, List.set_cons_zero, List.set_cons_succ]
    refine wpAnyH_ready (rs := [15]) (by kernel_rfl) (by simp) ?_
    refine AllReadyH.cons (o := { dst := none, op := Op.store 84 (Operand.tmp 9) (Operand.tmp 44), type := 0, pos := "law.go:100", after := #[{ on := 14, ground := Ground.data }, { on := 13, ground := Ground.data }, { on := 11, ground := Ground.chain }, { on := 0, ground := Ground.phase }, { on := 1, ground := Ground.phase }, { on := 2, ground := Ground.phase }, { on := 3, ground := Ground.phase }, { on := 4, ground := Ground.phase }, { on := 5, ground := Ground.phase }, { on := 6, ground := Ground.phase }, { on := 7, ground := Ground.phase }, { on := 8, ground := Ground.phase }, { on := 9, ground := Ground.phase }, { on := 10, ground := Ground.phase }, { on := 11, ground := Ground.phase }, { on := 12, ground := Ground.phase }, { on := 13, ground := Ground.phase }, { on := 14, ground := Ground.phase }], guard := none }) rfl (fun K hK => ?_) AllReadyH.nil
    go_simp
    rw [← HW3.out, ← hC]
    refine hK.out _ _ hSb (fun hHeld => ?_)
    simp only [Act.put, List.setIfInBounds_toArray, List.set_cons_zero, List.set_cons_succ]
    refine wpAnyH_done (by kernel_rfl) ?_ _
    clear hHeld hK HW3 HPK hS0 hSa hSb hC
    go_wp2_with fail
    refine HD.out.mono ?_
    rintro e w1 ⟨ta, tc, rfl, hst, hk1⟩
    have k0 := cell_kept k3 hk1 id
    have hL1 := HT.out.1.kept hk1 fun _ _ e => e
    obtain ⟨A, hA⟩ : ∃ A, A = w1.heap.size := ⟨_, rfl⟩
    have HC : Hid (canB ls.length (ph : Int) pa ts.length = true ∧ SegW w1 ta ts ∧ nt = ts.length ∧ nt ≤ 2147483647) := ⟨HT.out.2.2.2.2.1, hst, HT.out.2.2.2.2.2.1, HT.out.2.2.2.2.2.2.1⟩
    have HH : Hid (p.Ok N w1 ∧ Keeps (fun _ => False) w w1 ∧ p.Same ∧ SegI w1 va ls ∧ nl = ls.length ∧ A = w1.heap.size ∧ (∀ z ∈ ls, z ≤ 9223372036854775807) ∧ nl ≤ 2147483647 ∧ p.Xs.length ≤ 4294967296) := ⟨HM.out.1.1.same hk1, HM.out.2.trans hk1 fun _ _ e => e, HT.out.2.2.2.2.2.2.2.1, hL1, HT.out.2.1, hA, HT.out.2.2.1, HT.out.2.2.2.1, HT.out.2.2.2.2.2.2.2.2⟩
    have H1 := lentI va vc ls w1 hL1 (by have := HT.out.2.1; have := HT.out.2.2.2.1; omega)
    have H2 : ∀ w2, Keeps (fun _ => False) w1 w2 → Calls _ _ _ w2 _ := fun w2 hk => lentW ta tc ts w2 (hst.kept hk fun _ _ e => e) (by have := HC.out.2.2.1; have := HC.out.2.2.2; omega)
    rw [← HT.out.2.1, ← hA] at H1
    rw [← HC.out.2.2.1] at H2
    have H1 : Hid (Calls _ _ _ _ _) := H1
    have H2 : Hid (∀ w2, _) := H2
    clear hst hk1 k3 hL1 hA HD d1 y0 HM HT
    go_wp2_with fail
    refine H1.out.mono ?_
    rintro e w2 ⟨rfl, hb2, hk2⟩
    have k2 := cell_kept k0 hk2 id
    have HB2 : Hid (Blk w2 A _ 3 ∧ Keeps (fun _ => False) w1 w2) := ⟨hb2, hk2⟩
    clear hb2 hk2 k0 H1
    go_wp2_with fail
    refine (H2.out _ HB2.out.2).mono ?_
    rintro e w3 ⟨rfl, hb3, hk3⟩
    have k3 := cell_kept k2 hk3 id
    have HB3 : Hid (Blk w3 A (ivs (ls ++ marksI 9)) 3 ∧ Keeps (fun _ => False) w1 w3) := ⟨HB2.out.1.kept hk3 (fun e => e), HB2.out.2.trans hk3 fun _ _ e => e⟩
    obtain ⟨A2, hA2⟩ : ∃ A2, A2 = w2.heap.size := ⟨_, rfl⟩
    rw [← hA2]
    have HB4 : Hid (Blk w3 A2 (wvs (ts ++ marksW 9)) 26 ∧ A2 = w2.heap.size ∧ w1.heap.size ≤ A2 ∧ ¬ A = A2) := ⟨by rw [hA2]; exact hb3, hA2, by rw [hA2]; exact HB2.out.2.size, fun e => by have := HB2.out.1.lt; omega⟩
    clear hk3 k2 HB2 H2 hA2 hb3
    go_wp2_with fail
    have H3 := restore_ok (some ⟨A, 0, none⟩) (some ⟨A2, 0, none⟩) (nl + 9) (nt + 9) ls ts (ph : Int) pa w3 (segI_pre HB3.out.1) (segW_pre HB4.out.1) (by have := HH.out.2.2.2.2.1; have := HH.out.2.2.2.2.2.2.2.1; omega) HH.out.2.2.2.2.2.2.1 HC.out.1
    rw [← HH.out.2.2.2.2.1, ← HC.out.2.2.1] at H3
    refine H3.mono ?_
    rintro e w4 ⟨X, rfl, hXl, hXt, hXs, hXI, hXf, hk4⟩
    have HX : Hid (X.lk = ls ∧ X.tk = ts ∧ X.st = (if pa then 2 else settledN ls ts) ∧ X.In w4 ∧ (∀ k, X.F k → w3.heap.size ≤ k) ∧ Blk w4 A (ivs (ls ++ marksI 9)) 3 ∧ Blk w4 A2 (wvs (ts ++ marksW 9)) 26 ∧ Keeps (fun _ => False) w1 w4) := ⟨hXl, hXt, hXs, hXI, hXf, HB3.out.1.kept hk4 (fun e => e), HB4.out.1.kept hk4 (fun e => e), HB3.out.2.trans hk4 fun _ _ e => e⟩
    have HA3 : Hid (A < w3.heap.size ∧ A2 < w3.heap.size) := ⟨HB3.out.1.lt, HB4.out.1.lt⟩
    obtain ⟨xb, hxb⟩ : ∃ xb, xb = X.b := ⟨_, rfl⟩
    have HXB : Hid (xb = X.b) := hxb
    rw [← hxb]
    clear H3 hXl hXt hXs hXI hXf hk4 k3 HB3 hxb
    go_wp2_with fail
    have H4 := rrestore_ok va ta vc tc ls ts (ph : Int) pa w4 (HH.out.2.2.2.1.kept HX.out.2.2.2.2.2.2.2 fun _ _ e => e) (HC.out.2.1.kept HX.out.2.2.2.2.2.2.2 fun _ _ e => e) (by have := HH.out.2.2.2.2.1; have := HH.out.2.2.2.2.2.2.2.1; omega) HC.out.1
    rw [← HH.out.2.2.2.2.1, ← HC.out.2.2.1] at H4
    refine H4.mono ?_
    rintro e w5 ⟨Y, rfl, hYl, hYt, hYs, hYI, hYf, hk5⟩
    have HY : Hid (Y.lk = ls ∧ Y.tk = ts ∧ Y.st = (if pa then 2 else settledN ls ts) ∧ Y.Rn w5 ∧ (∀ k, Y.F k → w4.heap.size ≤ k) ∧ Keeps (fun _ => False) w4 w5) := ⟨hYl, hYt, hYs, hYI, hYf, hk5⟩
    have HV : Hid (Blk w5 A (ivs (ls ++ marksI 9)) 3 ∧ Blk w5 A2 (wvs (ts ++ marksW 9)) 26 ∧ Keeps (fun _ => False) w1 w5) := ⟨HX.out.2.2.2.2.2.1.kept hk5 (fun e => e), HX.out.2.2.2.2.2.2.1.kept hk5 (fun e => e), HX.out.2.2.2.2.2.2.2.trans hk5 fun _ _ e => e⟩
    obtain ⟨yb, hyb⟩ : ∃ yb, yb = Y.b := ⟨_, rfl⟩
    have HYB : Hid (yb = Y.b) := hyb
    rw [← hyb]
    clear H4 hYl hYt hYs hYI hYf hk5 hyb
    go_wp2_with fail
    have H6 := backI A va vc ls w5 HV.out.1 (HH.out.2.2.2.1.kept HV.out.2.2 fun _ _ e => e) (fun x hx h0 e => by have := segI_lt' HH.out.2.2.2.1 x hx h0; have := HH.out.2.2.2.2.2.1; omega) (by have := HH.out.2.2.2.2.1; have := HH.out.2.2.2.2.2.2.2.1; omega)
    rw [← HH.out.2.2.2.2.1] at H6
    refine H6.mono ?_
    rintro e w6 ⟨rfl, hk6⟩
    have HK6 : Hid (Keeps (· = A) w5 w6) := hk6
    clear H6 hk6
    go_wp2_with fail
    have H7 := backW A2 ta tc ts w6 (HV.out.2.1.kept HK6.out fun e => HB4.out.2.2.2 e.symm) ((HC.out.2.1.kept HV.out.2.2 fun _ _ e => e).keptN HK6.out fun x hx h0 e => by have := segW_lt' HC.out.2.1 x hx h0; have := HH.out.2.2.2.2.2.1; omega) (fun x hx h0 e => by have := segW_lt' HC.out.2.1 x hx h0; have := HB4.out.2.2.1; omega) (by have := HC.out.2.2.1; have := HC.out.2.2.2; omega)
    rw [← HC.out.2.2.1] at H7
    refine H7.mono ?_
    rintro e w7 ⟨rfl, hk7⟩
    have HK7 : Hid (Keeps (· = A2) w6 w7 ∧ Keeps (fun _ => False) w1 w7) := ⟨hk7, ((HV.out.2.2.none.trans HK6.out fun k hk e => by have := HH.out.2.2.2.2.2.1; show w1.heap.size ≤ k; omega).trans hk7 fun k hk e => by have := HB4.out.2.2.1; show w1.heap.size ≤ k; omega).new⟩
    clear H7 hk7
    have hX7 : X.In w7 := ((HX.out.2.2.2.1.kept HY.out.2.2.2.2.2 fun _ _ e => e).kept HK6.out fun k hk e => by have := HX.out.2.2.2.2.1 k hk; have := HA3.out.1; omega).kept HK7.out.1 fun k hk e => by have := HX.out.2.2.2.2.1 k hk; have := HA3.out.2; omega
    have s34 : w1.heap.size ≤ w3.heap.size := by have := HB4.out.2.2.1; have := HA3.out.2; omega
    have s45 : w4.heap.size ≤ w7.heap.size := Nat.le_trans HY.out.2.2.2.2.2.size (Nat.le_trans HK6.out.size HK7.out.1.size)
    have s14 : w1.heap.size ≤ w4.heap.size := HX.out.2.2.2.2.2.2.2.size
    have hY7 : Y.Rn w7 := ((HY.out.2.2.2.1.kept HK6.out fun k hk e => by have := HY.out.2.2.2.2.1 k hk; have := HX.out.2.2.2.2.2.1.lt; omega).kept HK7.out.1 fun k hk e => by have := HY.out.2.2.2.2.1 k hk; have := HX.out.2.2.2.2.2.2.1.lt; omega)
    have hr6 := owns_kept HH.out.1.row HK7.out.2 fun _ _ e => e
    obtain ⟨lv', W7, hap, hr7, hg7⟩ := append_pair xb yb p.lv p.Xs.length _ hr6 (by have := HH.out.2.2.2.2.2.2.2.2; omega)
    have hfin := HH.out.1.pair2 (w5 := w4) hX7 (by rw [HX.out.1]; have := HH.out.2.2.2.2.1; have := HH.out.2.2.2.2.2.2.2.1; omega) (fun k hk => ⟨Nat.le_trans s34 (HX.out.2.2.2.2.1 k hk), HX.out.2.2.2.1.lt hk⟩) s14 hY7 HY.out.2.2.2.2.1 s45 HK7.out.2 (by rw [← HXB.out, ← HYB.out]; exact hr7) hg7
    have hsame := HH.out.2.2.1.pair HH.out.1.len (X := X) (Y := Y) (by rw [HY.out.1, HX.out.1]) (by rw [HY.out.2.1, HX.out.2.1]) (by rw [HY.out.2.2.1, HX.out.2.2.1]) lv'
    obtain ⟨la', lc', hlv', -, -⟩ := owns_slice hr7
    obtain ⟨la, lc, hlv, -, -⟩ := owns_slice HH.out.1.row
    have c4 : w7.cell? ⟨p.WB, 4, none⟩ = some (.slice la p.Xs.length lc) := by rw [(HH.out.1.same HK7.out.2).blk.cell (i := 4) rfl, hlv]
    have hB7 := (HH.out.1.same HK7.out.2).blk.kept hg7.keeps (fun e => by have := HH.out.1.sep.one 5 0 _ (Pst.f5 e.symm) (Pst.f0 rfl); omega)
    have d4 : W7.cell? ⟨p.WB, 4, none⟩ = some (.slice la p.Xs.length lc) := by rw [hB7.cell (i := 4) rfl, hlv]
    have z4 := hB7.frozen 4
    rw [hlv] at hap
    rw [hlv'] at hap hfin hsame
    have HAP : Hid (∀ ty, _) := hap
    have HFIN : Hid (_ ∧ _) := ⟨hfin, hsame⟩
    clear hX7 s34 s45 s14 hY7 hr6 hr7 hg7 hfin hsame hlv' hlv hap hB7
    go_wp2_with (at_builtin; go_must (refine wpList_append_run rfl (.tmp 133) (.tmp 137) 35 35 rfl (.slice la p.Xs.length lc) (.slice (some ⟨w7.heap.size, 0, none⟩) 1 1) (.slice la' (p.Xs.length + 1) lc') W7 rfl rfl HAP.out ?_; refine Hid.out ?_))
    unfold Hid
    clear HAP c4
    go_wp2
    go_ret
    exact ⟨rfl, _, HFIN.out.1.1, HFIN.out.2, rfl, by simp, by simp, by simp, HH.out.2.1.none.trans HFIN.out.1.2 fun _ _ e => e⟩
  · go_simp
    refine hK.out _ _ hSa (fun hHeld => ?_)
    simp only [Act.put, List.setIfInBounds_toArray, List.set_cons_zero, List.set_cons_succ]
    refine wpAnyH_ready (rs := [11]) (by kernel_rfl) (by simp) ?_
    refine AllReadyH.cons (o := { dst := some 42, op := Op.call { callee := Callee.value (Operand.func 20), args := #[Operand.tmp 36, Operand.tmp 41], argTypes := #[3, 3] }, type := 3, pos := "law.go:100", after := #[{ on := 5, ground := Ground.data }, { on := 10, ground := Ground.data }], guard := none }) rfl (fun K hK => ?_) AllReadyH.nil
    go_simp
    refine (HPK.out _).mono ?_
    rintro e w5 ⟨rfl, rfl⟩
    refine hK.out _ _ hSa (fun hHeld => ?_)
    simp only [Act.put, List.setIfInBounds_toArray, List.set_cons_zero, List.set_cons_succ]
    refine wpAnyH_take (i := 12) (oi := { dst := some 43, op := Op.indexAddr 35 (Operand.tmp 34) (Operand.tmp 42), type := 0, pos := "law.go:100", after := #[{ on := 3, ground := Ground.data }, { on := 11, ground := Ground.data }], guard := none }) (v := .pointer (some ⟨lb, i * 2, none⟩)) rfl (by kernel_rfl) (by kernel_rfl) (by kernel_rfl) (fun _ _ _ h => h) (Or.inl ⟨by kernel_rfl, by (intro w hSw; (try dsimp only at hSw); go_simp)⟩) hHeld ?_
    simp only [Act.put, List.setIfInBounds_toArray, List.set_cons_zero, List.set_cons_succ]
    refine wpAnyH_take (i := 13) (oi := { dst := some 44, op := Op.load 84 (Operand.tmp 43), type := 84, pos := "law.go:100", after := #[{ on := 12, ground := Ground.data }], guard := none }) (v := .agg #[.pointer (some ⟨xb, 0, none⟩), .pointer (some ⟨yb, 0, none⟩)]) rfl (by kernel_rfl) (by kernel_rfl) (by kernel_rfl) (fun _ _ _ h => h) (Or.inl ⟨by kernel_rfl, by (intro w hSw; (try dsimp only at hSw); go_simp)⟩) hHeld ?_
    simp only [Act.put, List.setIfInBounds_toArray, List.set_cons_zero, List.set_cons_succ]
    refine wpAnyH_ready (rs := [15]) (by kernel_rfl) (by simp) ?_
    refine AllReadyH.cons (o := { dst := none, op := Op.store 84 (Operand.tmp 9) (Operand.tmp 44), type := 0, pos := "law.go:100", after := #[{ on := 14, ground := Ground.data }, { on := 13, ground := Ground.data }, { on := 11, ground := Ground.chain }, { on := 0, ground := Ground.phase }, { on := 1, ground := Ground.phase }, { on := 2, ground := Ground.phase }, { on := 3, ground := Ground.phase }, { on := 4, ground := Ground.phase }, { on := 5, ground := Ground.phase }, { on := 6, ground := Ground.phase }, { on := 7, ground := Ground.phase }, { on := 8, ground := Ground.phase }, { on := 9, ground := Ground.phase }, { on := 10, ground := Ground.phase }, { on := 11, ground := Ground.phase }, { on := 12, ground := Ground.phase }, { on := 13, ground := Ground.phase }, { on := 14, ground := Ground.phase }], guard := none }) rfl (fun K hK => ?_) AllReadyH.nil
    go_simp
    rw [← HW3.out, ← hC]
    refine hK.out _ _ hSb (fun hHeld => ?_)
    simp only [Act.put, List.setIfInBounds_toArray, List.set_cons_zero, List.set_cons_succ]
    refine wpAnyH_done (by kernel_rfl) ?_ _
    clear hHeld hK HW3 HPK hS0 hSa hSb hC
    go_wp2_with fail
    refine HD.out.mono ?_
    rintro e w1 ⟨ta, tc, rfl, hst, hk1⟩
    have k0 := cell_kept k3 hk1 id
    have hL1 := HT.out.1.kept hk1 fun _ _ e => e
    obtain ⟨A, hA⟩ : ∃ A, A = w1.heap.size := ⟨_, rfl⟩
    have HC : Hid (canB ls.length (ph : Int) pa ts.length = true ∧ SegW w1 ta ts ∧ nt = ts.length ∧ nt ≤ 2147483647) := ⟨HT.out.2.2.2.2.1, hst, HT.out.2.2.2.2.2.1, HT.out.2.2.2.2.2.2.1⟩
    have HH : Hid (p.Ok N w1 ∧ Keeps (fun _ => False) w w1 ∧ p.Same ∧ SegI w1 va ls ∧ nl = ls.length ∧ A = w1.heap.size ∧ (∀ z ∈ ls, z ≤ 9223372036854775807) ∧ nl ≤ 2147483647 ∧ p.Xs.length ≤ 4294967296) := ⟨HM.out.1.1.same hk1, HM.out.2.trans hk1 fun _ _ e => e, HT.out.2.2.2.2.2.2.2.1, hL1, HT.out.2.1, hA, HT.out.2.2.1, HT.out.2.2.2.1, HT.out.2.2.2.2.2.2.2.2⟩
    have H1 := lentI va vc ls w1 hL1 (by have := HT.out.2.1; have := HT.out.2.2.2.1; omega)
    have H2 : ∀ w2, Keeps (fun _ => False) w1 w2 → Calls _ _ _ w2 _ := fun w2 hk => lentW ta tc ts w2 (hst.kept hk fun _ _ e => e) (by have := HC.out.2.2.1; have := HC.out.2.2.2; omega)
    rw [← HT.out.2.1, ← hA] at H1
    rw [← HC.out.2.2.1] at H2
    have H1 : Hid (Calls _ _ _ _ _) := H1
    have H2 : Hid (∀ w2, _) := H2
    clear hst hk1 k3 hL1 hA HD d1 y0 HM HT
    go_wp2_with fail
    refine H1.out.mono ?_
    rintro e w2 ⟨rfl, hb2, hk2⟩
    have k2 := cell_kept k0 hk2 id
    have HB2 : Hid (Blk w2 A _ 3 ∧ Keeps (fun _ => False) w1 w2) := ⟨hb2, hk2⟩
    clear hb2 hk2 k0 H1
    go_wp2_with fail
    refine (H2.out _ HB2.out.2).mono ?_
    rintro e w3 ⟨rfl, hb3, hk3⟩
    have k3 := cell_kept k2 hk3 id
    have HB3 : Hid (Blk w3 A (ivs (ls ++ marksI 9)) 3 ∧ Keeps (fun _ => False) w1 w3) := ⟨HB2.out.1.kept hk3 (fun e => e), HB2.out.2.trans hk3 fun _ _ e => e⟩
    obtain ⟨A2, hA2⟩ : ∃ A2, A2 = w2.heap.size := ⟨_, rfl⟩
    rw [← hA2]
    have HB4 : Hid (Blk w3 A2 (wvs (ts ++ marksW 9)) 26 ∧ A2 = w2.heap.size ∧ w1.heap.size ≤ A2 ∧ ¬ A = A2) := ⟨by rw [hA2]; exact hb3, hA2, by rw [hA2]; exact HB2.out.2.size, fun e => by have := HB2.out.1.lt; omega⟩
    clear hk3 k2 HB2 H2 hA2 hb3
    go_wp2_with fail
    have H3 := restore_ok (some ⟨A, 0, none⟩) (some ⟨A2, 0, none⟩) (nl + 9) (nt + 9) ls ts (ph : Int) pa w3 (segI_pre HB3.out.1) (segW_pre HB4.out.1) (by have := HH.out.2.2.2.2.1; have := HH.out.2.2.2.2.2.2.2.1; omega) HH.out.2.2.2.2.2.2.1 HC.out.1
    rw [← HH.out.2.2.2.2.1, ← HC.out.2.2.1] at H3
    refine H3.mono ?_
    rintro e w4 ⟨X, rfl, hXl, hXt, hXs, hXI, hXf, hk4⟩
    have HX : Hid (X.lk = ls ∧ X.tk = ts ∧ X.st = (if pa then 2 else settledN ls ts) ∧ X.In w4 ∧ (∀ k, X.F k → w3.heap.size ≤ k) ∧ Blk w4 A (ivs (ls ++ marksI 9)) 3 ∧ Blk w4 A2 (wvs (ts ++ marksW 9)) 26 ∧ Keeps (fun _ => False) w1 w4) := ⟨hXl, hXt, hXs, hXI, hXf, HB3.out.1.kept hk4 (fun e => e), HB4.out.1.kept hk4 (fun e => e), HB3.out.2.trans hk4 fun _ _ e => e⟩
    have HA3 : Hid (A < w3.heap.size ∧ A2 < w3.heap.size) := ⟨HB3.out.1.lt, HB4.out.1.lt⟩
    obtain ⟨xb, hxb⟩ : ∃ xb, xb = X.b := ⟨_, rfl⟩
    have HXB : Hid (xb = X.b) := hxb
    rw [← hxb]
    clear H3 hXl hXt hXs hXI hXf hk4 k3 HB3 hxb
    go_wp2_with fail
    have H4 := rrestore_ok va ta vc tc ls ts (ph : Int) pa w4 (HH.out.2.2.2.1.kept HX.out.2.2.2.2.2.2.2 fun _ _ e => e) (HC.out.2.1.kept HX.out.2.2.2.2.2.2.2 fun _ _ e => e) (by have := HH.out.2.2.2.2.1; have := HH.out.2.2.2.2.2.2.2.1; omega) HC.out.1
    rw [← HH.out.2.2.2.2.1, ← HC.out.2.2.1] at H4
    refine H4.mono ?_
    rintro e w5 ⟨Y, rfl, hYl, hYt, hYs, hYI, hYf, hk5⟩
    have HY : Hid (Y.lk = ls ∧ Y.tk = ts ∧ Y.st = (if pa then 2 else settledN ls ts) ∧ Y.Rn w5 ∧ (∀ k, Y.F k → w4.heap.size ≤ k) ∧ Keeps (fun _ => False) w4 w5) := ⟨hYl, hYt, hYs, hYI, hYf, hk5⟩
    have HV : Hid (Blk w5 A (ivs (ls ++ marksI 9)) 3 ∧ Blk w5 A2 (wvs (ts ++ marksW 9)) 26 ∧ Keeps (fun _ => False) w1 w5) := ⟨HX.out.2.2.2.2.2.1.kept hk5 (fun e => e), HX.out.2.2.2.2.2.2.1.kept hk5 (fun e => e), HX.out.2.2.2.2.2.2.2.trans hk5 fun _ _ e => e⟩
    obtain ⟨yb, hyb⟩ : ∃ yb, yb = Y.b := ⟨_, rfl⟩
    have HYB : Hid (yb = Y.b) := hyb
    rw [← hyb]
    clear H4 hYl hYt hYs hYI hYf hk5 hyb
    go_wp2_with fail
    have H6 := backI A va vc ls w5 HV.out.1 (HH.out.2.2.2.1.kept HV.out.2.2 fun _ _ e => e) (fun x hx h0 e => by have := segI_lt' HH.out.2.2.2.1 x hx h0; have := HH.out.2.2.2.2.2.1; omega) (by have := HH.out.2.2.2.2.1; have := HH.out.2.2.2.2.2.2.2.1; omega)
    rw [← HH.out.2.2.2.2.1] at H6
    refine H6.mono ?_
    rintro e w6 ⟨rfl, hk6⟩
    have HK6 : Hid (Keeps (· = A) w5 w6) := hk6
    clear H6 hk6
    go_wp2_with fail
    have H7 := backW A2 ta tc ts w6 (HV.out.2.1.kept HK6.out fun e => HB4.out.2.2.2 e.symm) ((HC.out.2.1.kept HV.out.2.2 fun _ _ e => e).keptN HK6.out fun x hx h0 e => by have := segW_lt' HC.out.2.1 x hx h0; have := HH.out.2.2.2.2.2.1; omega) (fun x hx h0 e => by have := segW_lt' HC.out.2.1 x hx h0; have := HB4.out.2.2.1; omega) (by have := HC.out.2.2.1; have := HC.out.2.2.2; omega)
    rw [← HC.out.2.2.1] at H7
    refine H7.mono ?_
    rintro e w7 ⟨rfl, hk7⟩
    have HK7 : Hid (Keeps (· = A2) w6 w7 ∧ Keeps (fun _ => False) w1 w7) := ⟨hk7, ((HV.out.2.2.none.trans HK6.out fun k hk e => by have := HH.out.2.2.2.2.2.1; show w1.heap.size ≤ k; omega).trans hk7 fun k hk e => by have := HB4.out.2.2.1; show w1.heap.size ≤ k; omega).new⟩
    clear H7 hk7
    have hX7 : X.In w7 := ((HX.out.2.2.2.1.kept HY.out.2.2.2.2.2 fun _ _ e => e).kept HK6.out fun k hk e => by have := HX.out.2.2.2.2.1 k hk; have := HA3.out.1; omega).kept HK7.out.1 fun k hk e => by have := HX.out.2.2.2.2.1 k hk; have := HA3.out.2; omega
    have s34 : w1.heap.size ≤ w3.heap.size := by have := HB4.out.2.2.1; have := HA3.out.2; omega
    have s45 : w4.heap.size ≤ w7.heap.size := Nat.le_trans HY.out.2.2.2.2.2.size (Nat.le_trans HK6.out.size HK7.out.1.size)
    have s14 : w1.heap.size ≤ w4.heap.size := HX.out.2.2.2.2.2.2.2.size
    have hY7 : Y.Rn w7 := ((HY.out.2.2.2.1.kept HK6.out fun k hk e => by have := HY.out.2.2.2.2.1 k hk; have := HX.out.2.2.2.2.2.1.lt; omega).kept HK7.out.1 fun k hk e => by have := HY.out.2.2.2.2.1 k hk; have := HX.out.2.2.2.2.2.2.1.lt; omega)
    have hr6 := owns_kept HH.out.1.row HK7.out.2 fun _ _ e => e
    obtain ⟨lv', W7, hap, hr7, hg7⟩ := append_pair xb yb p.lv p.Xs.length _ hr6 (by have := HH.out.2.2.2.2.2.2.2.2; omega)
    have hfin := HH.out.1.pair2 (w5 := w4) hX7 (by rw [HX.out.1]; have := HH.out.2.2.2.2.1; have := HH.out.2.2.2.2.2.2.2.1; omega) (fun k hk => ⟨Nat.le_trans s34 (HX.out.2.2.2.2.1 k hk), HX.out.2.2.2.1.lt hk⟩) s14 hY7 HY.out.2.2.2.2.1 s45 HK7.out.2 (by rw [← HXB.out, ← HYB.out]; exact hr7) hg7
    have hsame := HH.out.2.2.1.pair HH.out.1.len (X := X) (Y := Y) (by rw [HY.out.1, HX.out.1]) (by rw [HY.out.2.1, HX.out.2.1]) (by rw [HY.out.2.2.1, HX.out.2.2.1]) lv'
    obtain ⟨la', lc', hlv', -, -⟩ := owns_slice hr7
    obtain ⟨la, lc, hlv, -, -⟩ := owns_slice HH.out.1.row
    have c4 : w7.cell? ⟨p.WB, 4, none⟩ = some (.slice la p.Xs.length lc) := by rw [(HH.out.1.same HK7.out.2).blk.cell (i := 4) rfl, hlv]
    have hB7 := (HH.out.1.same HK7.out.2).blk.kept hg7.keeps (fun e => by have := HH.out.1.sep.one 5 0 _ (Pst.f5 e.symm) (Pst.f0 rfl); omega)
    have d4 : W7.cell? ⟨p.WB, 4, none⟩ = some (.slice la p.Xs.length lc) := by rw [hB7.cell (i := 4) rfl, hlv]
    have z4 := hB7.frozen 4
    rw [hlv] at hap
    rw [hlv'] at hap hfin hsame
    have HAP : Hid (∀ ty, _) := hap
    have HFIN : Hid (_ ∧ _) := ⟨hfin, hsame⟩
    clear hX7 s34 s45 s14 hY7 hr6 hr7 hg7 hfin hsame hlv' hlv hap hB7
    go_wp2_with (at_builtin; go_must (refine wpList_append_run rfl (.tmp 133) (.tmp 137) 35 35 rfl (.slice la p.Xs.length lc) (.slice (some ⟨w7.heap.size, 0, none⟩) 1 1) (.slice la' (p.Xs.length + 1) lc') W7 rfl rfl HAP.out ?_; refine Hid.out ?_))
    unfold Hid
    clear HAP c4
    go_wp2
    go_ret
    exact ⟨rfl, _, HFIN.out.1.1, HFIN.out.2, rfl, by simp, by simp, by simp, HH.out.2.1.none.trans HFIN.out.1.2 fun _ _ e => e⟩
end Go.Proofs.Ytadhldpeklkcmaa
