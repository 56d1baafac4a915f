import Derived.Test.YtadhldpeklkcmaaSm
import Derived.Test.YtadhldpeklkcmaaR
import Derived.Test.YtadhldpeklkcmaaRf
namespace Go.Proofs.Ytadhldpeklkcmaa
open Go.RowKit
set_option linter.unusedVariables false
set_option linter.unusedSimpArgs false
set_option maxRecDepth 10000
set_option maxHeartbeats 2000000 in
theorem does_state (p : Pst) (N : Nat) (o : Opr) (w : World) (hok : p.Ok N w) (hs : p.Same) (hn0 : 0 < p.Xs.length) (hn : p.Xs.length ≤ 4294967296) (hp1 : -9223372036854775808 ≤ o.who) (hp2 : o.who ≤ 9223372036854775807) (hes : p.es.length ≤ 17179869183) (hkd : o.kind = 8) :
    Calls Try.prog 9 #[.pointer (some ⟨p.WB, 0, none⟩), .agg o.vs.toArray] w (PlayP p N w) := by
  obtain ⟨hkb, hO⟩ := box_op o w
  obtain ⟨w1, hw1⟩ : ∃ w1, w1 = w.alloc (.cells o.vs.toArray 30) := ⟨_, rfl⟩
  rw [← hw1] at hkb hO
  have hok1 := hok.same hkb
  obtain ⟨i, hi⟩ : ∃ i, i = pk o.who p.Xs.length := ⟨_, rfl⟩
  have hil : i < p.Xs.length := by rw [hi]; exact pk_lt _ _ hn0
  obtain ⟨lb, lc, X, Y, hlv, hX, hY, cX, cY, hlc1, hlc2⟩ := hok1.at hil
  obtain ⟨B, hB⟩ : ∃ B, B = w.heap.size := ⟨_, rfl⟩
  have hlbF : p.F 5 lb := Pst.f5 (by rw [hlv]; rfl)
  have hO' : Blk w1 B o.vs 30 := by rw [hB]; exact hO
  have hS0 : dcell p o B lb lc i X.b Y.b w1.drew := ⟨by have := hok1.drew.blk.cell (i := 4) rfl; rw [this, hlv], hO'.drew.cell (i := 1) rfl, cX, cY⟩
  obtain ⟨xb, hxb⟩ : ∃ xb, xb = X.b := ⟨_, rfl⟩
  obtain ⟨yb, hyb⟩ : ∃ yb, yb = Y.b := ⟨_, rfl⟩
  rw [← hxb, ← hyb] at hS0
  have HPK : ∀ w', Calls _ _ _ w' _ := fun w' => pick_big o.who p.Xs.length w' hn0 (by omega) hp1 hp2
  rw [← hi] at HPK
  have k0 : w1.cell? ⟨B, 0, none⟩ = some (.int .i64 8) := by rw [← hkd]; exact hO'.cell (i := 0) rfl
  have HW : Hid (w.alloc (.cells #[.int .i64 8, .int .i64 o.who, .int .i64 o.a, .int .i64 o.b, .bool o.asked, .int .u32 (o.wd.toNat : Int), .slice o.la o.ln o.lc, .slice o.ta o.tn o.tc] 30) = w1) := by rw [hw1, ← hkd]; rfl
  have hvs : o.vs.toArray = #[.int .i64 8, .int .i64 o.who, .int .i64 o.a, .int .i64 o.b, .bool o.asked, .int .u32 (o.wd.toNat : Int), .slice o.la o.ln o.lc, .slice o.ta o.tn o.tc] := by rw [← hkd]; rfl
  rw [hvs]
  obtain ⟨n, hnn⟩ : ∃ n, n = p.Xs.length := ⟨_, rfl⟩
  unfold dcell at hS0
  rw [← hnn] at hS0 HPK hil hlc1 hn
  have HPK : Hid (∀ w', Calls _ _ _ w' _) := HPK
  have hil' : (i : Int) < n := by omega
  have hlc1' : (n : Int) ≤ lc := by omega
  have hlc2' : (lc : Int) ≤ 9223372036854775807 := by unfold maxLen at hlc2; omega
  have hnI : (n : Int) ≤ 4294967296 := by omega
  have HH : Hid (p.Ok N w1 ∧ Keeps (fun _ => False) w w1 ∧ p.Same ∧ p.Xs[i]? = some X ∧ p.Ys[i]? = some Y ∧ xb = X.b ∧ yb = Y.b ∧ p.F 5 lb ∧ Blk w1 B o.vs 30) := ⟨hok1, hkb, hs, hX, hY, hxb, hyb, hlbF, hO'⟩
  obtain ⟨C, hC⟩ : ∃ C, C = w1.heap.size := ⟨_, rfl⟩
  obtain ⟨W3, hW3⟩ : ∃ W3, W3 = (w1.alloc (.cells #[.pointer (some ⟨xb, 0, none⟩), .pointer (some ⟨yb, 0, none⟩)] 84)).drew := ⟨_, rfl⟩
  have hk3 : Keeps (fun _ => False) w1 W3 := by rw [hW3]; exact ((Keeps.refl _ _).alloc _).drew
  have HM : Hid (Mid N w C xb yb p W3) := by
    refine ⟨hok1.same hk3, (hkb.trans hk3 fun _ _ e => e).none, ?_, fun c k hk e => by have := hok1.sep.lt c k hk; omega⟩
    rw [hW3, hC]
    exact (Blk.new w1 #[.pointer (some ⟨xb, 0, none⟩), .pointer (some ⟨yb, 0, none⟩)] 84).drew
  have k3 : W3.cell? ⟨B, 0, none⟩ = some (.int .i64 8) := cell_kept k0 hk3 id
  have hSa : dcell p o B lb lc i xb yb (w1.alloc (.cells #[.pointer none, .pointer none] 84)).drew := by
    have h : dcell p o B lb lc i xb yb w1 := by unfold dcell; rw [← hnn]; exact hS0
    exact h.kept (S := fun _ => False) ((((Keeps.refl _ w1).alloc _).drew : Keeps (fun _ => False) w1 _)) id id id
  have hSb : dcell p o B lb lc i xb yb W3 := by
    have h : dcell p o B lb lc i xb yb w1 := by unfold dcell; rw [← hnn]; exact hS0
    exact h.kept (S := fun _ => False) hk3 id id id
  unfold dcell at hSa hSb
  rw [← hnn] at hSa hSb
  have hsy := hs.ch i X Y hX hY
  obtain ⟨ts, hts⟩ : ∃ ts, ts = X.tk := ⟨_, rfl⟩
  obtain ⟨ph, hph⟩ : ∃ ph : Nat, ph = heldN X.tk X.st := ⟨_, rfl⟩
  obtain ⟨pa, hpa⟩ : ∃ pa, pa = askedB X.st := ⟨_, rfl⟩
  have hSt : ∀ w5, Mid N w C xb yb p w5 → Calls Try.prog 22 #[.pointer (some ⟨xb, 0, none⟩)] w5 fun e w6 => ∃ a c, e = .returned (.tuple #[.int .i64 (ph : Nat), .bool pa, .slice a ts.length c]) ∧ w6.ownsRow 0 26 1 (.slice a ts.length c) ts.length (wvs ts) ∧ ((Value.slice a ts.length c).ownBlock = none ∨ ∃ k, (Value.slice a ts.length c).ownBlock = some k ∧ w5.heap.size ≤ k) ∧ Keeps (fun _ => False) w5 w6 := by
    intro w5 hm
    have h1 := state_any X w5 (hm.1.cx i X hX).1
    rw [← hxb] at h1
    refine h1.mono ?_
    rintro e w6 ⟨v, he, ho, hf, hK⟩
    rw [← hts] at ho
    obtain ⟨a, c, hv, -, -⟩ := owns_slice ho
    rw [hv] at he ho hf
    exact ⟨a, c, by rw [he, hph, hpa], ho, hf, hK⟩
  have hSy : ∀ w5, Mid N w C xb yb p w5 → Calls Try.prog 39 #[.pointer (some ⟨yb, 0, none⟩)] w5 fun e w6 => ∃ a c, e = .returned (.tuple #[.int .i64 (ph : Nat), .bool pa, .slice a ts.length c]) ∧ w6.ownsRow 0 26 1 (.slice a ts.length c) ts.length (wvs ts) ∧ ((Value.slice a ts.length c).ownBlock = none ∨ ∃ k, (Value.slice a ts.length c).ownBlock = some k ∧ w5.heap.size ≤ k) ∧ Keeps (fun _ => False) w5 w6 := by
    intro w5 hm
    have h1 := rstate_any Y w5 (hm.1.cy i Y hY)
    rw [← hyb] at h1
    refine h1.mono ?_
    rintro e w6 ⟨v, he, ho, hf, hK⟩
    rw [hsy.2.1] at ho he
    rw [hsy.2.2] at he
    rw [← hts] at ho
    obtain ⟨a, c, hv, -, -⟩ := owns_slice ho
    rw [hv] at he ho hf
    exact ⟨a, c, by rw [he, hph, hpa], ho, hf, hK⟩
  have htl : ts.length ≤ 4294967296 := by
    have h1 := (hok.cx i X hX)
    have h2 := h1.1.wf
    have h3 : X.tk.length ≤ X.lk.length := by rcases h2 with h | h | h <;> omega
    rw [hts]; omega
  have HT : Hid (ts.length ≤ 4294967296 ∧ p.es.length ≤ 17179869183 ∧ p.Same) := ⟨htl, hes, hs⟩
  have HA : Hid (∀ w5, _) := hSt
  have HD : Hid (∀ w5, _) := hSy
  have HNN : Hid (n = p.Xs.length) := hnn
  have HW3 : Hid (W3 = _) := hW3
  obtain ⟨nt, hnt⟩ : ∃ nt, nt = ts.length := ⟨_, rfl⟩
  have HNT : Hid (nt = ts.length) := hnt
  have d0 := HM.out.cells.1
  have d1 := HM.out.cells.2.1
  clear hnn hW3 hk3 hsy hts hph hpa hSt hSy htl hnt hes
  clear hok hs hn0 hn hkb hO hok1 hw1 hi hil hlv hX hY cX cY hlc1 hlc2 hlbF hO' hxb hyb hkd hvs hp1 hp2
  go_enter Try.func9, Try.ntmps9
  clear k0
  go_wp2_with (fail)
  rw [HW.out, ← hB]
  have HBs : Hid (B = w.heap.size) := hB
  clear HW hB HBs
  refine wp_region_held_drew (S := (fun w' => w'.cell? ⟨p.WB, 4, none⟩ = some (.slice (some ⟨lb, 0, none⟩) n lc) ∧ w'.cell? ⟨B, 1, none⟩ = some (.int .i64 o.who) ∧ w'.cell? ⟨lb, i * 2, none⟩ = some (.pointer (some ⟨xb, 0, none⟩)) ∧ w'.cell? ⟨lb, i * 2 + 1, none⟩ = some (.pointer (some ⟨yb, 0, none⟩)))) Try.mixed hS0 (fun hHeld => ?_)
  simp only [List.size_toArray, List.length_cons, List.length_nil, Nat.reduceAdd, Array.replicate_succ, Array.replicate_zero, List.push_toArray, List.append_toArray, List.nil_append, List.cons_append]
  refine wpAnyH_take (i := 0) (oi := { dst := some 26, op := Op.move (Operand.tmp 0), type := 23, pos := "law.go:127", after := #[], guard := none }) (v := .pointer (some ⟨p.WB, 0, none⟩)) rfl (by kernel_rfl) (by kernel_rfl) (by kernel_rfl) (fun _ _ _ h => h) (Or.inl ⟨by kernel_rfl, by (intro w hSw; (try dsimp only at hSw); go_simp)⟩) hHeld ?_
  simp only [Act.put, List.setIfInBounds_toArray, List.set_cons_zero, List.set_cons_succ]
  refine wpAnyH_take (i := 1) (oi := { dst := some 27, op := Op.nilCheck (Operand.tmp 26), type := 0, pos := "law.go:127", after := #[{ on := 0, ground := Ground.data }], guard := none }) (v := .pointer (some ⟨p.WB, 0, none⟩)) rfl (by kernel_rfl) (by kernel_rfl) (by kernel_rfl) (fun _ _ _ h => h) (Or.inl ⟨by kernel_rfl, by (intro w hSw; (try dsimp only at hSw); go_simp)⟩) hHeld ?_
  simp only [Act.put, List.setIfInBounds_toArray, List.set_cons_zero, List.set_cons_succ]
  refine wpAnyH_take (i := 2) (oi := { dst := some 28, op := Op.fieldAddr 41 (Operand.tmp 27) 4, type := 0, pos := "law.go:127", after := #[{ on := 1, ground := Ground.data }], guard := none }) (v := .pointer (some ⟨p.WB, 4, none⟩)) rfl (by kernel_rfl) (by kernel_rfl) (by kernel_rfl) (fun _ _ _ h => h) (Or.inl ⟨by kernel_rfl, by (intro w hSw; (try dsimp only at hSw); go_simp)⟩) hHeld ?_
  simp only [Act.put, List.setIfInBounds_toArray, List.set_cons_zero, List.set_cons_succ]
  refine wpAnyH_take (i := 3) (oi := { dst := some 29, op := Op.load 35 (Operand.tmp 28), type := 35, pos := "law.go:127", after := #[{ on := 2, ground := Ground.data }], guard := none }) (v := .slice (some ⟨lb, 0, none⟩) n lc) rfl (by kernel_rfl) (by kernel_rfl) (by kernel_rfl) (fun _ _ _ h => h) (Or.inl ⟨by kernel_rfl, by (intro w hSw; (try dsimp only at hSw); go_simp)⟩) hHeld ?_
  simp only [Act.put, List.setIfInBounds_toArray, List.set_cons_zero, List.set_cons_succ]
  refine wpAnyH_take (i := 4) (oi := { dst := some 30, op := Op.fieldAddr 30 (Operand.tmp 3) 1, type := 0, pos := "law.go:127", after := #[], guard := none }) (v := .pointer (some ⟨B, 1, none⟩)) rfl (by kernel_rfl) (by kernel_rfl) (by kernel_rfl) (fun _ _ _ h => h) (Or.inl ⟨by kernel_rfl, by (intro w hSw; (try dsimp only at hSw); go_simp)⟩) hHeld ?_
  simp only [Act.put, List.setIfInBounds_toArray, List.set_cons_zero, List.set_cons_succ]
  refine wpAnyH_take (i := 5) (oi := { dst := some 31, op := Op.load 3 (Operand.tmp 30), type := 3, pos := "law.go:127", after := #[{ on := 4, ground := Ground.data }], guard := none }) (v := .int .i64 o.who) rfl (by kernel_rfl) (by kernel_rfl) (by kernel_rfl) (fun _ _ _ h => h) (Or.inl ⟨by kernel_rfl, by (intro w hSw; (try dsimp only at hSw); go_simp)⟩) hHeld ?_
  simp only [Act.put, List.setIfInBounds_toArray, List.set_cons_zero, List.set_cons_succ]
  refine wpAnyH_take (i := 6) (oi := { dst := some 32, op := Op.move (Operand.tmp 0), type := 23, pos := "law.go:127", after := #[], guard := none }) (v := .pointer (some ⟨p.WB, 0, none⟩)) rfl (by kernel_rfl) (by kernel_rfl) (by kernel_rfl) (fun _ _ _ h => h) (Or.inl ⟨by kernel_rfl, by (intro w hSw; (try dsimp only at hSw); go_simp)⟩) hHeld ?_
  simp only [Act.put, List.setIfInBounds_toArray, List.set_cons_zero, List.set_cons_succ]
  refine wpAnyH_take (i := 7) (oi := { dst := some 33, op := Op.nilCheck (Operand.tmp 32), type := 0, pos := "law.go:127", after := #[{ on := 6, ground := Ground.data }], guard := none }) (v := .pointer (some ⟨p.WB, 0, none⟩)) rfl (by kernel_rfl) (by kernel_rfl) (by kernel_rfl) (fun _ _ _ h => h) (Or.inl ⟨by kernel_rfl, by (intro w hSw; (try dsimp only at hSw); go_simp)⟩) hHeld ?_
  simp only [Act.put, List.setIfInBounds_toArray, List.set_cons_zero, List.set_cons_succ]
  refine wpAnyH_take (i := 8) (oi := { dst := some 34, op := Op.fieldAddr 41 (Operand.tmp 33) 4, type := 0, pos := "law.go:127", after := #[{ on := 7, ground := Ground.data }], guard := none }) (v := .pointer (some ⟨p.WB, 4, none⟩)) rfl (by kernel_rfl) (by kernel_rfl) (by kernel_rfl) (fun _ _ _ h => h) (Or.inl ⟨by kernel_rfl, by (intro w hSw; (try dsimp only at hSw); go_simp)⟩) hHeld ?_
  simp only [Act.put, List.setIfInBounds_toArray, List.set_cons_zero, List.set_cons_succ]
  refine wpAnyH_take (i := 9) (oi := { dst := some 35, op := Op.load 35 (Operand.tmp 34), type := 35, pos := "law.go:127", after := #[{ on := 8, ground := Ground.data }], guard := none }) (v := .slice (some ⟨lb, 0, none⟩) n lc) rfl (by kernel_rfl) (by kernel_rfl) (by kernel_rfl) (fun _ _ _ h => h) (Or.inl ⟨by kernel_rfl, by (intro w hSw; (try dsimp only at hSw); go_simp)⟩) hHeld ?_
  simp only [Act.put, List.setIfInBounds_toArray, List.set_cons_zero, List.set_cons_succ]
  refine wpAnyH_take (i := 10) (oi := { dst := some 36, op := Op.call { callee := Callee.builtin Builtin.len, args := #[Operand.tmp 35], argTypes := #[35] }, type := 3, pos := "law.go:127", after := #[{ on := 9, ground := Ground.data }], guard := none }) (v := .int .i64 (n : Int)) rfl (by kernel_rfl) (by kernel_rfl) (by kernel_rfl) (fun _ _ _ h => h) (Or.inl ⟨by kernel_rfl, by (intro w hSw; (try dsimp only at hSw); go_simp)⟩) hHeld ?_
  simp only [Act.put, List.setIfInBounds_toArray, List.set_cons_zero, List.set_cons_succ]
  refine wpAnyH_ready (rs := [11, 14]) (by kernel_rfl) (by simp) ?_
  refine AllReadyH.cons (o := { dst := some 37, op := Op.call { callee := Callee.value (Operand.func 20), args := #[Operand.tmp 31, Operand.tmp 36], argTypes := #[3, 3] }, type := 3, pos := "law.go:127", after := #[{ on := 5, ground := Ground.data }, { on := 10, ground := Ground.data }], guard := none }) rfl (fun K hK => ?_) (AllReadyH.cons (o := { dst := some 5, op := Op.alloc 84, type := 0, pos := "law.go:127", after := #[], guard := none }) rfl (fun K hK => ?_) AllReadyH.nil)
  · go_simp
    refine (HPK.out _).mono ?_
    rintro e w5 ⟨rfl, rfl⟩
    refine hK.out _ _ hS0 (fun hHeld => ?_)
    simp only [Act.put, List.setIfInBounds_toArray, List.set_cons_zero, List.set_cons_succ]
    refine wpAnyH_take (i := 12) (oi := { dst := some 38, op := Op.indexAddr 35 (Operand.tmp 29) (Operand.tmp 37), type := 0, pos := "law.go:127", after := #[{ on := 3, ground := Ground.data }, { on := 11, ground := Ground.data }], guard := none }) (v := .pointer (some ⟨lb, i * 2, none⟩)) rfl (by kernel_rfl) (by kernel_rfl) (by kernel_rfl) (fun _ _ _ h => h) (Or.inl ⟨by kernel_rfl, by (intro w hSw; (try dsimp only at hSw); go_simp)⟩) hHeld ?_
    simp only [Act.put, List.setIfInBounds_toArray, List.set_cons_zero, List.set_cons_succ]
    refine wpAnyH_take (i := 13) (oi := { dst := some 39, op := Op.load 84 (Operand.tmp 38), type := 84, pos := "law.go:127", after := #[{ on := 12, ground := Ground.data }], guard := none }) (v := .agg #[.pointer (some ⟨xb, 0, none⟩), .pointer (some ⟨yb, 0, none⟩)]) rfl (by kernel_rfl) (by kernel_rfl) (by kernel_rfl) (fun _ _ _ h => h) (Or.inl ⟨by kernel_rfl, by (intro w hSw; (try dsimp only at hSw); go_simp)⟩) hHeld ?_
    simp only [Act.put, List.setIfInBounds_toArray, List.set_cons_zero, List.set_cons_succ]
    refine wpAnyH_ready (rs := [14]) (by kernel_rfl) (by simp) ?_
    refine AllReadyH.cons (o := { dst := some 5, op := Op.alloc 84, type := 0, pos := "law.go:127", after := #[], guard := none }) rfl (fun K hK => ?_) AllReadyH.nil
    go_simp
    refine hK.out _ _ hSa (fun hHeld => ?_)
    simp only [Act.put, List.setIfInBounds_toArray, List.set_cons_zero, List.set_cons_succ]
    refine wpAnyH_ready (rs := [15]) (by kernel_rfl) (by simp) ?_
    refine AllReadyH.cons (o := { dst := none, op := Op.store 84 (Operand.tmp 5) (Operand.tmp 39), type := 0, pos := "law.go:127", after := #[{ on := 14, ground := Ground.data }, { on := 13, ground := Ground.data }, { on := 11, ground := Ground.chain }, { on := 0, ground := Ground.phase }, { on := 1, ground := Ground.phase }, { on := 2, ground := Ground.phase }, { on := 3, ground := Ground.phase }, { on := 4, ground := Ground.phase }, { on := 5, ground := Ground.phase }, { on := 6, ground := Ground.phase }, { on := 7, ground := Ground.phase }, { on := 8, ground := Ground.phase }, { on := 9, ground := Ground.phase }, { on := 10, ground := Ground.phase }, { on := 11, ground := Ground.phase }, { on := 12, ground := Ground.phase }, { on := 13, ground := Ground.phase }, { on := 14, ground := Ground.phase }], guard := none }) rfl (fun K hK => ?_) AllReadyH.nil
    go_simp
    rw [← HW3.out, ← hC]
    refine hK.out _ _ hSb (fun hHeld => ?_)
    simp only [Act.put, List.setIfInBounds_toArray, List.set_cons_zero, List.set_cons_succ]
    refine wpAnyH_done (by kernel_rfl) ?_ _
    clear hHeld hK HW3 HPK hS0 hSa hSb hC
    go_wp2_with fail
    clear k3
    refine (HA.out _ HM.out).mono ?_
    rintro e w5 ⟨a1, c1, rfl, ho1, hf1, hk1⟩
    have HM5 : Hid (Mid N w C xb yb p w5) := HM.out.same hk1
    have H1 : Hid (_ ∧ _ ∧ _) := ⟨ho1, hf1, hk1⟩
    have d0 := cell_kept d0 hk1 id
    have d1 := cell_kept d1 hk1 id
    rw [← HNT.out]
    clear ho1 hf1 hk1
    go_wp2_with fail
    refine (HA.out _ HM5.out).mono ?_
    rintro e w6 ⟨a2, c2, rfl, ho2, hf2, hk2⟩
    have HM6 : Hid (Mid N w C xb yb p w6) := HM5.out.same hk2
    have H2 : Hid (_ ∧ _ ∧ _) := ⟨ho2, hf2, hk2⟩
    have d1 := cell_kept d1 hk2 id
    rw [← HNT.out]
    clear ho2 hf2 hk2 d0
    go_wp2_with fail
    refine (HD.out _ HM6.out).mono ?_
    rintro e w7 ⟨a3, c3, rfl, ho3, hf3, hk3⟩
    have H3 : Hid (Keeps (fun k => N ≤ k) w w7) := HM6.out.2.1.trans hk3 fun _ _ e => e.elim
    have H4 := two_keeps p N W3 w5 w6 w7 a1 a2 a3 c1 c2 c3 ts HM.out.1 H1.out.1 H1.out.2.1 H1.out.2.2 H2.out.1 H2.out.2.1 H2.out.2.2 ho3 hf3 hk3 HT.out.1 HT.out.2.1
    rw [← HNT.out] at H4
    have H4 : Hid (Calls _ _ _ _ _) := H4
    rw [← HNT.out]
    clear ho3 hf3 hk3 d1 HA HD HM5 HM6 H1 H2
    go_wp2_with fail
    refine H4.out.mono ?_
    rintro e w8 ⟨rfl, H5⟩
    have H5 : Hid (Calls _ _ _ _ _) := H5
    clear H4
    go_wp2_with fail
    refine H5.out.mono ?_
    rintro e w9 ⟨rfl, kv, es, hok9, hes9, hk9⟩
    have H9 : Hid (_ ∧ _ ∧ _) := ⟨hok9, hes9, hk9⟩
    clear hok9 hes9 hk9 H5
    go_wp2
    go_ret
    exact ⟨rfl, _, H9.out.1, ⟨HT.out.2.2.one, HT.out.2.2.two, HT.out.2.2.ch⟩, rfl, by simp, by simp, by show es.length ≤ _; have := H9.out.2.1; omega, H3.out.trans H9.out.2.2 fun _ _ e => e⟩
  · go_simp
    refine hK.out _ _ hSa (fun hHeld => ?_)
    simp only [Act.put, List.setIfInBounds_toArray, List.set_cons_zero, List.set_cons_succ]
    refine wpAnyH_ready (rs := [11]) (by kernel_rfl) (by simp) ?_
    refine AllReadyH.cons (o := { dst := some 37, op := Op.call { callee := Callee.value (Operand.func 20), args := #[Operand.tmp 31, Operand.tmp 36], argTypes := #[3, 3] }, type := 3, pos := "law.go:127", after := #[{ on := 5, ground := Ground.data }, { on := 10, ground := Ground.data }], guard := none }) rfl (fun K hK => ?_) AllReadyH.nil
    go_simp
    refine (HPK.out _).mono ?_
    rintro e w5 ⟨rfl, rfl⟩
    refine hK.out _ _ hSa (fun hHeld => ?_)
    simp only [Act.put, List.setIfInBounds_toArray, List.set_cons_zero, List.set_cons_succ]
    refine wpAnyH_take (i := 12) (oi := { dst := some 38, op := Op.indexAddr 35 (Operand.tmp 29) (Operand.tmp 37), type := 0, pos := "law.go:127", after := #[{ on := 3, ground := Ground.data }, { on := 11, ground := Ground.data }], guard := none }) (v := .pointer (some ⟨lb, i * 2, none⟩)) rfl (by kernel_rfl) (by kernel_rfl) (by kernel_rfl) (fun _ _ _ h => h) (Or.inl ⟨by kernel_rfl, by (intro w hSw; (try dsimp only at hSw); go_simp)⟩) hHeld ?_
    simp only [Act.put, List.setIfInBounds_toArray, List.set_cons_zero, List.set_cons_succ]
    refine wpAnyH_take (i := 13) (oi := { dst := some 39, op := Op.load 84 (Operand.tmp 38), type := 84, pos := "law.go:127", after := #[{ on := 12, ground := Ground.data }], guard := none }) (v := .agg #[.pointer (some ⟨xb, 0, none⟩), .pointer (some ⟨yb, 0, none⟩)]) rfl (by kernel_rfl) (by kernel_rfl) (by kernel_rfl) (fun _ _ _ h => h) (Or.inl ⟨by kernel_rfl, by (intro w hSw; (try dsimp only at hSw); go_simp)⟩) hHeld ?_
    simp only [Act.put, List.setIfInBounds_toArray, List.set_cons_zero, List.set_cons_succ]
    refine wpAnyH_ready (rs := [15]) (by kernel_rfl) (by simp) ?_
    refine AllReadyH.cons (o := { dst := none, op := Op.store 84 (Operand.tmp 5) (Operand.tmp 39), type := 0, pos := "law.go:127", after := #[{ on := 14, ground := Ground.data }, { on := 13, ground := Ground.data }, { on := 11, ground := Ground.chain }, { on := 0, ground := Ground.phase }, { on := 1, ground := Ground.phase }, { on := 2, ground := Ground.phase }, { on := 3, ground := Ground.phase }, { on := 4, ground := Ground.phase }, { on := 5, ground := Ground.phase }, { on := 6, ground := Ground.phase }, { on := 7, ground := Ground.phase }, { on := 8, ground := Ground.phase }, { on := 9, ground := Ground.phase }, { on := 10, ground := Ground.phase }, { on := 11, ground := Ground.phase }, { on := 12, ground := Ground.phase }, { on := 13, ground := Ground.phase }, { on := 14, ground := Ground.phase }], guard := none }) rfl (fun K hK => ?_) AllReadyH.nil
    go_simp
    rw [← HW3.out, ← hC]
    refine hK.out _ _ hSb (fun hHeld => ?_)
    simp only [Act.put, List.setIfInBounds_toArray, List.set_cons_zero, List.set_cons_succ]
    refine wpAnyH_done (by kernel_rfl) ?_ _
    clear hHeld hK HW3 HPK hS0 hSa hSb hC
    go_wp2_with fail
    clear k3
    refine (HA.out _ HM.out).mono ?_
    rintro e w5 ⟨a1, c1, rfl, ho1, hf1, hk1⟩
    have HM5 : Hid (Mid N w C xb yb p w5) := HM.out.same hk1
    have H1 : Hid (_ ∧ _ ∧ _) := ⟨ho1, hf1, hk1⟩
    have d0 := cell_kept d0 hk1 id
    have d1 := cell_kept d1 hk1 id
    rw [← HNT.out]
    clear ho1 hf1 hk1
    go_wp2_with fail
    refine (HA.out _ HM5.out).mono ?_
    rintro e w6 ⟨a2, c2, rfl, ho2, hf2, hk2⟩
    have HM6 : Hid (Mid N w C xb yb p w6) := HM5.out.same hk2
    have H2 : Hid (_ ∧ _ ∧ _) := ⟨ho2, hf2, hk2⟩
    have d1 := cell_kept d1 hk2 id
    rw [← HNT.out]
    clear ho2 hf2 hk2 d0
    go_wp2_with fail
    refine (HD.out _ HM6.out).mono ?_
    rintro e w7 ⟨a3, c3, rfl, ho3, hf3, hk3⟩
    have H3 : Hid (Keeps (fun k => N ≤ k) w w7) := HM6.out.2.1.trans hk3 fun _ _ e => e.elim
    have H4 := two_keeps p N W3 w5 w6 w7 a1 a2 a3 c1 c2 c3 ts HM.out.1 H1.out.1 H1.out.2.1 H1.out.2.2 H2.out.1 H2.out.2.1 H2.out.2.2 ho3 hf3 hk3 HT.out.1 HT.out.2.1
    rw [← HNT.out] at H4
    have H4 : Hid (Calls _ _ _ _ _) := H4
    rw [← HNT.out]
    clear ho3 hf3 hk3 d1 HA HD HM5 HM6 H1 H2
    go_wp2_with fail
    refine H4.out.mono ?_
    rintro e w8 ⟨rfl, H5⟩
    have H5 : Hid (Calls _ _ _ _ _) := H5
    clear H4
    go_wp2_with fail
    refine H5.out.mono ?_
    rintro e w9 ⟨rfl, kv, es, hok9, hes9, hk9⟩
    have H9 : Hid (_ ∧ _ ∧ _) := ⟨hok9, hes9, hk9⟩
    clear hok9 hes9 hk9 H5
    go_wp2
    go_ret
    exact ⟨rfl, _, H9.out.1, ⟨HT.out.2.2.one, HT.out.2.2.two, HT.out.2.2.ch⟩, rfl, by simp, by simp, by show es.length ≤ _; have := H9.out.2.1; omega, H3.out.trans H9.out.2.2 fun _ _ e => e⟩
end Go.Proofs.Ytadhldpeklkcmaa
