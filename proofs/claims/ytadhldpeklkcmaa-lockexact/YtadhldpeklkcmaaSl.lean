import Derived.Test.YtadhldpeklkcmaaSj
import Derived.Test.YtadhldpeklkcmaaR
import Derived.Test.YtadhldpeklkcmaaRf
namespace Go.Proofs.Ytadhldpeklkcmaa
open Go.RowKit
set_option linter.unusedVariables false
set_option linter.unusedSimpArgs false
set_option maxRecDepth 10000
set_option maxHeartbeats 2000000 in
theorem does_back (p : Pst) (N : Nat) (o : Opr) (w : World) (hok : p.Ok N w) (hs : p.Same) (hn0 : 0 < p.Xs.length) (hn : p.Xs.length ≤ 4294967296) (hp1 : -9223372036854775808 ≤ o.who) (hp2 : o.who ≤ 9223372036854775807) (hkd : o.kind = 7) :
    Calls Try.prog 9 #[.pointer (some ⟨p.WB, 0, none⟩), .agg o.vs.toArray] w (PlayP p N w) := by
  obtain ⟨hkb, hO⟩ := box_op o w
  obtain ⟨w1, hw1⟩ : ∃ w1, w1 = w.alloc (.cells o.vs.toArray 30) := ⟨_, rfl⟩
  rw [← hw1] at hkb hO
  have hok1 := hok.same hkb
  obtain ⟨i, hi⟩ : ∃ i, i = pk o.who p.Xs.length := ⟨_, rfl⟩
  have hil : i < p.Xs.length := by rw [hi]; exact pk_lt _ _ hn0
  obtain ⟨lb, lc, X, Y, hlv, hX, hY, cX, cY, hlc1, hlc2⟩ := hok1.at hil
  obtain ⟨B, hB⟩ : ∃ B, B = w.heap.size := ⟨_, rfl⟩
  have hlbF : p.F 5 lb := Pst.f5 (by rw [hlv]; rfl)
  have hO' : Blk w1 B o.vs 30 := by rw [hB]; exact hO
  have hS0 : dcell p o B lb lc i X.b Y.b w1.drew := ⟨by have := hok1.drew.blk.cell (i := 4) rfl; rw [this, hlv], hO'.drew.cell (i := 1) rfl, cX, cY⟩
  obtain ⟨xb, hxb⟩ : ∃ xb, xb = X.b := ⟨_, rfl⟩
  obtain ⟨yb, hyb⟩ : ∃ yb, yb = Y.b := ⟨_, rfl⟩
  rw [← hxb, ← hyb] at hS0
  have HPK : ∀ w', Calls _ _ _ w' _ := fun w' => pick_big o.who p.Xs.length w' hn0 (by omega) hp1 hp2
  rw [← hi] at HPK
  have k0 : w1.cell? ⟨B, 0, none⟩ = some (.int .i64 7) := by rw [← hkd]; exact hO'.cell (i := 0) rfl
  have HW : Hid (w.alloc (.cells #[.int .i64 7, .int .i64 o.who, .int .i64 o.a, .int .i64 o.b, .bool o.asked, .int .u32 (o.wd.toNat : Int), .slice o.la o.ln o.lc, .slice o.ta o.tn o.tc] 30) = w1) := by rw [hw1, ← hkd]; rfl
  have hvs : o.vs.toArray = #[.int .i64 7, .int .i64 o.who, .int .i64 o.a, .int .i64 o.b, .bool o.asked, .int .u32 (o.wd.toNat : Int), .slice o.la o.ln o.lc, .slice o.ta o.tn o.tc] := by rw [← hkd]; rfl
  rw [hvs]
  obtain ⟨n, hnn⟩ : ∃ n, n = p.Xs.length := ⟨_, rfl⟩
  unfold dcell at hS0
  rw [← hnn] at hS0 HPK hil hlc1 hn
  have HPK : Hid (∀ w', Calls _ _ _ w' _) := HPK
  have hil' : (i : Int) < n := by omega
  have hlc1' : (n : Int) ≤ lc := by omega
  have hlc2' : (lc : Int) ≤ 9223372036854775807 := by unfold maxLen at hlc2; omega
  have hnI : (n : Int) ≤ 4294967296 := by omega
  have HH : Hid (p.Ok N w1 ∧ Keeps (fun _ => False) w w1 ∧ p.Same ∧ p.Xs[i]? = some X ∧ p.Ys[i]? = some Y ∧ xb = X.b ∧ yb = Y.b ∧ p.F 5 lb ∧ Blk w1 B o.vs 30) := ⟨hok1, hkb, hs, hX, hY, hxb, hyb, hlbF, hO'⟩
  obtain ⟨C, hC⟩ : ∃ C, C = w1.heap.size := ⟨_, rfl⟩
  obtain ⟨W3, hW3⟩ : ∃ W3, W3 = (w1.alloc (.cells #[.pointer (some ⟨xb, 0, none⟩), .pointer (some ⟨yb, 0, none⟩)] 84)).drew := ⟨_, rfl⟩
  have hk3 : Keeps (fun _ => False) w1 W3 := by rw [hW3]; exact ((Keeps.refl _ _).alloc _).drew
  have HM : Hid (Mid N w C xb yb p W3) := by
    refine ⟨hok1.same hk3, (hkb.trans hk3 fun _ _ e => e).none, ?_, fun c k hk e => by have := hok1.sep.lt c k hk; omega⟩
    rw [hW3, hC]
    exact (Blk.new w1 #[.pointer (some ⟨xb, 0, none⟩), .pointer (some ⟨yb, 0, none⟩)] 84).drew
  have k3 : W3.cell? ⟨B, 0, none⟩ = some (.int .i64 7) := cell_kept k0 hk3 id
  have hSa : dcell p o B lb lc i xb yb (w1.alloc (.cells #[.pointer none, .pointer none] 84)).drew := by
    have h : dcell p o B lb lc i xb yb w1 := by unfold dcell; rw [← hnn]; exact hS0
    exact h.kept (S := fun _ => False) ((((Keeps.refl _ w1).alloc _).drew : Keeps (fun _ => False) w1 _)) id id id
  have hSb : dcell p o B lb lc i xb yb W3 := by
    have h : dcell p o B lb lc i xb yb w1 := by unfold dcell; rw [← hnn]; exact hS0
    exact h.kept (S := fun _ => False) hk3 id id id
  unfold dcell at hSa hSb
  rw [← hnn] at hSa hSb
  obtain ⟨r, hr⟩ : ∃ r, r = backP X.lk X.tk X.st p.xs := ⟨_, rfl⟩
  have hsy := hs.ch i X Y hX hY
  have HA : Calls Try.prog 48 #[.pointer (some ⟨xb, 0, none⟩), .pointer (some ⟨p.mb, 0, none⟩)] W3.drew fun e w5 => e = .returned (.tuple #[.bool r.did, .int .i64 (r.e : Int)]) ∧ ∃ vt, Mid N w C xb yb { p with xs := r.xs, Xs := p.Xs.set i ⟨X.b, X.vl, vt, X.lk, r.tk, r.st⟩ } w5 := by
    have h1 := back_any X p.mb p.g p.xs W3.drew ((HM.out.drew.1.cx i X hX).1) HM.out.drew.1.m1 (HM.out.1.awayX hX).1 (HM.out.1.awayX hX).2
    rw [← hr, ← hxb] at h1
    exact h1.mono fun e w5 hc => ⟨hc.1, HM.out.drew.stepX hX hc⟩
  have HD : ∀ w5 vt, Mid N w C xb yb { p with xs := r.xs, Xs := p.Xs.set i ⟨X.b, X.vl, vt, X.lk, r.tk, r.st⟩ } w5 → Calls Try.prog 49 #[.pointer (some ⟨yb, 0, none⟩), .pointer (some ⟨p.nb, 0, none⟩)] w5.drew fun e w6 => e = .returned (.tuple #[.bool r.did, .int .i64 (r.e : Int)]) ∧ ∃ vt', Mid N w C xb yb { p with xs := r.xs, zs := r.xs, Xs := p.Xs.set i ⟨X.b, X.vl, vt, X.lk, r.tk, r.st⟩, Ys := p.Ys.set i ⟨Y.b, Y.vl, vt', Y.lk, r.tk, r.st⟩ } w6 := by
    intro w5 vt hm
    have hr' : r = backP Y.lk Y.tk Y.st p.zs := by rw [hr, hsy.1, hsy.2.1, hsy.2.2, hs.one]
    have h1 := rback_any Y p.nb p.h p.zs w5.drew (hm.drew.1.cy i Y hY) hm.drew.1.r1 (hm.1.awayY (i := i) hY).1 (hm.1.awayY (i := i) hY).2
    rw [← hr', ← hyb] at h1
    exact h1.mono fun e w6 hc => ⟨hc.1, hm.drew.stepY (i := i) hY hc⟩
  have HE : ∀ w6 vt vt', Mid N w C xb yb { p with xs := r.xs, zs := r.xs, Xs := p.Xs.set i ⟨X.b, X.vl, vt, X.lk, r.tk, r.st⟩, Ys := p.Ys.set i ⟨Y.b, Y.vl, vt', Y.lk, r.tk, r.st⟩ } w6 → Calls Try.prog 18 #[.pointer (some ⟨xb, 0, none⟩)] w6 fun e w7 => e = .returned (.bool (decide (r.st = 0))) ∧ w7 = w6 := by
    intro w6 vt vt' hm
    rw [hxb]
    exact all_any ⟨X.b, X.vl, vt, X.lk, r.tk, r.st⟩ w6 (hm.1.cx i _ (by show (p.Xs.set i _)[i]? = _; rw [List.getElem?_set_self (by omega)])).1
  have HG : ∀ w6 vt vt', Mid N w C xb yb { p with xs := r.xs, zs := r.xs, Xs := p.Xs.set i ⟨X.b, X.vl, vt, X.lk, r.tk, r.st⟩, Ys := p.Ys.set i ⟨Y.b, Y.vl, vt', Y.lk, r.tk, r.st⟩ } w6 → Calls Try.prog 51 #[.pointer (some ⟨yb, 0, none⟩)] w6 fun e w7 => e = .returned (.bool (decide (r.st = 0))) ∧ Mid N w C xb yb { p with xs := r.xs, zs := r.xs, Xs := p.Xs.set i ⟨X.b, X.vl, vt, X.lk, r.tk, r.st⟩, Ys := p.Ys.set i ⟨Y.b, Y.vl, vt', Y.lk, r.tk, r.st⟩ } w7 := by
    intro w6 vt vt' hm
    have h1 := rall_any ⟨Y.b, Y.vl, vt', Y.lk, r.tk, r.st⟩ w6 (hm.1.cy i _ (by show (p.Ys.set i _)[i]? = _; rw [List.getElem?_set_self (by have := hok.len; omega)]))
    dsimp only at h1
    rw [← hyb] at h1
    exact h1.mono fun e w7 hc => ⟨hc.1, hm.same hc.2⟩
  have HZ : Hid (∀ vt vt', Pst.Same { p with xs := r.xs, zs := r.xs, Xs := p.Xs.set i ⟨X.b, X.vl, vt, X.lk, r.tk, r.st⟩, Ys := p.Ys.set i ⟨Y.b, Y.vl, vt', Y.lk, r.tk, r.st⟩ }) := fun vt vt' => hs.step hX hY r vt vt'
  have HA : Hid (Calls _ _ _ _ _) := HA
  have HD : Hid (∀ w5 vt, _) := HD
  have HE : Hid (∀ w5 vt vt', _) := HE
  have HG : Hid (∀ w5 vt vt', _) := HG
  have HNN : Hid (n = p.Xs.length) := hnn
  have HW3 : Hid (W3 = _) := hW3
  have hE0 := HM.out.drew.cells
  unfold ecell at hE0
  obtain ⟨rd, hrd⟩ : ∃ rd, rd = r.did := ⟨_, rfl⟩
  obtain ⟨re, hre⟩ : ∃ re : Int, re = r.e := ⟨_, rfl⟩
  obtain ⟨rb, hrb⟩ : ∃ rb, rb = decide (r.st = 0) := ⟨_, rfl⟩
  rw [← hrd, ← hre] at HA HD
  rw [← hrb] at HE HG
  clear hnn hW3 hk3 hsy hr hrd hre hrb
  clear hok hs hn0 hn hkb hO hok1 hw1 hi hil hlv hX hY cX cY hlc1 hlc2 hlbF hO' hxb hyb hkd hvs hp1 hp2
  go_enter Try.func9, Try.ntmps9
  clear k0
  go_wp2_with (fail)
  rw [HW.out, ← hB]
  have HBs : Hid (B = w.heap.size) := hB
  clear HW hB HBs
  refine wp_region_held_drew (S := (fun w' => w'.cell? ⟨p.WB, 4, none⟩ = some (.slice (some ⟨lb, 0, none⟩) n lc) ∧ w'.cell? ⟨B, 1, none⟩ = some (.int .i64 o.who) ∧ w'.cell? ⟨lb, i * 2, none⟩ = some (.pointer (some ⟨xb, 0, none⟩)) ∧ w'.cell? ⟨lb, i * 2 + 1, none⟩ = some (.pointer (some ⟨yb, 0, none⟩)))) Try.mixed hS0 (fun hHeld => ?_)
  simp only [List.size_toArray, List.length_cons, List.length_nil, Nat.reduceAdd, Array.replicate_succ, Array.replicate_zero, List.push_toArray, List.append_toArray, List.nil_append, List.cons_append]
  refine wpAnyH_take (i := 0) (oi := { dst := some 26, op := Op.move (Operand.tmp 0), type := 23, pos := "law.go:127", after := #[], guard := none }) (v := .pointer (some ⟨p.WB, 0, none⟩)) rfl (by kernel_rfl) (by kernel_rfl) (by kernel_rfl) (fun _ _ _ h => h) (Or.inl ⟨by kernel_rfl, by (intro w hSw; (try dsimp only at hSw); go_simp)⟩) hHeld ?_
  simp only [Act.put, List.setIfInBounds_toArray, List.set_cons_zero, List.set_cons_succ]
  refine wpAnyH_take (i := 1) (oi := { dst := some 27, op := Op.nilCheck (Operand.tmp 26), type := 0, pos := "law.go:127", after := #[{ on := 0, ground := Ground.data }], guard := none }) (v := .pointer (some ⟨p.WB, 0, none⟩)) rfl (by kernel_rfl) (by kernel_rfl) (by kernel_rfl) (fun _ _ _ h => h) (Or.inl ⟨by kernel_rfl, by (intro w hSw; (try dsimp only at hSw); go_simp)⟩) hHeld ?_
  simp only [Act.put, List.setIfInBounds_toArray, List.set_cons_zero, List.set_cons_succ]
  refine wpAnyH_take (i := 2) (oi := { dst := some 28, op := Op.fieldAddr 41 (Operand.tmp 27) 4, type := 0, pos := "law.go:127", after := #[{ on := 1, ground := Ground.data }], guard := none }) (v := .pointer (some ⟨p.WB, 4, none⟩)) rfl (by kernel_rfl) (by kernel_rfl) (by kernel_rfl) (fun _ _ _ h => h) (Or.inl ⟨by kernel_rfl, by (intro w hSw; (try dsimp only at hSw); go_simp)⟩) hHeld ?_
  simp only [Act.put, List.setIfInBounds_toArray, List.set_cons_zero, List.set_cons_succ]
  refine wpAnyH_take (i := 3) (oi := { dst := some 29, op := Op.load 35 (Operand.tmp 28), type := 35, pos := "law.go:127", after := #[{ on := 2, ground := Ground.data }], guard := none }) (v := .slice (some ⟨lb, 0, none⟩) n lc) rfl (by kernel_rfl) (by kernel_rfl) (by kernel_rfl) (fun _ _ _ h => h) (Or.inl ⟨by kernel_rfl, by (intro w hSw; (try dsimp only at hSw); go_simp)⟩) hHeld ?_
  simp only [Act.put, List.setIfInBounds_toArray, List.set_cons_zero, List.set_cons_succ]
  refine wpAnyH_take (i := 4) (oi := { dst := some 30, op := Op.fieldAddr 30 (Operand.tmp 3) 1, type := 0, pos := "law.go:127", after := #[], guard := none }) (v := .pointer (some ⟨B, 1, none⟩)) rfl (by kernel_rfl) (by kernel_rfl) (by kernel_rfl) (fun _ _ _ h => h) (Or.inl ⟨by kernel_rfl, by (intro w hSw; (try dsimp only at hSw); go_simp)⟩) hHeld ?_
  simp only [Act.put, List.setIfInBounds_toArray, List.set_cons_zero, List.set_cons_succ]
  refine wpAnyH_take (i := 5) (oi := { dst := some 31, op := Op.load 3 (Operand.tmp 30), type := 3, pos := "law.go:127", after := #[{ on := 4, ground := Ground.data }], guard := none }) (v := .int .i64 o.who) rfl (by kernel_rfl) (by kernel_rfl) (by kernel_rfl) (fun _ _ _ h => h) (Or.inl ⟨by kernel_rfl, by (intro w hSw; (try dsimp only at hSw); go_simp)⟩) hHeld ?_
  simp only [Act.put, List.setIfInBounds_toArray, List.set_cons_zero, List.set_cons_succ]
  refine wpAnyH_take (i := 6) (oi := { dst := some 32, op := Op.move (Operand.tmp 0), type := 23, pos := "law.go:127", after := #[], guard := none }) (v := .pointer (some ⟨p.WB, 0, none⟩)) rfl (by kernel_rfl) (by kernel_rfl) (by kernel_rfl) (fun _ _ _ h => h) (Or.inl ⟨by kernel_rfl, by (intro w hSw; (try dsimp only at hSw); go_simp)⟩) hHeld ?_
  simp only [Act.put, List.setIfInBounds_toArray, List.set_cons_zero, List.set_cons_succ]
  refine wpAnyH_take (i := 7) (oi := { dst := some 33, op := Op.nilCheck (Operand.tmp 32), type := 0, pos := "law.go:127", after := #[{ on := 6, ground := Ground.data }], guard := none }) (v := .pointer (some ⟨p.WB, 0, none⟩)) rfl (by kernel_rfl) (by kernel_rfl) (by kernel_rfl) (fun _ _ _ h => h) (Or.inl ⟨by kernel_rfl, by (intro w hSw; (try dsimp only at hSw); go_simp)⟩) hHeld ?_
  simp only [Act.put, List.setIfInBounds_toArray, List.set_cons_zero, List.set_cons_succ]
  refine wpAnyH_take (i := 8) (oi := { dst := some 34, op := Op.fieldAddr 41 (Operand.tmp 33) 4, type := 0, pos := "law.go:127", after := #[{ on := 7, ground := Ground.data }], guard := none }) (v := .pointer (some ⟨p.WB, 4, none⟩)) rfl (by kernel_rfl) (by kernel_rfl) (by kernel_rfl) (fun _ _ _ h => h) (Or.inl ⟨by kernel_rfl, by (intro w hSw; (try dsimp only at hSw); go_simp)⟩) hHeld ?_
  simp only [Act.put, List.setIfInBounds_toArray, List.set_cons_zero, List.set_cons_succ]
  refine wpAnyH_take (i := 9) (oi := { dst := some 35, op := Op.load 35 (Operand.tmp 34), type := 35, pos := "law.go:127", after := #[{ on := 8, ground := Ground.data }], guard := none }) (v := .slice (some ⟨lb, 0, none⟩) n lc) rfl (by kernel_rfl) (by kernel_rfl) (by kernel_rfl) (fun _ _ _ h => h) (Or.inl ⟨by kernel_rfl, by (intro w hSw; (try dsimp only at hSw); go_simp)⟩) hHeld ?_
  simp only [Act.put, List.setIfInBounds_toArray, List.set_cons_zero, List.set_cons_succ]
  refine wpAnyH_take (i := 10) (oi := { dst := some 36, op := Op.call { callee := Callee.builtin Builtin.len, args := #[Operand.tmp 35], argTypes := #[35] }, type := 3, pos := "law.go:127", after := #[{ on := 9, ground := Ground.data }], guard := none }) (v := .int .i64 (n : Int)) rfl (by kernel_rfl) (by kernel_rfl) (by kernel_rfl) (fun _ _ _ h => h) (Or.inl ⟨by kernel_rfl, by (intro w hSw; (try dsimp only at hSw); go_simp)⟩) hHeld ?_
  simp only [Act.put, List.setIfInBounds_toArray, List.set_cons_zero, List.set_cons_succ]
  refine wpAnyH_ready (rs := [11, 14]) (by kernel_rfl) (by simp) ?_
  refine AllReadyH.cons (o := { dst := some 37, op := Op.call { callee := Callee.value (Operand.func 20), args := #[Operand.tmp 31, Operand.tmp 36], argTypes := #[3, 3] }, type := 3, pos := "law.go:127", after := #[{ on := 5, ground := Ground.data }, { on := 10, ground := Ground.data }], guard := none }) rfl (fun K hK => ?_) (AllReadyH.cons (o := { dst := some 5, op := Op.alloc 84, type := 0, pos := "law.go:127", after := #[], guard := none }) rfl (fun K hK => ?_) AllReadyH.nil)
  · go_simp
    refine (HPK.out _).mono ?_
    rintro e w5 ⟨rfl, rfl⟩
    refine hK.out _ _ hS0 (fun hHeld => ?_)
    simp only [Act.put, List.setIfInBounds_toArray, List.set_cons_zero, List.set_cons_succ]
    refine wpAnyH_take (i := 12) (oi := { dst := some 38, op := Op.indexAddr 35 (Operand.tmp 29) (Operand.tmp 37), type := 0, pos := "law.go:127", after := #[{ on := 3, ground := Ground.data }, { on := 11, ground := Ground.data }], guard := none }) (v := .pointer (some ⟨lb, i * 2, none⟩)) rfl (by kernel_rfl) (by kernel_rfl) (by kernel_rfl) (fun _ _ _ h => h) (Or.inl ⟨by kernel_rfl, by (intro w hSw; (try dsimp only at hSw); go_simp)⟩) hHeld ?_
    simp only [Act.put, List.setIfInBounds_toArray, List.set_cons_zero, List.set_cons_succ]
    refine wpAnyH_take (i := 13) (oi := { dst := some 39, op := Op.load 84 (Operand.tmp 38), type := 84, pos := "law.go:127", after := #[{ on := 12, ground := Ground.data }], guard := none }) (v := .agg #[.pointer (some ⟨xb, 0, none⟩), .pointer (some ⟨yb, 0, none⟩)]) rfl (by kernel_rfl) (by kernel_rfl) (by kernel_rfl) (fun _ _ _ h => h) (Or.inl ⟨by kernel_rfl, by (intro w hSw; (try dsimp only at hSw); go_simp)⟩) hHeld ?_
    simp only [Act.put, List.setIfInBounds_toArray, List.set_cons_zero, List.set_cons_succ]
    refine wpAnyH_ready (rs := [14]) (by kernel_rfl) (by simp) ?_
    refine AllReadyH.cons (o := { dst := some 5, op := Op.alloc 84, type := 0, pos := "law.go:127", after := #[], guard := none }) rfl (fun K hK => ?_) AllReadyH.nil
    go_simp
    refine hK.out _ _ hSa (fun hHeld => ?_)
    simp only [Act.put, List.setIfInBounds_toArray, List.set_cons_zero, List.set_cons_succ]
    refine wpAnyH_ready (rs := [15]) (by kernel_rfl) (by simp) ?_
    refine AllReadyH.cons (o := { dst := none, op := Op.store 84 (Operand.tmp 5) (Operand.tmp 39), type := 0, pos := "law.go:127", after := #[{ on := 14, ground := Ground.data }, { on := 13, ground := Ground.data }, { on := 11, ground := Ground.chain }, { on := 0, ground := Ground.phase }, { on := 1, ground := Ground.phase }, { on := 2, ground := Ground.phase }, { on := 3, ground := Ground.phase }, { on := 4, ground := Ground.phase }, { on := 5, ground := Ground.phase }, { on := 6, ground := Ground.phase }, { on := 7, ground := Ground.phase }, { on := 8, ground := Ground.phase }, { on := 9, ground := Ground.phase }, { on := 10, ground := Ground.phase }, { on := 11, ground := Ground.phase }, { on := 12, ground := Ground.phase }, { on := 13, ground := Ground.phase }, { on := 14, ground := Ground.phase }], guard := none }) rfl (fun K hK => ?_) AllReadyH.nil
    go_simp
    rw [← HW3.out, ← hC]
    refine hK.out _ _ hSb (fun hHeld => ?_)
    simp only [Act.put, List.setIfInBounds_toArray, List.set_cons_zero, List.set_cons_succ]
    refine wpAnyH_done (by kernel_rfl) ?_ _
    clear hHeld hK HW3 HPK hS0 hSa hSb hC
    go_wp2_with fail
    clear k3
    go_region_held3 (fun w' => w'.cell? ⟨C, 0, none⟩ = some (.pointer (some ⟨xb, 0, none⟩)) ∧ w'.cell? ⟨C, 1, none⟩ = some (.pointer (some ⟨yb, 0, none⟩)) ∧ w'.cell? ⟨p.WB, 0, none⟩ = some (.pointer (some ⟨p.mb, 0, none⟩)) ∧ w'.cell? ⟨p.WB, 1, none⟩ = some (.pointer (some ⟨p.nb, 0, none⟩))) (first | exact hS | exact hE0 | go_keep)
      (first | (go_at_call 48; refine HA.out.mono ?_; rintro e w5 ⟨rfl, vt, hm5⟩; have hS := hm5.cells; unfold ecell at hS))
    have HM5 : Hid (Mid _ _ _ _ _ _ _) := hm5
    have hE5 := hm5.drew.cells
    unfold ecell at hE5
    clear hm5 hE0 hS HA
    go_wp2_with fail
    go_region_held3 (fun w' => w'.cell? ⟨C, 0, none⟩ = some (.pointer (some ⟨xb, 0, none⟩)) ∧ w'.cell? ⟨C, 1, none⟩ = some (.pointer (some ⟨yb, 0, none⟩)) ∧ w'.cell? ⟨p.WB, 0, none⟩ = some (.pointer (some ⟨p.mb, 0, none⟩)) ∧ w'.cell? ⟨p.WB, 1, none⟩ = some (.pointer (some ⟨p.nb, 0, none⟩))) (first | exact hS | exact hE5 | go_keep)
      (first | (go_at_call 49; refine (HD.out _ _ HM5.out).mono ?_; rintro e w6 ⟨rfl, vt', hm6⟩; have hS := hm6.cells; unfold ecell at hS))
    have HM6 : Hid (Mid _ _ _ _ _ _ _) := hm6
    have d0 := hS.1
    have d1 := hS.2.1
    clear hm6 hE5 hS HD
    go_wp2_with fail
    refine (HE.out _ _ _ HM6.out).mono ?_
    rintro e w7 ⟨rfl, hw7⟩
    rw [hw7]
    clear hw7 w7 HE
    go_wp2_with fail
    refine (HG.out _ _ _ HM6.out).mono ?_
    rintro e w8 ⟨rfl, hm8⟩
    have HM8 : Hid (Mid _ _ _ _ _ _ _) := hm8
    clear hm8 HG d0 d1
    go_wp2
    go_ret
    exact ⟨rfl, _, HM8.out.1, HZ.out vt vt', rfl, by simp, by simp, by simp, HM8.out.2.1⟩
  · go_simp
    refine hK.out _ _ hSa (fun hHeld => ?_)
    simp only [Act.put, List.setIfInBounds_toArray, List.set_cons_zero, List.set_cons_succ]
    refine wpAnyH_ready (rs := [11]) (by kernel_rfl) (by simp) ?_
    refine AllReadyH.cons (o := { dst := some 37, op := Op.call { callee := Callee.value (Operand.func 20), args := #[Operand.tmp 31, Operand.tmp 36], argTypes := #[3, 3] }, type := 3, pos := "law.go:127", after := #[{ on := 5, ground := Ground.data }, { on := 10, ground := Ground.data }], guard := none }) rfl (fun K hK => ?_) AllReadyH.nil
    go_simp
    refine (HPK.out _).mono ?_
    rintro e w5 ⟨rfl, rfl⟩
    refine hK.out _ _ hSa (fun hHeld => ?_)
    simp only [Act.put, List.setIfInBounds_toArray, List.set_cons_zero, List.set_cons_succ]
    refine wpAnyH_take (i := 12) (oi := { dst := some 38, op := Op.indexAddr 35 (Operand.tmp 29) (Operand.tmp 37), type := 0, pos := "law.go:127", after := #[{ on := 3, ground := Ground.data }, { on := 11, ground := Ground.data }], guard := none }) (v := .pointer (some ⟨lb, i * 2, none⟩)) rfl (by kernel_rfl) (by kernel_rfl) (by kernel_rfl) (fun _ _ _ h => h) (Or.inl ⟨by kernel_rfl, by (intro w hSw; (try dsimp only at hSw); go_simp)⟩) hHeld ?_
    simp only [Act.put, List.setIfInBounds_toArray, List.set_cons_zero, List.set_cons_succ]
    refine wpAnyH_take (i := 13) (oi := { dst := some 39, op := Op.load 84 (Operand.tmp 38), type := 84, pos := "law.go:127", after := #[{ on := 12, ground := Ground.data }], guard := none }) (v := .agg #[.pointer (some ⟨xb, 0, none⟩), .pointer (some ⟨yb, 0, none⟩)]) rfl (by kernel_rfl) (by kernel_rfl) (by kernel_rfl) (fun _ _ _ h => h) (Or.inl ⟨by kernel_rfl, by (intro w hSw; (try dsimp only at hSw); go_simp)⟩) hHeld ?_
    simp only [Act.put, List.setIfInBounds_toArray, List.set_cons_zero, List.set_cons_succ]
    refine wpAnyH_ready (rs := [15]) (by kernel_rfl) (by simp) ?_
    refine AllReadyH.cons (o := { dst := none, op := Op.store 84 (Operand.tmp 5) (Operand.tmp 39), type := 0, pos := "law.go:127", after := #[{ on := 14, ground := Ground.data }, { on := 13, ground := Ground.data }, { on := 11, ground := Ground.chain }, { on := 0, ground := Ground.phase }, { on := 1, ground := Ground.phase }, { on := 2, ground := Ground.phase }, { on := 3, ground := Ground.phase }, { on := 4, ground := Ground.phase }, { on := 5, ground := Ground.phase }, { on := 6, ground := Ground.phase }, { on := 7, ground := Ground.phase }, { on := 8, ground := Ground.phase }, { on := 9, ground := Ground.phase }, { on := 10, ground := Ground.phase }, { on := 11, ground := Ground.phase }, { on := 12, ground := Ground.phase }, { on := 13, ground := Ground.phase }, { on := 14, ground := Ground.phase }], guard := none }) rfl (fun K hK => ?_) AllReadyH.nil
    go_simp
    rw [← HW3.out, ← hC]
    refine hK.out _ _ hSb (fun hHeld => ?_)
    simp only [Act.put, List.setIfInBounds_toArray, List.set_cons_zero, List.set_cons_succ]
    refine wpAnyH_done (by kernel_rfl) ?_ _
    clear hHeld hK HW3 HPK hS0 hSa hSb hC
    go_wp2_with fail
    clear k3
    go_region_held3 (fun w' => w'.cell? ⟨C, 0, none⟩ = some (.pointer (some ⟨xb, 0, none⟩)) ∧ w'.cell? ⟨C, 1, none⟩ = some (.pointer (some ⟨yb, 0, none⟩)) ∧ w'.cell? ⟨p.WB, 0, none⟩ = some (.pointer (some ⟨p.mb, 0, none⟩)) ∧ w'.cell? ⟨p.WB, 1, none⟩ = some (.pointer (some ⟨p.nb, 0, none⟩))) (first | exact hS | exact hE0 | go_keep)
      (first | (go_at_call 48; refine HA.out.mono ?_; rintro e w5 ⟨rfl, vt, hm5⟩; have hS := hm5.cells; unfold ecell at hS))
    have HM5 : Hid (Mid _ _ _ _ _ _ _) := hm5
    have hE5 := hm5.drew.cells
    unfold ecell at hE5
    clear hm5 hE0 hS HA
    go_wp2_with fail
    go_region_held3 (fun w' => w'.cell? ⟨C, 0, none⟩ = some (.pointer (some ⟨xb, 0, none⟩)) ∧ w'.cell? ⟨C, 1, none⟩ = some (.pointer (some ⟨yb, 0, none⟩)) ∧ w'.cell? ⟨p.WB, 0, none⟩ = some (.pointer (some ⟨p.mb, 0, none⟩)) ∧ w'.cell? ⟨p.WB, 1, none⟩ = some (.pointer (some ⟨p.nb, 0, none⟩))) (first | exact hS | exact hE5 | go_keep)
      (first | (go_at_call 49; refine (HD.out _ _ HM5.out).mono ?_; rintro e w6 ⟨rfl, vt', hm6⟩; have hS := hm6.cells; unfold ecell at hS))
    have HM6 : Hid (Mid _ _ _ _ _ _ _) := hm6
    have d0 := hS.1
    have d1 := hS.2.1
    clear hm6 hE5 hS HD
    go_wp2_with fail
    refine (HE.out _ _ _ HM6.out).mono ?_
    rintro e w7 ⟨rfl, hw7⟩
    rw [hw7]
    clear hw7 w7 HE
    go_wp2_with fail
    refine (HG.out _ _ _ HM6.out).mono ?_
    rintro e w8 ⟨rfl, hm8⟩
    have HM8 : Hid (Mid _ _ _ _ _ _ _) := hm8
    clear hm8 HG d0 d1
    go_wp2
    go_ret
    exact ⟨rfl, _, HM8.out.1, HZ.out vt vt', rfl, by simp, by simp, by simp, HM8.out.2.1⟩
end Go.Proofs.Ytadhldpeklkcmaa
