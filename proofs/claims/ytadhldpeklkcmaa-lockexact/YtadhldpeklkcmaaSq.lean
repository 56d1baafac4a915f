import Derived.Test.YtadhldpeklkcmaaSp
import Derived.Test.YtadhldpeklkcmaaR
import Derived.Test.YtadhldpeklkcmaaRf
namespace Go.Proofs.Ytadhldpeklkcmaa
open Go.RowKit
set_option linter.unusedVariables false
set_option linter.unusedSimpArgs false
set_option maxRecDepth 10000

theorem segI_pre {w : World} {g : Nat} {zs ys : List Int} {t : TypeId} (h : Blk w g (ivs (zs ++ ys)) t) : SegI w (some ⟨g, 0, none⟩) zs := by
  refine .inr ⟨g, 0, rfl, fun j hj => ?_⟩
  rw [Nat.zero_add]
  refine h.cell ?_
  rw [ivs_get (zs ++ ys) j (by simp; omega), List.getElem_append_left hj]
theorem segW_pre {w : World} {g : Nat} {zs ys : List UInt32} {t : TypeId} (h : Blk w g (wvs (zs ++ ys)) t) : SegW w (some ⟨g, 0, none⟩) zs := by
  refine .inr ⟨g, 0, rfl, fun j hj => ?_⟩
  rw [Nat.zero_add]
  refine h.cell ?_
  rw [wvs_get (zs ++ ys) j (by simp; omega), List.getElem_append_left hj]

/-- What New of both sides leaves, told outright. -/
def NewN (p : Pst) (N : Nat) (ls : List Int) (w : World) (e : Ending) (w' : World) : Prop :=
  e = .returned (.bool true) ∧ ∃ (p' : Pst) (X : Chn), p'.Ok N w' ∧ p'.Same ∧ p'.Xs = p.Xs ++ [X] ∧ X.lk = ls ∧ X.tk = [] ∧ X.st = settledN ls [] ∧ p'.xs = p.xs ∧ p'.es = p.es ∧ p'.WB = p.WB ∧ Keeps (fun k => N ≤ k) w w'

set_option maxHeartbeats 2000000 in
theorem makes_newN (p : Pst) (N : Nat) (o : Opr) (ls : List Int) (ts : List UInt32) (w : World) (hok : p.Ok N w) (hs : p.Same) (hL : SegI w o.la ls) (hln : o.ln = ls.length) (hT : SegW w o.ta ts) (htn : o.tn = ts.length) (hll : ls.length ≤ 2147483647) (htl : ts.length ≤ 2147483647) (htop : ∀ z ∈ ls, z ≤ 9223372036854775807) (hn : p.Xs.length ≤ 4294967296) (hkd : o.kind = 5) :
    Calls Try.prog 8 #[.pointer (some ⟨p.WB, 0, none⟩), .agg o.vs.toArray] w (NewN p N ls w) := by
  obtain ⟨hkb, hO⟩ := box_op o w
  obtain ⟨w1, hw1⟩ : ∃ w1, w1 = w.alloc (.cells o.vs.toArray 30) := ⟨_, rfl⟩
  rw [← hw1] at hkb hO
  have hok1 := hok.same hkb
  obtain ⟨B, hB⟩ : ∃ B, B = w.heap.size := ⟨_, rfl⟩
  have hO' : Blk w1 B o.vs 30 := by rw [hB]; exact hO
  have k0 : w1.cell? ⟨B, 0, none⟩ = some (.int .i64 5) := by rw [← hkd]; exact hO'.cell (i := 0) rfl
  have hL1 := hL.kept hkb fun _ _ e => e
  have hT1 := hT.kept hkb fun _ _ e => e
  have H1 := lentI o.la o.lc ls w1 hL1 (by omega)
  have H2 : ∀ w2, Keeps (fun _ => False) w1 w2 → Calls _ _ _ w2 _ := fun w2 hk => lentW o.ta o.tc ts w2 (hT1.kept hk fun _ _ e => e) (by omega)
  have HW : Hid (w.alloc (.cells #[.int .i64 5, .int .i64 o.who, .int .i64 o.a, .int .i64 o.b, .bool o.asked, .int .u32 (o.wd.toNat : Int), .slice o.la o.ln o.lc, .slice o.ta o.tn o.tc] 30) = w1) := by rw [hw1, ← hkd]; rfl
  have hvs : o.vs.toArray = #[.int .i64 5, .int .i64 o.who, .int .i64 o.a, .int .i64 o.b, .bool o.asked, .int .u32 (o.wd.toNat : Int), .slice o.la o.ln o.lc, .slice o.ta o.tn o.tc] := by rw [← hkd]; rfl
  rw [hvs]
  obtain ⟨nl, hnl⟩ : ∃ nl, nl = ls.length := ⟨_, rfl⟩
  obtain ⟨nt, hnt⟩ : ∃ nt, nt = ts.length := ⟨_, rfl⟩
  rw [hln, ← hnl, htn, ← hnt] at HW ⊢
  obtain ⟨A, hA⟩ : ∃ A, A = w1.heap.size := ⟨_, rfl⟩
  rw [← hnl, ← hA] at H1
  rw [← hnt] at H2
  have H1 : Hid (Calls _ _ _ _ _) := H1
  have H2 : Hid (∀ w2, _) := H2
  have HH : Hid (p.Ok N w1 ∧ Keeps (fun _ => False) w w1 ∧ p.Same ∧ SegI w1 o.la ls ∧ nl = ls.length ∧ A = w1.heap.size ∧ (∀ z ∈ ls, z ≤ 9223372036854775807) ∧ nl ≤ 2147483647 ∧ p.Xs.length ≤ 4294967296) := ⟨hok1, hkb, hs, hL1, hnl, hA, htop, by omega, hn⟩
  clear hok hs hL hln hT htn hll htl htop hn hkd hkb hO hw1 hok1 hO' hL1 hT1 hvs hnl hnt hA
  go_enter Try.func8, Try.ntmps8
  go_wp2_with (fail)
  rw [HW.out, ← hB]
  clear HW hB
  refine H1.out.mono ?_
  rintro e w2 ⟨rfl, hb2, hk2⟩
  have k2 := cell_kept k0 hk2 id
  have HB2 : Hid (Blk w2 A _ 3 ∧ Keeps (fun _ => False) w1 w2) := ⟨hb2, hk2⟩
  clear hb2 hk2 k0 H1
  go_wp2_with fail
  refine (H2.out _ HB2.out.2).mono ?_
  rintro e w3 ⟨rfl, -, hk3⟩
  have k3 := cell_kept k2 hk3 id
  have HB3 : Hid (Blk w3 A (ivs (ls ++ marksI 9)) 3 ∧ Keeps (fun _ => False) w1 w3) := ⟨HB2.out.1.kept hk3 (fun e => e), HB2.out.2.trans hk3 fun _ _ e => e⟩
  obtain ⟨A2, hA2⟩ : ∃ A2, A2 = w2.heap.size := ⟨_, rfl⟩
  rw [← hA2]
  clear hk3 k2 HB2 H2 hA2
  go_wp2_with fail
  have H3 := newc_any (some ⟨A, 0, none⟩) (nl + 9) ls w3 (segI_pre HB3.out.1) (by have := HH.out.2.2.2.2.1; have := HH.out.2.2.2.2.2.2.2.1; omega) HH.out.2.2.2.2.2.2.1
  rw [← HH.out.2.2.2.2.1] at H3
  refine H3.mono ?_
  rintro e w4 ⟨X, rfl, hXl, hXt, hXs, hXI, hXf, hk4⟩
  have HX : Hid (X.lk = ls ∧ X.tk = [] ∧ X.st = settledN ls [] ∧ X.In w4 ∧ (∀ k, X.F k → w3.heap.size ≤ k) ∧ Blk w4 A (ivs (ls ++ marksI 9)) 3 ∧ Keeps (fun _ => False) w1 w4) := ⟨hXl, hXt, hXs, hXI, hXf, HB3.out.1.kept hk4 (fun e => e), HB3.out.2.trans hk4 fun _ _ e => e⟩
  have hA3 : A < w3.heap.size := HB3.out.1.lt
  have HA3 : Hid (A < w3.heap.size) := hA3
  obtain ⟨xb, hxb⟩ : ∃ xb, xb = X.b := ⟨_, rfl⟩
  have HXB : Hid (xb = X.b) := hxb
  rw [← hxb]
  clear H3 hXl hXt hXs hXI hXf hk4 k3 HB3 hA3 hxb
  go_wp2_with fail
  have H4 := backI A o.la o.lc ls w4 HX.out.2.2.2.2.2.1 (HH.out.2.2.2.1.kept HX.out.2.2.2.2.2.2 fun _ _ e => e) (fun x hx h0 e => by have := segI_lt' HH.out.2.2.2.1 x hx h0; have := HH.out.2.2.2.2.2.1; omega) (by have := HH.out.2.2.2.2.1; have := HH.out.2.2.2.2.2.2.2.1; omega)
  rw [← HH.out.2.2.2.2.1] at H4
  refine H4.mono ?_
  rintro e w5 ⟨rfl, hk5⟩
  have HK5 : Hid (Keeps (fun _ => False) w1 w5 ∧ X.In w5) := ⟨(HX.out.2.2.2.2.2.2.none.trans hk5 fun k hk e => by have := HH.out.2.2.2.2.2.1; show w1.heap.size ≤ k; omega).new, HX.out.2.2.2.1.kept hk5 fun k hk e => by have := HX.out.2.2.2.2.1 k hk; have := HA3.out; omega⟩
  clear H4 hk5
  obtain ⟨la2, hla2⟩ : ∃ v, v = p.lv := ⟨_, rfl⟩
  obtain ⟨la, lc, hlv, -, -⟩ := owns_slice HH.out.1.row
  have hS0 : w5.drew.cell? ⟨p.WB, 4, none⟩ = some (.slice la p.Xs.length lc) := by
    have := (HH.out.1.same HK5.out.1).drew.blk.cell (i := 4) rfl
    rw [this, hlv]
  have H5 := rnewc_any o.la o.lc ls w5.drew (HH.out.2.2.2.1.kept HK5.out.1.drew fun _ _ e => e) (by have := HH.out.2.2.2.2.1; have := HH.out.2.2.2.2.2.2.2.1; omega)
  rw [← HH.out.2.2.2.2.1] at H5
  have H5 : Hid (Calls _ _ _ _ _) := H5
  have HLV : Hid (p.lv = .slice la p.Xs.length lc) := hlv
  clear hlv hla2 la2
  go_wp2_with fail
  refine wp_region_held_drew (S := (fun w' => True)) Try.mixed trivial (fun hHeld => ?_)
  simp only [List.size_toArray, List.length_cons, List.length_nil, Nat.reduceAdd, Array.replicate_succ, Array.replicate_zero, List.push_toArray, List.append_toArray, List.nil_append, List.cons_append]
  refine wpAnyH_take (i := 0) (oi := { dst := some 69, op := Op.move (Operand.tmp 0), type := 23, pos := "law.go:109", after := #[], guard := none }) (v := .pointer (some ⟨p.WB, 0, none⟩)) rfl (by kernel_rfl) (by kernel_rfl) (by kernel_rfl) (fun _ _ _ h => h) (Or.inl ⟨by kernel_rfl, by (intro w hSw; (try dsimp only at hSw); go_simp)⟩) hHeld ?_
  simp only [Act.put, List.setIfInBounds_toArray, List.set_cons_zero, List.set_cons_succ]
  refine wpAnyH_take (i := 1) (oi := { dst := some 70, op := Op.move (Operand.tmp 0), type := 23, pos := "law.go:109", after := #[], guard := none }) (v := .pointer (some ⟨p.WB, 0, none⟩)) rfl (by kernel_rfl) (by kernel_rfl) (by kernel_rfl) (fun _ _ _ h => h) (Or.inl ⟨by kernel_rfl, by (intro w hSw; (try dsimp only at hSw); go_simp)⟩) hHeld ?_
  simp only [Act.put, List.setIfInBounds_toArray, List.set_cons_zero, List.set_cons_succ]
  refine wpAnyH_take (i := 2) (oi := { dst := some 71, op := Op.nilCheck (Operand.tmp 70), type := 0, pos := "law.go:109", after := #[{ on := 1, ground := Ground.data }], guard := none }) (v := .pointer (some ⟨p.WB, 0, none⟩)) rfl (by kernel_rfl) (by kernel_rfl) (by kernel_rfl) (fun _ _ _ h => h) (Or.inl ⟨by kernel_rfl, by (intro w hSw; (try dsimp only at hSw); go_simp)⟩) hHeld ?_
  simp only [Act.put, List.setIfInBounds_toArray, List.set_cons_zero, List.set_cons_succ]
  refine wpAnyH_take (i := 3) (oi := { dst := some 72, op := Op.fieldAddr 41 (Operand.tmp 71) 4, type := 0, pos := "law.go:109", after := #[{ on := 2, ground := Ground.data }], guard := none }) (v := .pointer (some ⟨p.WB, 4, none⟩)) rfl (by kernel_rfl) (by kernel_rfl) (by kernel_rfl) (fun _ _ _ h => h) (Or.inl ⟨by kernel_rfl, by (intro w hSw; (try dsimp only at hSw); go_simp)⟩) hHeld ?_
  simp only [Act.put, List.setIfInBounds_toArray, List.set_cons_zero, List.set_cons_succ]
  refine wpAnyH_take (i := 5) (oi := { dst := some 74, op := Op.move (Operand.tmp 12), type := 51, pos := "law.go:109", after := #[], guard := none }) (v := .pointer (some ⟨xb, 0, none⟩)) rfl (by kernel_rfl) (by kernel_rfl) (by kernel_rfl) (fun _ _ _ h => h) (Or.inl ⟨by kernel_rfl, by (intro w hSw; (try dsimp only at hSw); go_simp)⟩) hHeld ?_
  simp only [Act.put, List.setIfInBounds_toArray, List.set_cons_zero, List.set_cons_succ]
  refine wpAnyH_take (i := 6) (oi := { dst := some 75, op := Op.move (Operand.tmp 5), type := 27, pos := "law.go:109", after := #[], guard := none }) (v := .slice o.la nl o.lc) rfl (by kernel_rfl) (by kernel_rfl) (by kernel_rfl) (fun _ _ _ h => h) (Or.inl ⟨by kernel_rfl, by (intro w hSw; (try dsimp only at hSw); go_simp)⟩) hHeld ?_
  simp only [Act.put, List.setIfInBounds_toArray, List.set_cons_zero, List.set_cons_succ]
  refine wpAnyH_ready (rs := [4, 7]) (by kernel_rfl) (by simp) ?_
  refine AllReadyH.cons (o := { dst := some 73, op := Op.load 35 (Operand.tmp 72), type := 35, pos := "law.go:109", after := #[{ on := 3, ground := Ground.data }], guard := none }) rfl (fun K hK => ?_) (AllReadyH.cons (o := { dst := some 76, op := Op.call { callee := Callee.value (Operand.func 43), args := #[Operand.tmp 75], argTypes := #[27] }, type := 82, pos := "law.go:109", after := #[{ on := 6, ground := Ground.data }], guard := none }) rfl (fun K hK => ?_) AllReadyH.nil)
  · go_simp
    refine hK.out _ _ trivial (fun hHeld => ?_)
    simp only [Act.put, List.setIfInBounds_toArray, List.set_cons_zero, List.set_cons_succ]
    refine wpAnyH_ready (rs := [7]) (by kernel_rfl) (by simp) ?_
    refine AllReadyH.cons (o := { dst := some 76, op := Op.call { callee := Callee.value (Operand.func 43), args := #[Operand.tmp 75], argTypes := #[27] }, type := 82, pos := "law.go:109", after := #[{ on := 6, ground := Ground.data }], guard := none }) rfl (fun K hK => ?_) AllReadyH.nil
    go_simp
    refine H5.out.mono ?_
    rintro e w6 ⟨Y, rfl, -, hYl, hYt, hYs, hYI, hYf, hk6⟩
    obtain ⟨yb, hyb⟩ : ∃ yb, yb = Y.b := ⟨_, rfl⟩
    have k56 : Keeps (fun _ => False) w5 w6 := (Keeps.refl (fun _ => False) w5).drew.trans hk6 fun _ _ e => e
    have hr6 := owns_kept HH.out.1.row (HK5.out.1.trans k56 fun _ _ e => e) fun _ _ e => e
    obtain ⟨lv', W7, hap, hr7, hg7⟩ := append_pair xb yb p.lv p.Xs.length _ hr6 (by have := HH.out.2.2.2.2.2.2.2.2; omega)
    have hfin := HH.out.1.pair HK5.out.2 (by rw [HX.out.1]; have := HH.out.2.2.2.2.1; have := HH.out.2.2.2.2.2.2.2.1; omega) (fun k hk => Nat.le_trans (Nat.le_of_lt (by have := HH.out.2.2.2.2.2.1; have := HA3.out; omega : w1.heap.size < w3.heap.size)) (HX.out.2.2.2.2.1 k hk)) HK5.out.1 hYI (fun k hk => by have := hYf k hk; simpa using this) k56 (by rw [← HXB.out, ← hyb]; exact hr7) hg7
    have hsame := HH.out.2.2.1.pair HH.out.1.len (X := X) (Y := Y) (by rw [hYl, HX.out.1]) (by rw [hYt, HX.out.2.1]) (by rw [hYs, HX.out.2.2.1]) lv'
    obtain ⟨la', lc', hlv', -, -⟩ := owns_slice hr7
    have hS6 : w6.cell? ⟨p.WB, 4, none⟩ = some (.slice la p.Xs.length lc) := cell_kept hS0 hk6 id
    have hS6a : (w6.alloc (.cells #[.pointer (some ⟨xb, 0, none⟩), .pointer (some ⟨yb, 0, none⟩)] 84)).cell? ⟨p.WB, 4, none⟩ = some (.slice la p.Xs.length lc) := cell_kept (S := fun _ => False) hS6 ((Keeps.refl _ _).alloc _) id
    have hB7 := ((HH.out.1.same HK5.out.1).same k56).blk.kept hg7.keeps (fun e => by have := HH.out.1.sep.one 5 0 _ (Pst.f5 e.symm) (Pst.f0 rfl); omega)
    have hS7 : W7.cell? ⟨p.WB, 4, none⟩ = some (.slice la p.Xs.length lc) := by rw [hB7.cell (i := 4) rfl, HLV.out]
    have z7 := hB7.frozen 4
    rw [HLV.out] at hap
    rw [hlv'] at hap hfin hsame
    have HAP : Hid (∀ ty, _) := hap
    have HFIN : Hid (_ ∧ _) := ⟨hfin, hsame⟩
    rw [← hyb]
    clear hYl hYt hYs hYI hYf hk6 k56 hr6 hr7 hg7 hfin hsame hlv' hap hB7 hyb
    refine hK.out _ _ trivial (fun hHeld => ?_)
    simp only [Act.put, List.setIfInBounds_toArray, List.set_cons_zero, List.set_cons_succ]
    refine wpAnyH_take (i := 8) (oi := { dst := some 77, op := Op.build 84 #[(0, Operand.tmp 74), (1, Operand.tmp 76)], type := 84, pos := "law.go:109", after := #[{ on := 5, ground := Ground.data }, { on := 7, ground := Ground.data }], guard := none }) (v := .agg #[.pointer (some ⟨xb, 0, none⟩), .pointer (some ⟨yb, 0, none⟩)]) rfl (by kernel_rfl) (by kernel_rfl) (by kernel_rfl) (fun _ _ _ h => h) (Or.inl ⟨by kernel_rfl, by (intro w hSw; (try dsimp only at hSw); go_simp)⟩) hHeld ?_
    simp only [Act.put, List.setIfInBounds_toArray, List.set_cons_zero, List.set_cons_succ]
    refine wpAnyH_ready (rs := [9]) (by kernel_rfl) (by simp) ?_
    refine AllReadyH.cons (o := { dst := some 78, op := Op.buildSlice 35 1 #[(0, Operand.tmp 77)], type := 35, pos := "law.go:109", after := #[{ on := 8, ground := Ground.data }], guard := none }) rfl (fun K hK => ?_) AllReadyH.nil
    go_simp
    refine hK.out _ _ trivial (fun hHeld => ?_)
    simp only [Act.put, List.setIfInBounds_toArray, List.set_cons_zero, List.set_cons_succ]
    refine wpAnyH_ready (rs := [10]) (by kernel_rfl) (by simp) ?_
    refine AllReadyH.cons (o := { dst := some 79, op := Op.call { callee := Callee.builtin Builtin.append, args := #[Operand.tmp 73, Operand.tmp 78], argTypes := #[35, 35] }, type := 35, pos := "law.go:109", after := #[{ on := 4, ground := Ground.data }, { on := 9, ground := Ground.data }, { on := 7, ground := Ground.chain }], guard := none }) rfl (fun K hK => ?_) AllReadyH.nil
    rw [if_pos (by rfl)]
    refine wp_append_run (.tmp 73) (.tmp 78) 35 35 rfl (.slice la p.Xs.length lc) (.slice (some ⟨w6.heap.size, 0, none⟩) 1 1) (.slice la' (p.Xs.length + 1) lc') W7 rfl rfl HAP.out ?_
    refine hK.out _ _ trivial (fun hHeld => ?_)
    simp only [Act.put, List.setIfInBounds_toArray, List.set_cons_zero, List.set_cons_succ]
    refine wpAnyH_take (i := 11) (oi := { dst := some 80, op := Op.nilCheck (Operand.tmp 69), type := 0, pos := "law.go:109", after := #[{ on := 0, ground := Ground.data }, { on := 0, ground := Ground.phase }, { on := 1, ground := Ground.phase }, { on := 2, ground := Ground.phase }, { on := 3, ground := Ground.phase }, { on := 4, ground := Ground.phase }, { on := 5, ground := Ground.phase }, { on := 6, ground := Ground.phase }, { on := 7, ground := Ground.phase }, { on := 8, ground := Ground.phase }, { on := 9, ground := Ground.phase }, { on := 10, ground := Ground.phase }], guard := none }) (v := .pointer (some ⟨p.WB, 0, none⟩)) rfl (by kernel_rfl) (by kernel_rfl) (by kernel_rfl) (fun _ _ _ h => h) (Or.inl ⟨by kernel_rfl, by (intro w hSw; (try dsimp only at hSw); go_simp)⟩) hHeld ?_
    simp only [Act.put, List.setIfInBounds_toArray, List.set_cons_zero, List.set_cons_succ]
    refine wpAnyH_take (i := 12) (oi := { dst := some 81, op := Op.fieldAddr 41 (Operand.tmp 80) 4, type := 0, pos := "law.go:109", after := #[{ on := 11, ground := Ground.data }, { on := 0, ground := Ground.phase }, { on := 1, ground := Ground.phase }, { on := 2, ground := Ground.phase }, { on := 3, ground := Ground.phase }, { on := 4, ground := Ground.phase }, { on := 5, ground := Ground.phase }, { on := 6, ground := Ground.phase }, { on := 7, ground := Ground.phase }, { on := 8, ground := Ground.phase }, { on := 9, ground := Ground.phase }, { on := 10, ground := Ground.phase }], guard := none }) (v := .pointer (some ⟨p.WB, 4, none⟩)) rfl (by kernel_rfl) (by kernel_rfl) (by kernel_rfl) (fun _ _ _ h => h) (Or.inl ⟨by kernel_rfl, by (intro w hSw; (try dsimp only at hSw); go_simp)⟩) hHeld ?_
    simp only [Act.put, List.setIfInBounds_toArray, List.set_cons_zero, List.set_cons_succ]
    refine wpAnyH_ready (rs := [13]) (by kernel_rfl) (by simp) ?_
    refine AllReadyH.cons (o := { dst := none, op := Op.store 35 (Operand.tmp 81) (Operand.tmp 79), type := 0, pos := "law.go:109", after := #[{ on := 12, ground := Ground.data }, { on := 10, ground := Ground.data }, { on := 10, ground := Ground.chain }, { on := 0, ground := Ground.phase }, { on := 1, ground := Ground.phase }, { on := 2, ground := Ground.phase }, { on := 3, ground := Ground.phase }, { on := 4, ground := Ground.phase }, { on := 5, ground := Ground.phase }, { on := 6, ground := Ground.phase }, { on := 7, ground := Ground.phase }, { on := 8, ground := Ground.phase }, { on := 9, ground := Ground.phase }, { on := 10, ground := Ground.phase }], guard := none }) rfl (fun K hK => ?_) AllReadyH.nil
    go_simp
    refine hK.out _ _ trivial (fun hHeld => ?_)
    simp only [Act.put, List.setIfInBounds_toArray, List.set_cons_zero, List.set_cons_succ]
    refine wpAnyH_done (by kernel_rfl) ?_ _
    clear hHeld hK hS0 hS6 hS6a hS7 z7 HAP
    go_wp2
    go_ret
    exact ⟨rfl, _, X, HFIN.out.1.1, HFIN.out.2, rfl, HX.out.1, HX.out.2.1, HX.out.2.2.1, rfl, rfl, rfl, HH.out.2.1.none.trans HFIN.out.1.2 fun _ _ e => e⟩
  · go_simp
    refine H5.out.mono ?_
    rintro e w6 ⟨Y, rfl, -, hYl, hYt, hYs, hYI, hYf, hk6⟩
    obtain ⟨yb, hyb⟩ : ∃ yb, yb = Y.b := ⟨_, rfl⟩
    have k56 : Keeps (fun _ => False) w5 w6 := (Keeps.refl (fun _ => False) w5).drew.trans hk6 fun _ _ e => e
    have hr6 := owns_kept HH.out.1.row (HK5.out.1.trans k56 fun _ _ e => e) fun _ _ e => e
    obtain ⟨lv', W7, hap, hr7, hg7⟩ := append_pair xb yb p.lv p.Xs.length _ hr6 (by have := HH.out.2.2.2.2.2.2.2.2; omega)
    have hfin := HH.out.1.pair HK5.out.2 (by rw [HX.out.1]; have := HH.out.2.2.2.2.1; have := HH.out.2.2.2.2.2.2.2.1; omega) (fun k hk => Nat.le_trans (Nat.le_of_lt (by have := HH.out.2.2.2.2.2.1; have := HA3.out; omega : w1.heap.size < w3.heap.size)) (HX.out.2.2.2.2.1 k hk)) HK5.out.1 hYI (fun k hk => by have := hYf k hk; simpa using this) k56 (by rw [← HXB.out, ← hyb]; exact hr7) hg7
    have hsame := HH.out.2.2.1.pair HH.out.1.len (X := X) (Y := Y) (by rw [hYl, HX.out.1]) (by rw [hYt, HX.out.2.1]) (by rw [hYs, HX.out.2.2.1]) lv'
    obtain ⟨la', lc', hlv', -, -⟩ := owns_slice hr7
    have hS6 : w6.cell? ⟨p.WB, 4, none⟩ = some (.slice la p.Xs.length lc) := cell_kept hS0 hk6 id
    have hS6a : (w6.alloc (.cells #[.pointer (some ⟨xb, 0, none⟩), .pointer (some ⟨yb, 0, none⟩)] 84)).cell? ⟨p.WB, 4, none⟩ = some (.slice la p.Xs.length lc) := cell_kept (S := fun _ => False) hS6 ((Keeps.refl _ _).alloc _) id
    have hB7 := ((HH.out.1.same HK5.out.1).same k56).blk.kept hg7.keeps (fun e => by have := HH.out.1.sep.one 5 0 _ (Pst.f5 e.symm) (Pst.f0 rfl); omega)
    have hS7 : W7.cell? ⟨p.WB, 4, none⟩ = some (.slice la p.Xs.length lc) := by rw [hB7.cell (i := 4) rfl, HLV.out]
    have z7 := hB7.frozen 4
    rw [HLV.out] at hap
    rw [hlv'] at hap hfin hsame
    have HAP : Hid (∀ ty, _) := hap
    have HFIN : Hid (_ ∧ _) := ⟨hfin, hsame⟩
    rw [← hyb]
    clear hYl hYt hYs hYI hYf hk6 k56 hr6 hr7 hg7 hfin hsame hlv' hap hB7 hyb
    refine hK.out _ _ trivial (fun hHeld => ?_)
    simp only [Act.put, List.setIfInBounds_toArray, List.set_cons_zero, List.set_cons_succ]
    refine wpAnyH_take (i := 8) (oi := { dst := some 77, op := Op.build 84 #[(0, Operand.tmp 74), (1, Operand.tmp 76)], type := 84, pos := "law.go:109", after := #[{ on := 5, ground := Ground.data }, { on := 7, ground := Ground.data }], guard := none }) (v := .agg #[.pointer (some ⟨xb, 0, none⟩), .pointer (some ⟨yb, 0, none⟩)]) rfl (by kernel_rfl) (by kernel_rfl) (by kernel_rfl) (fun _ _ _ h => h) (Or.inl ⟨by kernel_rfl, by (intro w hSw; (try dsimp only at hSw); go_simp)⟩) hHeld ?_
    simp only [Act.put, List.setIfInBounds_toArray, List.set_cons_zero, List.set_cons_succ]
    refine wpAnyH_ready (rs := [4, 9]) (by kernel_rfl) (by simp) ?_
    refine AllReadyH.cons (o := { dst := some 73, op := Op.load 35 (Operand.tmp 72), type := 35, pos := "law.go:109", after := #[{ on := 3, ground := Ground.data }], guard := none }) rfl (fun K hK => ?_) (AllReadyH.cons (o := { dst := some 78, op := Op.buildSlice 35 1 #[(0, Operand.tmp 77)], type := 35, pos := "law.go:109", after := #[{ on := 8, ground := Ground.data }], guard := none }) rfl (fun K hK => ?_) AllReadyH.nil)
    · go_simp
      refine hK.out _ _ trivial (fun hHeld => ?_)
      simp only [Act.put, List.setIfInBounds_toArray, List.set_cons_zero, List.set_cons_succ]
      refine wpAnyH_ready (rs := [9]) (by kernel_rfl) (by simp) ?_
      refine AllReadyH.cons (o := { dst := some 78, op := Op.buildSlice 35 1 #[(0, Operand.tmp 77)], type := 35, pos := "law.go:109", after := #[{ on := 8, ground := Ground.data }], guard := none }) rfl (fun K hK => ?_) AllReadyH.nil
      go_simp
      refine hK.out _ _ trivial (fun hHeld => ?_)
      simp only [Act.put, List.setIfInBounds_toArray, List.set_cons_zero, List.set_cons_succ]
      refine wpAnyH_ready (rs := [10]) (by kernel_rfl) (by simp) ?_
      refine AllReadyH.cons (o := { dst := some 79, op := Op.call { callee := Callee.builtin Builtin.append, args := #[Operand.tmp 73, Operand.tmp 78], argTypes := #[35, 35] }, type := 35, pos := "law.go:109", after := #[{ on := 4, ground := Ground.data }, { on := 9, ground := Ground.data }, { on := 7, ground := Ground.chain }], guard := none }) rfl (fun K hK => ?_) AllReadyH.nil
      rw [if_pos (by rfl)]
      refine wp_append_run (.tmp 73) (.tmp 78) 35 35 rfl (.slice la p.Xs.length lc) (.slice (some ⟨w6.heap.size, 0, none⟩) 1 1) (.slice la' (p.Xs.length + 1) lc') W7 rfl rfl HAP.out ?_
      refine hK.out _ _ trivial (fun hHeld => ?_)
      simp only [Act.put, List.setIfInBounds_toArray, List.set_cons_zero, List.set_cons_succ]
      refine wpAnyH_take (i := 11) (oi := { dst := some 80, op := Op.nilCheck (Operand.tmp 69), type := 0, pos := "law.go:109", after := #[{ on := 0, ground := Ground.data }, { on := 0, ground := Ground.phase }, { on := 1, ground := Ground.phase }, { on := 2, ground := Ground.phase }, { on := 3, ground := Ground.phase }, { on := 4, ground := Ground.phase }, { on := 5, ground := Ground.phase }, { on := 6, ground := Ground.phase }, { on := 7, ground := Ground.phase }, { on := 8, ground := Ground.phase }, { on := 9, ground := Ground.phase }, { on := 10, ground := Ground.phase }], guard := none }) (v := .pointer (some ⟨p.WB, 0, none⟩)) rfl (by kernel_rfl) (by kernel_rfl) (by kernel_rfl) (fun _ _ _ h => h) (Or.inl ⟨by kernel_rfl, by (intro w hSw; (try dsimp only at hSw); go_simp)⟩) hHeld ?_
      simp only [Act.put, List.setIfInBounds_toArray, List.set_cons_zero, List.set_cons_succ]
      refine wpAnyH_take (i := 12) (oi := { dst := some 81, op := Op.fieldAddr 41 (Operand.tmp 80) 4, type := 0, pos := "law.go:109", after := #[{ on := 11, ground := Ground.data }, { on := 0, ground := Ground.phase }, { on := 1, ground := Ground.phase }, { on := 2, ground := Ground.phase }, { on := 3, ground := Ground.phase }, { on := 4, ground := Ground.phase }, { on := 5, ground := Ground.phase }, { on := 6, ground := Ground.phase }, { on := 7, ground := Ground.phase }, { on := 8, ground := Ground.phase }, { on := 9, ground := Ground.phase }, { on := 10, ground := Ground.phase }], guard := none }) (v := .pointer (some ⟨p.WB, 4, none⟩)) rfl (by kernel_rfl) (by kernel_rfl) (by kernel_rfl) (fun _ _ _ h => h) (Or.inl ⟨by kernel_rfl, by (intro w hSw; (try dsimp only at hSw); go_simp)⟩) hHeld ?_
      simp only [Act.put, List.setIfInBounds_toArray, List.set_cons_zero, List.set_cons_succ]
      refine wpAnyH_ready (rs := [13]) (by kernel_rfl) (by simp) ?_
      refine AllReadyH.cons (o := { dst := none, op := Op.store 35 (Operand.tmp 81) (Operand.tmp 79), type := 0, pos := "law.go:109", after := #[{ on := 12, ground := Ground.data }, { on := 10, ground := Ground.data }, { on := 10, ground := Ground.chain }, { on := 0, ground := Ground.phase }, { on := 1, ground := Ground.phase }, { on := 2, ground := Ground.phase }, { on := 3, ground := Ground.phase }, { on := 4, ground := Ground.phase }, { on := 5, ground := Ground.phase }, { on := 6, ground := Ground.phase }, { on := 7, ground := Ground.phase }, { on := 8, ground := Ground.phase }, { on := 9, ground := Ground.phase }, { on := 10, ground := Ground.phase }], guard := none }) rfl (fun K hK => ?_) AllReadyH.nil
      go_simp
      refine hK.out _ _ trivial (fun hHeld => ?_)
      simp only [Act.put, List.setIfInBounds_toArray, List.set_cons_zero, List.set_cons_succ]
      refine wpAnyH_done (by kernel_rfl) ?_ _
      clear hHeld hK hS0 hS6 hS6a hS7 z7 HAP
      go_wp2
      go_ret
      exact ⟨rfl, _, X, HFIN.out.1.1, HFIN.out.2, rfl, HX.out.1, HX.out.2.1, HX.out.2.2.1, rfl, rfl, rfl, HH.out.2.1.none.trans HFIN.out.1.2 fun _ _ e => e⟩
    · go_simp
      refine hK.out _ _ trivial (fun hHeld => ?_)
      simp only [Act.put, List.setIfInBounds_toArray, List.set_cons_zero, List.set_cons_succ]
      refine wpAnyH_ready (rs := [4]) (by kernel_rfl) (by simp) ?_
      refine AllReadyH.cons (o := { dst := some 73, op := Op.load 35 (Operand.tmp 72), type := 35, pos := "law.go:109", after := #[{ on := 3, ground := Ground.data }], guard := none }) rfl (fun K hK => ?_) AllReadyH.nil
      go_simp
      refine hK.out _ _ trivial (fun hHeld => ?_)
      simp only [Act.put, List.setIfInBounds_toArray, List.set_cons_zero, List.set_cons_succ]
      refine wpAnyH_ready (rs := [10]) (by kernel_rfl) (by simp) ?_
      refine AllReadyH.cons (o := { dst := some 79, op := Op.call { callee := Callee.builtin Builtin.append, args := #[Operand.tmp 73, Operand.tmp 78], argTypes := #[35, 35] }, type := 35, pos := "law.go:109", after := #[{ on := 4, ground := Ground.data }, { on := 9, ground := Ground.data }, { on := 7, ground := Ground.chain }], guard := none }) rfl (fun K hK => ?_) AllReadyH.nil
      rw [if_pos (by rfl)]
      refine wp_append_run (.tmp 73) (.tmp 78) 35 35 rfl (.slice la p.Xs.length lc) (.slice (some ⟨w6.heap.size, 0, none⟩) 1 1) (.slice la' (p.Xs.length + 1) lc') W7 rfl rfl HAP.out ?_
      refine hK.out _ _ trivial (fun hHeld => ?_)
      simp only [Act.put, List.setIfInBounds_toArray, List.set_cons_zero, List.set_cons_succ]
      refine wpAnyH_take (i := 11) (oi := { dst := some 80, op := Op.nilCheck (Operand.tmp 69), type := 0, pos := "law.go:109", after := #[{ on := 0, ground := Ground.data }, { on := 0, ground := Ground.phase }, { on := 1, ground := Ground.phase }, { on := 2, ground := Ground.phase }, { on := 3, ground := Ground.phase }, { on := 4, ground := Ground.phase }, { on := 5, ground := Ground.phase }, { on := 6, ground := Ground.phase }, { on := 7, ground := Ground.phase }, { on := 8, ground := Ground.phase }, { on := 9, ground := Ground.phase }, { on := 10, ground := Ground.phase }], guard := none }) (v := .pointer (some ⟨p.WB, 0, none⟩)) rfl (by kernel_rfl) (by kernel_rfl) (by kernel_rfl) (fun _ _ _ h => h) (Or.inl ⟨by kernel_rfl, by (intro w hSw; (try dsimp only at hSw); go_simp)⟩) hHeld ?_
      simp only [Act.put, List.setIfInBounds_toArray, List.set_cons_zero, List.set_cons_succ]
      refine wpAnyH_take (i := 12) (oi := { dst := some 81, op := Op.fieldAddr 41 (Operand.tmp 80) 4, type := 0, pos := "law.go:109", after := #[{ on := 11, ground := Ground.data }, { on := 0, ground := Ground.phase }, { on := 1, ground := Ground.phase }, { on := 2, ground := Ground.phase }, { on := 3, ground := Ground.phase }, { on := 4, ground := Ground.phase }, { on := 5, ground := Ground.phase }, { on := 6, ground := Ground.phase }, { on := 7, ground := Ground.phase }, { on := 8, ground := Ground.phase }, { on := 9, ground := Ground.phase }, { on := 10, ground := Ground.phase }], guard := none }) (v := .pointer (some ⟨p.WB, 4, none⟩)) rfl (by kernel_rfl) (by kernel_rfl) (by kernel_rfl) (fun _ _ _ h => h) (Or.inl ⟨by kernel_rfl, by (intro w hSw; (try dsimp only at hSw); go_simp)⟩) hHeld ?_
      simp only [Act.put, List.setIfInBounds_toArray, List.set_cons_zero, List.set_cons_succ]
      refine wpAnyH_ready (rs := [13]) (by kernel_rfl) (by simp) ?_
      refine AllReadyH.cons (o := { dst := none, op := Op.store 35 (Operand.tmp 81) (Operand.tmp 79), type := 0, pos := "law.go:109", after := #[{ on := 12, ground := Ground.data }, { on := 10, ground := Ground.data }, { on := 10, ground := Ground.chain }, { on := 0, ground := Ground.phase }, { on := 1, ground := Ground.phase }, { on := 2, ground := Ground.phase }, { on := 3, ground := Ground.phase }, { on := 4, ground := Ground.phase }, { on := 5, ground := Ground.phase }, { on := 6, ground := Ground.phase }, { on := 7, ground := Ground.phase }, { on := 8, ground := Ground.phase }, { on := 9, ground := Ground.phase }, { on := 10, ground := Ground.phase }], guard := none }) rfl (fun K hK => ?_) AllReadyH.nil
      go_simp
      refine hK.out _ _ trivial (fun hHeld => ?_)
      simp only [Act.put, List.setIfInBounds_toArray, List.set_cons_zero, List.set_cons_succ]
      refine wpAnyH_done (by kernel_rfl) ?_ _
      clear hHeld hK hS0 hS6 hS6a hS7 z7 HAP
      go_wp2
      go_ret
      exact ⟨rfl, _, X, HFIN.out.1.1, HFIN.out.2, rfl, HX.out.1, HX.out.2.1, HX.out.2.2.1, rfl, rfl, rfl, HH.out.2.1.none.trans HFIN.out.1.2 fun _ _ e => e⟩

theorem makes_new (p : Pst) (N : Nat) (o : Opr) (ls : List Int) (ts : List UInt32) (w : World) (hok : p.Ok N w) (hs : p.Same) (hL : SegI w o.la ls) (hln : o.ln = ls.length) (hT : SegW w o.ta ts) (htn : o.tn = ts.length) (hll : ls.length ≤ 2147483647) (htl : ts.length ≤ 2147483647) (htop : ∀ z ∈ ls, z ≤ 9223372036854775807) (hn : p.Xs.length ≤ 4294967296) (hkd : o.kind = 5) :
    Calls Try.prog 8 #[.pointer (some ⟨p.WB, 0, none⟩), .agg o.vs.toArray] w (PlayP p N w) := by
  refine (makes_newN p N o ls ts w hok hs hL hln hT htn hll htl htop hn hkd).mono ?_
  rintro e w' ⟨he, p', X, h3, h4, h1, -, -, -, -, h2, h5, h6⟩
  exact ⟨he, p', h3, h4, h5, by rw [h1]; simp, by rw [h1]; simp, by rw [h2]; omega, h6⟩

end Go.Proofs.Ytadhldpeklkcmaa
