import Derived.Test.YtekijhhpldnmnaaJ
namespace Go.Proofs.Ytekijhhpldnmnaa
open Go.RowKit
set_option linter.unusedVariables false
set_option linter.unusedSimpArgs false

/-- The words behind a push. -/
def pushL (h n d : Nat) (l : List UInt32) (m : List UInt32) : List UInt32 :=
  (lay (l.set (plA h n d l (cntW h l)) (UInt32.ofNat m.length)) (plA h n d l (cntW h l) + 1) m).set (cntI h) (UInt32.ofNat (cntW h l + 1))

section
variable (p : Int) (g h n d N : Nat) (l : List UInt32) (w : World)

set_option maxRecDepth 20000 in
set_option maxHeartbeats 4000000 in
theorem push_any (b o c : Nat) (m : List UInt32) (r : Rb w g h n d l) (hN : N = l.length) (hf : fstW h l < d) (hc : cntW h l < d) (hm : SegW w (some ⟨b, o, none⟩) m) (hbg : b ≠ g) (h1 : 1 ≤ m.length) (h2 : m.length ≤ n) :
    Calls Try.prog 41 #[rwv p h n d g N, .slice (some ⟨b, o, none⟩) m.length c] w fun e w' => e = .returned (.tuple #[]) ∧ Blk w' g (wvs (pushL h n d l m)) 52 ∧ Keeps (· = g) w w' := by
  obtain ⟨W, hW, hK, hB⟩ := row_new w p h n d g N
  have hb := r.big
  have rW := r.grown hK
  have hcell := row_cells p g h n d N hB
  have hfit := plA_fit r hf hc
  have hO : w.heap.size ≠ g := by have := r.blk.lt; omega
  have hi : cntI h < h := by rcases r.hh with rfl | rfl <;> decide
  have HZ := size_on p g h n d N l rW hN
  have HP := fun W1 k => place_on p g h n d N l rW hN hf W1 k (cntW h l) hc
  have hqh : h ≤ plA h n d l (cntW h l) := by unfold plA; omega
  have HF : Hid (pushL h n d l m = (lay (l.set (plA h n d l (cntW h l)) (UInt32.ofNat m.length)) (plA h n d l (cntW h l) + 1) m).set (cntI h) (UInt32.ofNat (cntW h l + 1))) := by show _ = _; rfl
  obtain ⟨C, hC⟩ : ∃ v : Nat, v = cntW h l := ⟨_, rfl⟩
  obtain ⟨q, hq⟩ : ∃ v : Nat, v = plA h n d l C := ⟨_, rfl⟩
  obtain ⟨k, hk⟩ : ∃ v : Nat, v = m.length := ⟨_, rfl⟩
  obtain ⟨i, hie⟩ : ∃ v : Nat, v = cntI h := ⟨_, rfl⟩
  have hC3 : (wd l i).toNat = C := by rw [hC, hie]; rfl
  rw [← hC] at HZ HP hfit hc hqh HF
  rw [← hq] at HP hfit hqh HF
  rw [← hie] at hi HF
  rw [← hk] at h1 h2 HF ⊢
  have hn := r.n2
  have hd := r.d2
  -- the words, step by step
  obtain ⟨l1, hl1⟩ : ∃ l1, l1 = l.set q (UInt32.ofNat k) := ⟨_, rfl⟩
  obtain ⟨l2, hl2⟩ : ∃ l2, l2 = lay l1 (q + 1) m := ⟨_, rfl⟩
  have hl1l : l1.length = l.length := by rw [hl1]; simp
  have hl2l : l2.length = l.length := by rw [hl2, lay_length _ _ _ (by omega), hl1l]
  have hk32 : (UInt32.ofNat k).toNat = k := ofNat_small (by omega)
  have hC32 : (UInt32.ofNat (C + 1)).toNat = C + 1 := ofNat_small (by omega)
  have hwd2 : wd l2 i = wd l i := by
    have h3 : wd l2 i = wd l1 i := by
      unfold wd
      rw [hl2, List.getD_eq_getElem?_getD, List.getD_eq_getElem?_getD, lay_get? _ _ _ (by omega), if_neg (by omega)]
    rw [h3]
    unfold wd
    rw [hl1, List.getD_eq_getElem?_getD, List.getD_eq_getElem?_getD, List.getElem?_set_ne (by omega)]
  have HX : Hid (∀ w2, Keeps (fun _ => False) W w2 → Blk (w2.setCell ⟨g, q, none⟩ (.int .u32 k)) g (wvs l1) 52 ∧ SegW (w2.setCell ⟨g, q, none⟩ (.int .u32 k)) (some ⟨b, o, none⟩) m ∧ Keeps (· = g) w (w2.setCell ⟨g, q, none⟩ (.int .u32 k)) ∧ Keeps (· = g) W (w2.setCell ⟨g, q, none⟩ (.int .u32 k)) ∧ w2.cell? ⟨g, q, none⟩ = some (.int .u32 ((wd l q).toNat : Int)) ∧ w2.frozen? ⟨g, q, none⟩ = false) := fun w2 k2 => by
    have hb2 := (rW.grown k2).blk
    have hb3 := hb2.setCell q (.int .u32 (k : Int))
    have e : (wvs l).set q (.int .u32 (k : Int)) = wvs l1 := by rw [hl1, wvs_setm, hk32]
    rw [e] at hb3
    have kk : Keeps (· = g) w (w2.setCell ⟨g, q, none⟩ (.int .u32 (k : Int))) := ((hK.trans k2 fun _ _ e => e).mono fun _ _ e => e.elim).setCell _ _ fun _ => rfl
    exact ⟨hb3, hm.kept kk fun x hx => by cases hx; exact hbg, kk, (k2.mono fun _ _ e => e.elim).setCell _ _ fun _ => rfl, hb2.cell (wvs_wd (by omega)), hb2.frozen q⟩
  have HY : Hid (∀ W3, Blk W3 g (wvs l1) 52 → SegW W3 (some ⟨b, o, none⟩) m → ∀ ty, (Builtin.copy_ #[22, 22] ty #[.slice (some ⟨g, q + 1, none⟩) n (N - q - 1), .slice (some ⟨b, o, none⟩) k c]).run Try.prog W3 = .ok (goInt k) (W3.setRow g (wvs l2).toArray)) := fun W3 hB3 hs3 ty => by
    have := run_copy_ws ty g (q + 1) n (N - q - 1) _ 52 hB3 b o k c m hs3 (by rw [← hk]; exact (Nat.min_eq_left h2).symm) (by rw [wvs_length, ← hk]; omega)
    rw [← hk] at this
    rw [this]
    have e : (wvs l1).take (q + 1) ++ wvs m ++ (wvs l1).drop (q + 1 + k) = wvs l2 := by rw [hl2, lay, wvs_append, wvs_append, wvs_take, wvs_drop, ← hk]
    rw [e]
  have HCA := fun W4 => countAt_on p g h n d N (W := W4) r.hh
  rw [← hie] at HCA
  have HCA : Hid (∀ W4 W1, Keeps (fun _ => False) W4 W1 → Calls Try.prog 62 #[rwv p h n d g N] W1 fun e w' => e = .returned (.int .i64 i) ∧ Keeps (fun _ => False) W4 w') := HCA
  have HS5 : Hid (∀ W4, Blk W4 g (wvs l2) 52 → Keeps (· = g) W W4 → ∀ w5, Keeps (fun _ => False) W4 w5 → (w5.cell? ⟨w.heap.size, 0, none⟩ = some (.int .i64 p) ∧ w5.cell? ⟨w.heap.size, 1, none⟩ = some (.int .i64 h) ∧ w5.cell? ⟨w.heap.size, 2, none⟩ = some (.int .i64 n) ∧ w5.cell? ⟨w.heap.size, 3, none⟩ = some (.int .i64 d) ∧ w5.cell? ⟨w.heap.size, 4, none⟩ = some (.slice (some ⟨g, 0, none⟩) N N)) ∧ w5.cell? ⟨g, i, none⟩ = some (.int .u32 C) ∧ w5.frozen? ⟨g, i, none⟩ = false ∧ ((w5.setCell ⟨g, i, none⟩ (.int .u32 ((C : Int) + 1))).cell? ⟨w.heap.size, 0, none⟩ = some (.int .i64 p) ∧ (w5.setCell ⟨g, i, none⟩ (.int .u32 ((C : Int) + 1))).cell? ⟨w.heap.size, 1, none⟩ = some (.int .i64 h) ∧ (w5.setCell ⟨g, i, none⟩ (.int .u32 ((C : Int) + 1))).cell? ⟨w.heap.size, 2, none⟩ = some (.int .i64 n) ∧ (w5.setCell ⟨g, i, none⟩ (.int .u32 ((C : Int) + 1))).cell? ⟨w.heap.size, 3, none⟩ = some (.int .i64 d) ∧ (w5.setCell ⟨g, i, none⟩ (.int .u32 ((C : Int) + 1))).cell? ⟨w.heap.size, 4, none⟩ = some (.slice (some ⟨g, 0, none⟩) N N))) := fun W4 hB4 k4 w5 k5 => by
    have q1 := (hB.kept k4 hO).kept k5 fun e => e
    have q2 := hB4.kept k5 fun e => e
    have q3 := q1.setCell_ne (a := ⟨g, i, none⟩) hO (.int .u32 ((C : Int) + 1))
    refine ⟨⟨q1.cell rfl, q1.cell rfl, q1.cell rfl, q1.cell rfl, q1.cell rfl⟩, ?_, q2.frozen i, ⟨q3.cell rfl, q3.cell rfl, q3.cell rfl, q3.cell rfl, q3.cell rfl⟩⟩
    rw [q2.cell (wvs_wd (by omega)), hwd2, hC3]
  have HFin : Hid (∀ W4, Blk W4 g (wvs l2) 52 → Keeps (· = g) w W4 → ∀ w5, Keeps (fun _ => False) W4 w5 → Blk (w5.setCell ⟨g, i, none⟩ (.int .u32 ((C : Int) + 1))) g (wvs (pushL h n d l m)) 52 ∧ Keeps (· = g) w (w5.setCell ⟨g, i, none⟩ (.int .u32 ((C : Int) + 1)))) := fun W4 hB4 k4 w5 k5 => by
    have q2 := (hB4.kept k5 fun e => e).setCell i (.int .u32 ((C : Int) + 1))
    refine ⟨?_, (k4.trans k5 fun _ _ e => e.elim).setCell _ _ fun _ => rfl⟩
    rw [HF.out, ← hl1, ← hl2, wvs_setm, hC32]
    exact q2
  have HZ : Hid (∀ W1, Keeps (fun _ => False) W W1 → Calls Try.prog 47 #[rwv p h n d g N] W1 fun e w' => e = .returned (.int .i64 C) ∧ Keeps (fun _ => False) W w') := HZ
  have HP : Hid (∀ W1, Keeps (fun _ => False) W W1 → Calls Try.prog 61 #[rwv p h n d g N, .int .i64 C] W1 fun e w' => e = .returned (.slice (some ⟨g, q, none⟩) (1 + n) (N - q)) ∧ Keeps (fun _ => False) W w') := HP
  have hS := hcell W (Keeps.refl _ _)
  have HS : Hid (∀ W1, Keeps (fun _ => False) W W1 → _) := hcell
  obtain ⟨O, hOe⟩ : ∃ O, O = w.heap.size := ⟨_, rfl⟩
  rw [← hOe] at HS hS HS5
  have HW : Hid (W = _ ∧ Keeps (fun _ => False) w W ∧ O = w.heap.size) := ⟨hW, hK, hOe⟩
  have y1 : (q : Int) + 1 + (n : Int) ≤ (N : Int) := by omega
  have y2 : 1 ≤ (n : Int) := by omega
  have y3 : (N : Int) ≤ 139 := by omega
  have y4 : ¬ N - q = 1 := by omega
  have y5 : 1 ≤ ((N - q : Nat) : Int) := by omega
  have y6 : (k : Int) ≤ 16 := by omega
  have y7 : (k : Int) % 4294967296 = (k : Int) := by omega
  have y8 : (i : Int) < (N : Int) := by omega
  have y9 : (C : Int) < 8 := by omega
  have x1 : IntKind.u32.wrap ((C : Int) + 1) = (C : Int) + 1 := by rw [IntKind.wrap_u32]; omega
  obtain ⟨v, hv⟩ : ∃ v : Nat, v = (wd l q).toNat := ⟨_, rfl⟩
  rw [← hv] at HX
  clear hcell hW hK hB hb rW r hN hf hC hO hOe hfit hi hqh HF hq hk hie hC3 hl1 hl2 hl1l hl2l hk32 hC32 hwd2 hn hd hm hbg h1 h2 hc hv
  go_enter Try.func41, Try.ntmps41
  go_wp2
  rw [← HW.out.1, ← HW.out.2.2]
  refine wp_region_held_drew (S := (fun w' => w'.cell? ⟨O, 0, none⟩ = some (.int .i64 p) ∧ w'.cell? ⟨O, 1, none⟩ = some (.int .i64 h) ∧ w'.cell? ⟨O, 2, none⟩ = some (.int .i64 n) ∧ w'.cell? ⟨O, 3, none⟩ = some (.int .i64 d) ∧ w'.cell? ⟨O, 4, none⟩ = some (.slice (some ⟨g, 0, none⟩) N N))) Try.mixd hS (fun hHeld => ?_)
  simp only [List.size_toArray, List.length_cons, List.length_nil, Nat.reduceAdd, Array.replicate_succ, Array.replicate_zero, List.push_toArray, List.append_toArray, List.nil_append, List.cons_append]
  refine wpAnyH_take (i := 0) (oi := { dst := some 5, op := Op.load 75 (Operand.tmp 2), type := 75, pos := "row.go:142", after := #[], guard := none }) (v := .agg #[.int .i64 p, .int .i64 h, .int .i64 n, .int .i64 d, .slice (some ⟨g, 0, none⟩) N N]) rfl (by kernel_rfl) (by kernel_rfl) (by kernel_rfl) (fun _ _ _ h => h) (Or.inl ⟨by kernel_rfl, by (intro w hSw; (try dsimp only at hSw); go_simp; try omega)⟩) hHeld ?_
  simp only [Act.put, List.setIfInBounds_toArray, List.set_cons_zero, List.set_cons_succ]
  refine wpAnyH_take (i := 1) (oi := { dst := some 6, op := Op.load 75 (Operand.tmp 2), type := 75, pos := "row.go:142", after := #[], guard := none }) (v := .agg #[.int .i64 p, .int .i64 h, .int .i64 n, .int .i64 d, .slice (some ⟨g, 0, none⟩) N N]) rfl (by kernel_rfl) (by kernel_rfl) (by kernel_rfl) (fun _ _ _ h => h) (Or.inl ⟨by kernel_rfl, by (intro w hSw; (try dsimp only at hSw); go_simp; try omega)⟩) hHeld ?_
  simp only [Act.put, List.setIfInBounds_toArray, List.set_cons_zero, List.set_cons_succ]
  refine wpAnyH_ready (rs := [2]) (by kernel_rfl) (by simp) ?_
  refine AllReadyH.cons (o := { dst := some 7, op := Op.call { callee := Callee.value (Operand.func 47), args := #[Operand.tmp 6], argTypes := #[75] }, type := 3, pos := "row.go:142", after := #[{ on := 1, ground := Ground.data }], guard := none }) rfl (fun Kq hK => ?_) AllReadyH.nil
  go_simp
  refine (HZ.out _ (Keeps.refl _ W).drew).mono ?_
  rintro e w1 ⟨rfl, hk1⟩
  refine hK.out _ _ (HS.out w1 hk1) (fun hHeld => ?_)
  simp only [Act.put, List.setIfInBounds_toArray, List.set_cons_zero, List.set_cons_succ]
  refine wpAnyH_ready (rs := [3]) (by kernel_rfl) (by simp) ?_
  refine AllReadyH.cons (o := { dst := some 8, op := Op.call { callee := Callee.value (Operand.func 61), args := #[Operand.tmp 5, Operand.tmp 7], argTypes := #[75, 3] }, type := 22, pos := "row.go:142", after := #[{ on := 0, ground := Ground.data }, { on := 2, ground := Ground.data }, { on := 2, ground := Ground.chain }], guard := none }) rfl (fun Kq hK => ?_) AllReadyH.nil
  go_simp
  refine (HP.out w1 hk1).mono ?_
  rintro e w2 ⟨rfl, hk2⟩
  refine hK.out _ _ (HS.out w2 hk2) (fun hHeld => ?_)
  simp only [Act.put, List.setIfInBounds_toArray, List.set_cons_zero, List.set_cons_succ]
  refine wpAnyH_take (i := 4) (oi := { dst := some 4, op := Op.assign (Operand.tmp 8), type := 22, pos := "row.go:142", after := #[{ on := 3, ground := Ground.data }, { on := 3, ground := Ground.chain }, { on := 0, ground := Ground.phase }, { on := 1, ground := Ground.phase }, { on := 2, ground := Ground.phase }, { on := 3, ground := Ground.phase }], guard := none }) (v := .slice (some ⟨g, q, none⟩) (1 + n) (N - q)) rfl (by kernel_rfl) (by kernel_rfl) (by kernel_rfl) (fun _ _ _ h => h) (Or.inl ⟨by kernel_rfl, by (intro w hSw; (try dsimp only at hSw); go_simp; try omega)⟩) hHeld ?_
  simp only [Act.put, List.setIfInBounds_toArray, List.set_cons_zero, List.set_cons_succ]
  refine wpAnyH_done (by kernel_rfl) ?_ _
  clear hHeld
  obtain ⟨hB3, hs3, hk3, hk3W, cq, fq⟩ := HX.out w2 hk2
  have HB3 : Hid (Blk _ _ _ _ ∧ SegW _ _ _ ∧ Keeps _ _ _ ∧ Keeps _ _ _) := ⟨hB3, hs3, hk3, hk3W⟩
  have HCP : Hid (∀ ty, _) := HY.out _ hB3 hs3
  clear hB3 hs3 hk3 hk3W hS hk1 hk2
  go_wp2_with (refine isCopy (.tmp 15) (.tmp 16) 22 22 rfl ?_; go_must (refine wpList_copy_run rfl (.tmp 15) (.tmp 16) 22 22 rfl (.slice (some ⟨g, q + 1, none⟩) n (N - q - 1)) (.slice (some ⟨b, o, none⟩) k c) (goInt k) _ rfl rfl HCP.out ?_))
  have hB4 : Blk ((w2.setCell ⟨g, q, none⟩ (.int .u32 (k : Int))).setRow g (wvs l2).toArray) g (wvs l2) 52 := HB3.out.1.setRow _
  have hk4 : Keeps (· = g) w ((w2.setCell ⟨g, q, none⟩ (.int .u32 (k : Int))).setRow g (wvs l2).toArray) := HB3.out.2.2.1.setRow _ _ fun _ => rfl
  have hk4W : Keeps (· = g) W ((w2.setCell ⟨g, q, none⟩ (.int .u32 (k : Int))).setRow g (wvs l2).toArray) := HB3.out.2.2.2.setRow _ _ fun _ => rfl
  obtain ⟨W4, hW4⟩ : ∃ W4, W4 = (w2.setCell ⟨g, q, none⟩ (.int .u32 (k : Int))).setRow g (wvs l2).toArray := ⟨_, rfl⟩
  rw [← hW4] at hB4 hk4 hk4W ⊢
  clear hW4 HCP HB3 HY HX HP HZ cq fq
  have hS4 := (HS5.out W4 hB4 hk4W W4 (Keeps.refl _ _)).1
  have HS5 : Hid (∀ w5, Keeps (fun _ => False) W4 w5 → _) := HS5.out W4 hB4 hk4W
  have HCA : Hid (∀ W1, Keeps (fun _ => False) W4 W1 → Calls Try.prog 62 #[rwv p h n d g N] W1 fun e w' => e = .returned (.int .i64 i) ∧ Keeps (fun _ => False) W4 w') := HCA.out W4
  have HFin : Hid (∀ w5, Keeps (fun _ => False) W4 w5 → _) := HFin.out W4 hB4 hk4
  clear hB4 hk4 hk4W
  refine wp_region_held_drew (S := (fun w' => w'.cell? ⟨O, 0, none⟩ = some (.int .i64 p) ∧ w'.cell? ⟨O, 1, none⟩ = some (.int .i64 h) ∧ w'.cell? ⟨O, 2, none⟩ = some (.int .i64 n) ∧ w'.cell? ⟨O, 3, none⟩ = some (.int .i64 d) ∧ w'.cell? ⟨O, 4, none⟩ = some (.slice (some ⟨g, 0, none⟩) N N))) Try.mixd hS4 (fun hHeld => ?_)
  simp only [List.size_toArray, List.length_cons, List.length_nil, Nat.reduceAdd, Array.replicate_succ, Array.replicate_zero, List.push_toArray, List.append_toArray, List.nil_append, List.cons_append]
  refine wpAnyH_take (i := 0) (oi := { dst := some 18, op := Op.fieldAddr 75 (Operand.tmp 2) 4, type := 0, pos := "row.go:145", after := #[], guard := none }) (v := .pointer (some ⟨O, 4, none⟩)) rfl (by kernel_rfl) (by kernel_rfl) (by kernel_rfl) (fun _ _ _ h => h) (Or.inl ⟨by kernel_rfl, by (intro w hSw; (try dsimp only at hSw); go_simp; try omega)⟩) hHeld ?_
  simp only [Act.put, List.setIfInBounds_toArray, List.set_cons_zero, List.set_cons_succ]
  refine wpAnyH_take (i := 1) (oi := { dst := some 19, op := Op.load 22 (Operand.tmp 18), type := 22, pos := "row.go:145", after := #[{ on := 0, ground := Ground.data }], guard := none }) (v := .slice (some ⟨g, 0, none⟩) N N) rfl (by kernel_rfl) (by kernel_rfl) (by kernel_rfl) (fun _ _ _ h => h) (Or.inl ⟨by kernel_rfl, by (intro w hSw; (try dsimp only at hSw); go_simp; try omega)⟩) hHeld ?_
  simp only [Act.put, List.setIfInBounds_toArray, List.set_cons_zero, List.set_cons_succ]
  refine wpAnyH_take (i := 2) (oi := { dst := some 20, op := Op.load 75 (Operand.tmp 2), type := 75, pos := "row.go:145", after := #[], guard := none }) (v := .agg #[.int .i64 p, .int .i64 h, .int .i64 n, .int .i64 d, .slice (some ⟨g, 0, none⟩) N N]) rfl (by kernel_rfl) (by kernel_rfl) (by kernel_rfl) (fun _ _ _ h => h) (Or.inl ⟨by kernel_rfl, by (intro w hSw; (try dsimp only at hSw); go_simp; try omega)⟩) hHeld ?_
  simp only [Act.put, List.setIfInBounds_toArray, List.set_cons_zero, List.set_cons_succ]
  refine wpAnyH_ready (rs := [3]) (by kernel_rfl) (by simp) ?_
  refine AllReadyH.cons (o := { dst := some 21, op := Op.call { callee := Callee.value (Operand.func 62), args := #[Operand.tmp 20], argTypes := #[75] }, type := 3, pos := "row.go:145", after := #[{ on := 2, ground := Ground.data }], guard := none }) rfl (fun Kq hK => ?_) AllReadyH.nil
  go_simp
  refine (HCA.out _ (Keeps.refl _ W4).drew).mono ?_
  rintro e w5 ⟨rfl, hk5⟩
  refine hK.out _ _ (HS5.out w5 hk5).1 (fun hHeld => ?_)
  have c5 := (HS5.out w5 hk5).2.1
  have z5 := (HS5.out w5 hk5).2.2.1
  simp only [Act.put, List.setIfInBounds_toArray, List.set_cons_zero, List.set_cons_succ]
  refine wpAnyH_take (i := 4) (oi := { dst := some 22, op := Op.indexAddr 22 (Operand.tmp 19) (Operand.tmp 21), type := 0, pos := "row.go:145", after := #[{ on := 1, ground := Ground.data }, { on := 3, ground := Ground.data }], guard := none }) (v := .pointer (some ⟨g, i, none⟩)) rfl (by kernel_rfl) (by kernel_rfl) (by kernel_rfl) (fun _ _ _ h => h) (Or.inl ⟨by kernel_rfl, by (intro w hSw; (try dsimp only at hSw); go_simp; try omega)⟩) hHeld ?_
  simp only [Act.put, List.setIfInBounds_toArray, List.set_cons_zero, List.set_cons_succ]
  refine wpAnyH_ready (rs := [5]) (by kernel_rfl) (by simp) ?_
  refine AllReadyH.cons (o := { dst := some 23, op := Op.load 52 (Operand.tmp 22), type := 52, pos := "row.go:145", after := #[{ on := 4, ground := Ground.data }], guard := none }) rfl (fun Kq hK => ?_) AllReadyH.nil
  go_simp
  refine hK.out _ _ (HS5.out w5 hk5).1 (fun hHeld => ?_)
  simp only [Act.put, List.setIfInBounds_toArray, List.set_cons_zero, List.set_cons_succ]
  refine wpAnyH_take (i := 6) (oi := { dst := some 24, op := Op.binOp BinOp.add 52 (Operand.tmp 23) (Operand.const (Value.int IntKind.u32 1)) 52, type := 52, pos := "row.go:145", after := #[{ on := 5, ground := Ground.data }], guard := none }) (v := .int .u32 (C + 1)) rfl (by kernel_rfl) (by kernel_rfl) (by kernel_rfl) (fun _ _ _ h => h) (Or.inl ⟨by kernel_rfl, by (intro w hSw; (try dsimp only at hSw); go_simp; try omega)⟩) hHeld ?_
  simp only [Act.put, List.setIfInBounds_toArray, List.set_cons_zero, List.set_cons_succ]
  refine wpAnyH_take (i := 7) (oi := { dst := some 25, op := Op.indexAddr 22 (Operand.tmp 19) (Operand.tmp 21), type := 0, pos := "row.go:145", after := #[{ on := 1, ground := Ground.data }, { on := 3, ground := Ground.data }, { on := 0, ground := Ground.phase }, { on := 1, ground := Ground.phase }, { on := 2, ground := Ground.phase }, { on := 3, ground := Ground.phase }, { on := 4, ground := Ground.phase }, { on := 5, ground := Ground.phase }, { on := 6, ground := Ground.phase }], guard := none }) (v := .pointer (some ⟨g, i, none⟩)) rfl (by kernel_rfl) (by kernel_rfl) (by kernel_rfl) (fun _ _ _ h => h) (Or.inl ⟨by kernel_rfl, by (intro w hSw; (try dsimp only at hSw); go_simp; try omega)⟩) hHeld ?_
  simp only [Act.put, List.setIfInBounds_toArray, List.set_cons_zero, List.set_cons_succ]
  refine wpAnyH_ready (rs := [8]) (by kernel_rfl) (by simp) ?_
  refine AllReadyH.cons (o := { dst := none, op := Op.store 52 (Operand.tmp 25) (Operand.tmp 24), type := 0, pos := "row.go:145", after := #[{ on := 7, ground := Ground.data }, { on := 6, ground := Ground.data }, { on := 3, ground := Ground.chain }, { on := 0, ground := Ground.phase }, { on := 1, ground := Ground.phase }, { on := 2, ground := Ground.phase }, { on := 3, ground := Ground.phase }, { on := 4, ground := Ground.phase }, { on := 5, ground := Ground.phase }, { on := 6, ground := Ground.phase }], guard := none }) rfl (fun Kq hK => ?_) AllReadyH.nil
  go_simp
  refine hK.out _ _ (HS5.out w5 hk5).2.2.2 (fun hHeld => ?_)
  simp only [Act.put, List.setIfInBounds_toArray, List.set_cons_zero, List.set_cons_succ]
  refine wpAnyH_done (by kernel_rfl) ?_ _
  clear hHeld
  go_wp2
  go_end0
  exact ⟨rfl, HFin.out w5 hk5⟩
end

end Go.Proofs.Ytekijhhpldnmnaa
