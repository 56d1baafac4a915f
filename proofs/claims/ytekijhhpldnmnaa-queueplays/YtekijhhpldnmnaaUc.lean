import Derived.Test.YtekijhhpldnmnaaUb
import Derived.Test.YtekijhhpldnmnaaYb
import Derived.Test.YtekijhhpldnmnaaTw
import Derived.Deep.RegionHeld3
import Derived.Deep.RegionHeld2
namespace Go.Proofs.Ytekijhhpldnmnaa
open Go.RowKit
set_option linter.unusedVariables false
set_option linter.unusedSimpArgs false

theorem Blk.inj {w : World} {b : Nat} {l k : List Value} {s t : TypeId} (h : Blk w b l s) (h2 : Blk w b k t) : l = k := by
  unfold Blk at h h2
  rw [h] at h2
  simp at h2
  exact h2.1
theorem Mm.len {w w' : World} {b g : Nat} {xs ys : List UInt32} (h : Mm w b g xs) (h2 : Mm w' b g ys) (k : Keeps (· = g) w w') : ys.length = xs.length := by
  have h3 := h.blk.kept k h.ne
  have := Blk.inj h3 h2.blk
  simp at this
  omega
theorem seg_fW {w : World} {L : Nat} {ms : List UInt32} (h : Blk w L (fW (ms.length + 70) (spareW ms)) 52) : SegW w (some ⟨L, 0, none⟩) ms := by
  refine .inr ⟨L, 0, rfl, fun j hj => ?_⟩
  have := h.cell (fW_get (spareW ms) (show j < ms.length + 70 by omega))
  rw [Nat.zero_add, this]
  simp [spareW, hj]
theorem seg_fI {w : World} {L : Nat} {ks : List Int} (h : Blk w L (fI (ks.length + 70) (spareI ks)) 3) : SegI w (some ⟨L, 0, none⟩) ks := by
  refine .inr ⟨L, 0, rfl, fun j hj => ?_⟩
  have := h.cell (fI_get (spareI ks) (show j < ks.length + 70 by omega))
  rw [Nat.zero_add, this]
  simp [spareI, hj]

/-- Behind a step. -/
def StP (w : World) (b g D M : Nat) (e : Ending) (w' : World) : Prop :=
  ∃ D' c' xs', e = .returned (.tuple #[.slice (some ⟨D', 0, none⟩) M c', .bool true]) ∧ (D' = D ∨ w.heap.size ≤ D') ∧ List.length (α := UInt32) xs' = M ∧ Mm w' b g xs' ∧ Blk w' D' (wvs xs') 52 ∧ Keeps (· = g) w w'

set_option maxRecDepth 20000 in
set_option maxHeartbeats 4000000 in
theorem step_0 (b g D M c : Nat) (xs : List UInt32) (p n d : Int) (pa : Option Addr) (pc : Nat) (ps : List Int) (ma : Option Addr) (mc : Nat) (ms : List UInt32) (w : World) (hm : Mm w b g xs) (hM : M = xs.length) (hm2 : M ≤ 256) (hB : Blk w D (wvs xs) 52) (hDg : D ≠ g) (hsi : ∀ wr, Keeps (· = g) w wr → SegI wr pa ps) (hsw : ∀ wr, Keeps (· = g) w wr → SegW wr ma ms) (hp : p ≤ 9223372036854775807) (hpp : ∀ q ∈ ps, q ≤ 9223372036854775807) (hz1 : ps.length ≤ 35184372087808) (hz2 : ms.length ≤ 35184372087808) :
    Calls Try.prog 12 #[.pointer (some ⟨b, 0, none⟩), .slice (some ⟨D, 0, none⟩) M c, .agg #[.int .i64 0, .int .i64 p, .int .i64 n, .int .i64 d, .slice pa ps.length pc, .slice ma ms.length mc]] w fun e w' => StP w b g D M e w' := by
  obtain ⟨ML, hML⟩ : ∃ L, L = ms.length := ⟨_, rfl⟩
  obtain ⟨PL, hPL⟩ : ∃ L, L = ps.length := ⟨_, rfl⟩
  rw [← hML, ← hPL]
  have hgl : g < w.heap.size := hm.row.lt
  obtain ⟨W, hW⟩ : ∃ W, W = w.alloc (.cells #[.int .i64 0, .int .i64 p, .int .i64 n, .int .i64 d, .slice pa PL pc, .slice ma ML mc] 35) := ⟨_, rfl⟩
  obtain ⟨O, hO⟩ : ∃ O, O = w.heap.size := ⟨_, rfl⟩
  have hKW : Keeps (fun _ => False) w W := by rw [hW]; exact (Keeps.refl _ w).alloc _
  have hBW : Blk W O [.int .i64 0, .int .i64 p, .int .i64 n, .int .i64 d, .slice pa PL pc, .slice ma ML mc] 35 := by rw [hW, hO]; exact Blk.new w _ 35
  have HW : Hid (W = w.alloc (.cells #[.int .i64 0, .int .i64 p, .int .i64 n, .int .i64 d, .slice pa PL pc, .slice ma ML mc] 35) ∧ O = w.heap.size ∧ Keeps (fun _ => False) w W ∧ Mm W b g xs ∧ ML = ms.length ∧ PL = ps.length ∧ M = xs.length ∧ M ≤ 256 ∧ D ≠ g ∧ W.heap.size = O + 1 ∧ g < O) := ⟨hW, hO, hKW, hm.kept hKW (fun e => e) (fun e => e), hML, hPL, hM, hm2, hDg, by rw [hW, hO]; simp, by omega⟩
  have HC : Hid (∀ wr, Keeps (· = g) W wr → wr.cell? ⟨O, 0, none⟩ = some (.int .i64 0) ∧ wr.cell? ⟨O, 1, none⟩ = some (.int .i64 p) ∧ wr.cell? ⟨O, 2, none⟩ = some (.int .i64 n) ∧ wr.cell? ⟨O, 3, none⟩ = some (.int .i64 d) ∧ wr.cell? ⟨O, 4, none⟩ = some (.slice pa PL pc) ∧ wr.cell? ⟨O, 5, none⟩ = some (.slice ma ML mc) ∧ SegW wr ma ms ∧ SegI wr pa ps ∧ Blk wr D (wvs xs) 52) := fun wr k => by
    have hb := hBW.kept k (show O ≠ g by omega)
    exact ⟨hb.cell rfl, hb.cell rfl, hb.cell rfl, hb.cell rfl, hb.cell rfl, hb.cell rfl, hsw wr (hKW.none.trans k fun _ _ e => e), hsi wr (hKW.none.trans k fun _ _ e => e), (hB.kept hKW fun e => e).kept k hDg⟩
  have H1 : Hid (Calls _ _ _ _ _) := handWBig ma ML mc ms W (HC.out W (Keeps.refl _ _)).2.2.2.2.2.2.1 hML (by omega)
  obtain ⟨PB, hPB⟩ : ∃ PB, PB = ptB false xs p n d ms.length := ⟨_, rfl⟩
  obtain ⟨PE, hPE⟩ : ∃ PE, PE = ptE false xs p n d ms.length := ⟨_, rfl⟩
  obtain ⟨PX, hPX⟩ : ∃ PX, PX = ptX false xs p n d ms := ⟨_, rfl⟩
  have H2 : Hid (∀ wr, Keeps (fun _ => False) W wr → Blk wr W.heap.size (fW (ML + 70) (spareW ms)) 52 → Calls Try.prog 16 #[mpv false b, .int .i64 p, .int .i64 n, .int .i64 d, .slice (some ⟨W.heap.size, 0, none⟩) ML (ML + 70)] wr fun e w' => e = .returned (.tuple #[.bool PB, .int .i64 PE]) ∧ Mm w' b g PX ∧ Keeps (· = g) wr w') := fun wr k hb => by
    rw [hPB, hPE, hPX]
    rw [hML] at hb ⊢
    exact put_any false b g xs p n d wr (HW.out.2.2.2.1.kept k (fun e => e) (fun e => e)) hp (some ⟨W.heap.size, 0, none⟩) _ ms (seg_fW hb)
  have H3 : Hid (∀ wr, Keeps (· = g) W wr → Calls Try.prog 10 #[.slice ma ML mc] wr fun e w' => e = .returned (.slice (some ⟨wr.heap.size, 0, none⟩) ML ML) ∧ Blk w' wr.heap.size (wvs ms) 52 ∧ Keeps (fun _ => False) wr w') := fun wr k => by
    rw [hML]
    exact copyLong_any ma mc ms wr (HC.out wr k).2.2.2.2.2.2.1 (by omega)
  have H4 : Hid (∀ wr G, Keeps (· = g) W wr → Blk wr G (wvs ms) 52 → Calls Try.prog 27 #[.slice (some ⟨D, 0, none⟩) M c, .int .i64 p, .int .i64 n, .int .i64 d, .slice (some ⟨G, 0, none⟩) ML ML] wr fun e w' => NxP wr D M PX PB PE e w') := fun wr G k hb => by
    rw [hPB, hPE, hPX, hML]
    exact rput_any D M c p n d xs ms (some ⟨G, 0, none⟩) ms.length wr (HC.out wr k).2.2.2.2.2.2.2.2 hM hm2 (segW_of_blk hb)
  have H5 : Hid (∀ wr, Keeps (· = g) W wr → Blk wr W.heap.size (fW (ML + 70) (spareW ms)) 52 → Calls Try.prog 28 _ wr _) := fun wr k hb => keptWBig W.heap.size ma ML mc ms wr hb (HC.out wr k).2.2.2.2.2.2.1 hML (by omega)
  have H6 : Hid (∀ wr, Blk wr W.heap.size (fW (ML + 70) (spareW ms)) 52 → Calls Try.prog 29 _ wr _) := fun wr hb => spoilWordsBig W.heap.size ML (ML + 70) _ 28672 wr hb (by omega) (by omega) (by omega)
  obtain ⟨L, hL⟩ : ∃ L, L = W.heap.size := ⟨_, rfl⟩
  rw [← hL] at H1 H2 H5 H6
  have HL : Hid (L = W.heap.size ∧ g < L ∧ w.heap.size ≤ L) := ⟨hL, by have := HW.out.2.2.2.2.2.2.2.2.2; omega, by have := HW.out.2.2.2.2.2.2.2.2.2; have := HW.out.2.1; omega⟩
  have hPz : (ML : Int) ≤ 35184372087808 := by omega
  clear hL hPB hPE hPX hp hpp hz1 hz2
  clear hm hM hm2 hB hDg hsi hsw hML hPL hgl hW hO hKW hBW
  go_enter Try.func12, Try.ntmps12
  go_wp2_with fail
  rw [← HW.out.1, ← HW.out.2.1]
  refine H1.out.mono ?_
  rintro e w1 ⟨rfl, hb1, hk1⟩
  obtain ⟨q0, q1, q2, q3, q4, q5, sw, si, bD⟩ := HC.out w1 hk1.none
  have HK1 : Hid (Keeps (fun _ => False) W w1 ∧ Blk w1 L (fW (ML + 70) (spareW ms)) 52) := ⟨hk1, hb1⟩
  have H2 : Hid (Calls _ _ _ _ _) := H2.out w1 hk1 hb1
  clear hk1 hb1 sw si bD q0 q4 q5 H1
  go_wp2_with fail
  refine H2.out.mono ?_
  rintro e w2 ⟨rfl, hm2, hk2⟩
  have hkW2 : Keeps (· = g) W w2 := HK1.out.1.none.trans hk2 fun _ _ e => e
  clear q1 q2 q3
  have HK2 : Hid (Keeps (· = g) W w2 ∧ Blk w2 L (fW (ML + 70) (spareW ms)) 52 ∧ Mm w2 b g PX ∧ PX.length = M) := ⟨hkW2, HK1.out.2.kept hk2 (by have := HL.out.2; omega), hm2, by rw [HW.out.2.2.2.1.len hm2 hkW2]; exact HW.out.2.2.2.2.2.2.1.symm⟩
  have HS5 : Hid ((w2.drew.cell? ⟨O, 1, none⟩ = some (.int .i64 p) ∧ w2.drew.cell? ⟨O, 2, none⟩ = some (.int .i64 n) ∧ w2.drew.cell? ⟨O, 3, none⟩ = some (.int .i64 d) ∧ w2.drew.cell? ⟨O, 5, none⟩ = some (.slice ma ML mc)) ∧
      (Calls Try.prog 10 #[.slice ma ML mc] w2.drew fun e w' => e = .returned (.slice (some ⟨w2.drew.heap.size, 0, none⟩) ML ML) ∧ Blk w' w2.drew.heap.size (wvs ms) 52 ∧ Keeps (fun _ => False) w2.drew w') ∧
      ∀ w3, Blk w3 w2.drew.heap.size (wvs ms) 52 → Keeps (fun _ => False) w2.drew w3 → (w3.cell? ⟨O, 1, none⟩ = some (.int .i64 p) ∧ w3.cell? ⟨O, 2, none⟩ = some (.int .i64 n) ∧ w3.cell? ⟨O, 3, none⟩ = some (.int .i64 d) ∧ w3.cell? ⟨O, 5, none⟩ = some (.slice ma ML mc)) ∧
        (Calls Try.prog 27 #[.slice (some ⟨D, 0, none⟩) M c, .int .i64 p, .int .i64 n, .int .i64 d, .slice (some ⟨w2.drew.heap.size, 0, none⟩) ML ML] w3 fun e w' => NxP w3 D M PX PB PE e w') ∧
        ∀ w4 D', (D' = D ∨ w3.heap.size ≤ D') → Blk w4 D' (wvs PX) 52 → Keeps (fun _ => False) w3 w4 → (w4.cell? ⟨O, 1, none⟩ = some (.int .i64 p) ∧ w4.cell? ⟨O, 2, none⟩ = some (.int .i64 n) ∧ w4.cell? ⟨O, 3, none⟩ = some (.int .i64 d) ∧ w4.cell? ⟨O, 5, none⟩ = some (.slice ma ML mc)) ∧
          ((D' = D ∨ w2.heap.size ≤ D') ∧ Mm w4 b g PX ∧ Blk w4 D' (wvs PX) 52 ∧ Keeps (· = g) W w4 ∧ Blk w4 L (fW (ML + 70) (spareW ms)) 52)) := by
    have d2 : Keeps (· = g) W w2.drew := hkW2.drew
    have kd : Keeps (fun _ => False) w2 w2.drew := (Keeps.refl _ w2).drew
    have f : ∀ wr, Keeps (· = g) W wr → (wr.cell? ⟨O, 1, none⟩ = some (.int .i64 p) ∧ wr.cell? ⟨O, 2, none⟩ = some (.int .i64 n) ∧ wr.cell? ⟨O, 3, none⟩ = some (.int .i64 d) ∧ wr.cell? ⟨O, 5, none⟩ = some (.slice ma ML mc)) := fun wr k => by
      obtain ⟨q0, q1, q2, q3, q4, q5, _⟩ := HC.out wr k
      exact ⟨q1, q2, q3, q5⟩
    refine ⟨f _ d2, H3.out _ d2, fun w3 hb3 hk3 => ?_⟩
    have d3 : Keeps (· = g) W w3 := d2.trans hk3.none fun _ _ e => e
    refine ⟨f _ d3, H4.out w3 _ d3 hb3, fun w4 D' hD' hb4 hk4 => ?_⟩
    have d4 : Keeps (· = g) W w4 := d3.trans hk4.none fun _ _ e => e
    have k24 : Keeps (fun _ => False) w2 w4 := (kd.trans hk3 fun _ _ e => e).trans hk4 fun _ _ e => e
    refine ⟨f _ d4, ?_, HK2.out.2.2.1.kept k24 (fun e => e) (fun e => e), hb4, d4, HK2.out.2.1.kept k24 fun e => e⟩
    rcases hD' with h | h
    · exact .inl h
    · have h1 := kd.size
      have h2 := hk3.size
      exact .inr (by omega)
  obtain ⟨q0, q1, q2, q3, q4, q5, sw, si, bD⟩ := HC.out w2 hkW2
  clear hk2 hm2 sw si bD hkW2 q0 q4 H2
  go_wp2
  refine wp_region_held_drew (S := (fun w' => w'.cell? ⟨O, 1, none⟩ = some (.int .i64 p) ∧ w'.cell? ⟨O, 2, none⟩ = some (.int .i64 n) ∧ w'.cell? ⟨O, 3, none⟩ = some (.int .i64 d) ∧ w'.cell? ⟨O, 5, none⟩ = some (.slice ma ML mc))) Try.mixd HS5.out.1 (fun hHeld => ?_)
  simp only [List.size_toArray, List.length_cons, List.length_nil, Nat.reduceAdd, Array.replicate_succ, Array.replicate_zero, List.push_toArray, List.append_toArray, List.nil_append, List.cons_append]
  refine wpAnyH_take (i := 0) (oi := { dst := some 57, op := Op.move (Operand.tmp 1), type := 22, pos := "law.go:60", after := #[], guard := none }) (v := .slice (some ⟨D, 0, none⟩) M c) rfl (by kernel_rfl) (by kernel_rfl) (by kernel_rfl) (fun _ _ _ h => h) (Or.inl ⟨by kernel_rfl, by (intro w hSw; (try dsimp only at hSw); go_simp; try omega)⟩) hHeld ?_
  simp only [Act.put, List.setIfInBounds_toArray, List.set_cons_zero, List.set_cons_succ]
  refine wpAnyH_take (i := 1) (oi := { dst := some 58, op := Op.fieldAddr 35 (Operand.tmp 5) 1, type := 0, pos := "law.go:60", after := #[], guard := none }) (v := .pointer (some ⟨O, 1, none⟩)) rfl (by kernel_rfl) (by kernel_rfl) (by kernel_rfl) (fun _ _ _ h => h) (Or.inl ⟨by kernel_rfl, by (intro w hSw; (try dsimp only at hSw); go_simp; try omega)⟩) hHeld ?_
  simp only [Act.put, List.setIfInBounds_toArray, List.set_cons_zero, List.set_cons_succ]
  refine wpAnyH_take (i := 2) (oi := { dst := some 59, op := Op.load 3 (Operand.tmp 58), type := 3, pos := "law.go:60", after := #[{ on := 1, ground := Ground.data }], guard := none }) (v := .int .i64 p) rfl (by kernel_rfl) (by kernel_rfl) (by kernel_rfl) (fun _ _ _ h => h) (Or.inl ⟨by kernel_rfl, by (intro w hSw; (try dsimp only at hSw); obtain ⟨hSw1, hSw2, hSw3, hSw4⟩ := hSw; go_simp)⟩) hHeld ?_
  simp only [Act.put, List.setIfInBounds_toArray, List.set_cons_zero, List.set_cons_succ]
  refine wpAnyH_take (i := 3) (oi := { dst := some 60, op := Op.fieldAddr 35 (Operand.tmp 5) 2, type := 0, pos := "law.go:60", after := #[], guard := none }) (v := .pointer (some ⟨O, 2, none⟩)) rfl (by kernel_rfl) (by kernel_rfl) (by kernel_rfl) (fun _ _ _ h => h) (Or.inl ⟨by kernel_rfl, by (intro w hSw; (try dsimp only at hSw); go_simp; try omega)⟩) hHeld ?_
  simp only [Act.put, List.setIfInBounds_toArray, List.set_cons_zero, List.set_cons_succ]
  refine wpAnyH_take (i := 4) (oi := { dst := some 61, op := Op.load 3 (Operand.tmp 60), type := 3, pos := "law.go:60", after := #[{ on := 3, ground := Ground.data }], guard := none }) (v := .int .i64 n) rfl (by kernel_rfl) (by kernel_rfl) (by kernel_rfl) (fun _ _ _ h => h) (Or.inl ⟨by kernel_rfl, by (intro w hSw; (try dsimp only at hSw); obtain ⟨hSw1, hSw2, hSw3, hSw4⟩ := hSw; go_simp)⟩) hHeld ?_
  simp only [Act.put, List.setIfInBounds_toArray, List.set_cons_zero, List.set_cons_succ]
  refine wpAnyH_take (i := 5) (oi := { dst := some 62, op := Op.fieldAddr 35 (Operand.tmp 5) 3, type := 0, pos := "law.go:60", after := #[], guard := none }) (v := .pointer (some ⟨O, 3, none⟩)) rfl (by kernel_rfl) (by kernel_rfl) (by kernel_rfl) (fun _ _ _ h => h) (Or.inl ⟨by kernel_rfl, by (intro w hSw; (try dsimp only at hSw); go_simp; try omega)⟩) hHeld ?_
  simp only [Act.put, List.setIfInBounds_toArray, List.set_cons_zero, List.set_cons_succ]
  refine wpAnyH_take (i := 6) (oi := { dst := some 63, op := Op.load 3 (Operand.tmp 62), type := 3, pos := "law.go:60", after := #[{ on := 5, ground := Ground.data }], guard := none }) (v := .int .i64 d) rfl (by kernel_rfl) (by kernel_rfl) (by kernel_rfl) (fun _ _ _ h => h) (Or.inl ⟨by kernel_rfl, by (intro w hSw; (try dsimp only at hSw); obtain ⟨hSw1, hSw2, hSw3, hSw4⟩ := hSw; go_simp)⟩) hHeld ?_
  simp only [Act.put, List.setIfInBounds_toArray, List.set_cons_zero, List.set_cons_succ]
  refine wpAnyH_take (i := 7) (oi := { dst := some 64, op := Op.fieldAddr 35 (Operand.tmp 5) 5, type := 0, pos := "law.go:60", after := #[], guard := none }) (v := .pointer (some ⟨O, 5, none⟩)) rfl (by kernel_rfl) (by kernel_rfl) (by kernel_rfl) (fun _ _ _ h => h) (Or.inl ⟨by kernel_rfl, by (intro w hSw; (try dsimp only at hSw); go_simp; try omega)⟩) hHeld ?_
  simp only [Act.put, List.setIfInBounds_toArray, List.set_cons_zero, List.set_cons_succ]
  refine wpAnyH_take (i := 8) (oi := { dst := some 65, op := Op.load 22 (Operand.tmp 64), type := 22, pos := "law.go:60", after := #[{ on := 7, ground := Ground.data }], guard := none }) (v := .slice ma ML mc) rfl (by kernel_rfl) (by kernel_rfl) (by kernel_rfl) (fun _ _ _ h => h) (Or.inl ⟨by kernel_rfl, by (intro w hSw; (try dsimp only at hSw); obtain ⟨hSw1, hSw2, hSw3, hSw4⟩ := hSw; go_simp)⟩) hHeld ?_
  simp only [Act.put, List.setIfInBounds_toArray, List.set_cons_zero, List.set_cons_succ]
  refine wpAnyH_ready (rs := [9]) (by kernel_rfl) (by simp) ?_
  refine AllReadyH.cons (o := { dst := some 66, op := Op.call { callee := Callee.value (Operand.func 10), args := #[Operand.tmp 65], argTypes := #[22] }, type := 22, pos := "law.go:60", after := #[{ on := 8, ground := Ground.data }], guard := none }) rfl (fun Kq hK => ?_) AllReadyH.nil
  go_simp
  refine HS5.out.2.1.mono ?_
  rintro e w3 ⟨rfl, hb3, hk3⟩
  obtain ⟨hS3, hput, hfin⟩ := HS5.out.2.2 w3 hb3 hk3
  have HPU : Hid (Calls _ _ _ _ _) := hput
  clear hput hb3 hk3
  refine hK.out _ _ hS3 (fun hHeld => ?_)
  simp only [Act.put, List.setIfInBounds_toArray, List.set_cons_zero, List.set_cons_succ]
  refine wpAnyH_ready (rs := [10]) (by kernel_rfl) (by simp) ?_
  refine AllReadyH.cons (o := { dst := some 67, op := Op.call { callee := Callee.value (Operand.func 27), args := #[Operand.tmp 57, Operand.tmp 59, Operand.tmp 61, Operand.tmp 63, Operand.tmp 66], argTypes := #[22, 3, 3, 3, 22] }, type := 49, pos := "law.go:60", after := #[{ on := 0, ground := Ground.data }, { on := 2, ground := Ground.data }, { on := 4, ground := Ground.data }, { on := 6, ground := Ground.data }, { on := 9, ground := Ground.data }, { on := 9, ground := Ground.chain }], guard := none }) rfl (fun Kq hK => ?_) AllReadyH.nil
  go_simp
  refine HPU.out.mono ?_
  rintro e w4 ⟨D', c', rfl, hD', hb4, hk4⟩
  obtain ⟨hS4, hF4⟩ := hfin w4 D' hD' hb4 hk4
  have HF4 : Hid _ := hF4
  clear hF4 hD' hb4 hk4 hfin hS3
  refine hK.out _ _ hS4 (fun hHeld => ?_)
  clear hS4
  simp only [Act.put, List.setIfInBounds_toArray, List.set_cons_zero, List.set_cons_succ]
  refine wpAnyH_take (i := 11) (oi := { dst := some 56, op := Op.move (Operand.tmp 67), type := 49, pos := "law.go:60", after := #[{ on := 10, ground := Ground.data }], guard := none }) (v := .tuple #[.slice (some ⟨D', 0, none⟩) M c', .bool PB, .int .i64 PE]) rfl (by kernel_rfl) (by kernel_rfl) (by kernel_rfl) (fun _ _ _ h => h) (Or.inl ⟨by kernel_rfl, by (intro w hSw; (try dsimp only at hSw); go_simp; try omega)⟩) hHeld ?_
  simp only [Act.put, List.setIfInBounds_toArray, List.set_cons_zero, List.set_cons_succ]
  refine wpAnyH_take (i := 12) (oi := { dst := some 68, op := Op.extract (Operand.tmp 56) 0, type := 22, pos := "law.go:60", after := #[{ on := 11, ground := Ground.data }], guard := none }) (v := .slice (some ⟨D', 0, none⟩) M c') rfl (by kernel_rfl) (by kernel_rfl) (by kernel_rfl) (fun _ _ _ h => h) (Or.inl ⟨by kernel_rfl, by (intro w hSw; (try dsimp only at hSw); go_simp; try omega)⟩) hHeld ?_
  simp only [Act.put, List.setIfInBounds_toArray, List.set_cons_zero, List.set_cons_succ]
  refine wpAnyH_take (i := 13) (oi := { dst := some 69, op := Op.extract (Operand.tmp 56) 1, type := 4, pos := "law.go:60", after := #[{ on := 11, ground := Ground.data }, { on := 15, ground := Ground.gcOnly Departure.lateStores }], guard := none }) (v := .bool PB) rfl (by kernel_rfl) (by kernel_rfl) (by kernel_rfl) (fun _ _ _ h => h) (Or.inl ⟨by kernel_rfl, by (intro w hSw; (try dsimp only at hSw); go_simp; try omega)⟩) hHeld ?_
  simp only [Act.put, List.setIfInBounds_toArray, List.set_cons_zero, List.set_cons_succ]
  refine wpAnyH_take (i := 14) (oi := { dst := some 70, op := Op.extract (Operand.tmp 56) 2, type := 29, pos := "law.go:60", after := #[{ on := 11, ground := Ground.data }, { on := 16, ground := Ground.gcOnly Departure.lateStores }], guard := none }) (v := .int .i64 PE) rfl (by kernel_rfl) (by kernel_rfl) (by kernel_rfl) (fun _ _ _ h => h) (Or.inl ⟨by kernel_rfl, by (intro w hSw; (try dsimp only at hSw); go_simp; try omega)⟩) hHeld ?_
  simp only [Act.put, List.setIfInBounds_toArray, List.set_cons_zero, List.set_cons_succ]
  refine wpAnyH_take (i := 15) (oi := { dst := some 11, op := Op.assign (Operand.tmp 68), type := 22, pos := "law.go:60", after := #[{ on := 12, ground := Ground.data }, { on := 10, ground := Ground.chain }, { on := 0, ground := Ground.phase }, { on := 1, ground := Ground.phase }, { on := 2, ground := Ground.phase }, { on := 3, ground := Ground.phase }, { on := 4, ground := Ground.phase }, { on := 5, ground := Ground.phase }, { on := 6, ground := Ground.phase }, { on := 7, ground := Ground.phase }, { on := 8, ground := Ground.phase }, { on := 9, ground := Ground.phase }, { on := 10, ground := Ground.phase }, { on := 11, ground := Ground.phase }, { on := 12, ground := Ground.phase }, { on := 13, ground := Ground.textOnly Departure.lateStores }, { on := 14, ground := Ground.textOnly Departure.lateStores }], guard := none }) (v := .slice (some ⟨D', 0, none⟩) M c') rfl (by kernel_rfl) (by kernel_rfl) (by kernel_rfl) (fun _ _ _ h => h) (Or.inl ⟨by kernel_rfl, by (intro w hSw; (try dsimp only at hSw); go_simp; try omega)⟩) hHeld ?_
  simp only [Act.put, List.setIfInBounds_toArray, List.set_cons_zero, List.set_cons_succ]
  refine wpAnyH_take (i := 16) (oi := { dst := some 12, op := Op.assign (Operand.tmp 69), type := 4, pos := "law.go:60", after := #[{ on := 13, ground := Ground.data }, { on := 15, ground := Ground.chain }, { on := 0, ground := Ground.phase }, { on := 1, ground := Ground.phase }, { on := 2, ground := Ground.phase }, { on := 3, ground := Ground.phase }, { on := 4, ground := Ground.phase }, { on := 5, ground := Ground.phase }, { on := 6, ground := Ground.phase }, { on := 7, ground := Ground.phase }, { on := 8, ground := Ground.phase }, { on := 9, ground := Ground.phase }, { on := 10, ground := Ground.phase }, { on := 11, ground := Ground.phase }, { on := 12, ground := Ground.phase }, { on := 13, ground := Ground.phase }, { on := 14, ground := Ground.textOnly Departure.lateStores }, { on := 15, ground := Ground.phase }], guard := none }) (v := .bool PB) rfl (by kernel_rfl) (by kernel_rfl) (by kernel_rfl) (fun _ _ _ h => h) (Or.inl ⟨by kernel_rfl, by (intro w hSw; (try dsimp only at hSw); go_simp; try omega)⟩) hHeld ?_
  simp only [Act.put, List.setIfInBounds_toArray, List.set_cons_zero, List.set_cons_succ]
  refine wpAnyH_take (i := 17) (oi := { dst := some 13, op := Op.assign (Operand.tmp 70), type := 29, pos := "law.go:60", after := #[{ on := 14, ground := Ground.data }, { on := 16, ground := Ground.chain }, { on := 0, ground := Ground.phase }, { on := 1, ground := Ground.phase }, { on := 2, ground := Ground.phase }, { on := 3, ground := Ground.phase }, { on := 4, ground := Ground.phase }, { on := 5, ground := Ground.phase }, { on := 6, ground := Ground.phase }, { on := 7, ground := Ground.phase }, { on := 8, ground := Ground.phase }, { on := 9, ground := Ground.phase }, { on := 10, ground := Ground.phase }, { on := 11, ground := Ground.phase }, { on := 12, ground := Ground.phase }, { on := 13, ground := Ground.phase }, { on := 14, ground := Ground.phase }, { on := 15, ground := Ground.phase }, { on := 16, ground := Ground.phase }], guard := none }) (v := .int .i64 PE) rfl (by kernel_rfl) (by kernel_rfl) (by kernel_rfl) (fun _ _ _ h => h) (Or.inl ⟨by kernel_rfl, by (intro w hSw; (try dsimp only at hSw); go_simp; try omega)⟩) hHeld ?_
  simp only [Act.put, List.setIfInBounds_toArray, List.set_cons_zero, List.set_cons_succ]
  refine wpAnyH_done (by kernel_rfl) ?_ _
  clear hHeld
  have hkW4 : Keeps (· = g) W w4 := HF4.out.2.2.2.1
  clear q1 q2 q3 q5
  obtain ⟨q0, q1, q2, q3, q4, q5, sw, si, bD⟩ := HC.out w4 hkW4
  have H5 : Hid (Calls _ _ _ _ _) := H5.out w4 hkW4 HF4.out.2.2.2.2
  clear sw si bD hkW4 q0 q1 q2 q3 q4
  go_wp2_with fail
  refine H5.out.mono ?_
  rintro e w5 ⟨rfl, hw5⟩
  obtain rfl := hw5.symm
  have H6 : Hid (Calls _ _ _ _ _) := H6.out w4 HF4.out.2.2.2.2
  clear q5 H5
  go_wp2_with fail
  refine H6.out.mono ?_
  rintro e w6 ⟨rfl, hk6⟩
  have HF : Hid ((D' = D ∨ w.heap.size ≤ D') ∧ PX.length = M ∧ Mm w6 b g PX ∧ Blk w6 D' (wvs PX) 52 ∧ Keeps (· = g) w w6) := by
    obtain ⟨e1, e2, e3, e4, e5⟩ := HF4.out
    have z1 := HW.out.2.2.1.size
    have z2 := HK1.out.1.size
    have z3 := HK2.out.1.size
    have z4 := HL.out
    have z5 := HW.out.2.2.2.2.2.2.2.2.2
    have z6 := HW.out.2.2.2.1.blk.lt
    have z7 := HK1.out.2.lt
    have z8 := HW.out.2.2.2.2.2.2.2.2.1
    have z9 := (HC.out W (Keeps.refl _ _)).2.2.2.2.2.2.2.2.lt
    have hDL : D' ≠ L := by
      rcases e1 with h | h
      · omega
      · have := HK2.out.2.1.lt; omega
    refine ⟨?_, HK2.out.2.2.2, e2.kept hk6 (by omega) (by omega), e3.kept hk6 hDL, (HW.out.2.2.1.none.trans e4 fun _ _ e => e).trans hk6 fun b hb e => (by omega)⟩
    rcases e1 with h | h
    · exact .inl h
    · exact .inr (by omega)
  clear hk6 H6
  go_wp2
  go_returns
  refine ⟨D', c', PX, ?_, HF.out⟩
  simp

set_option maxRecDepth 20000 in
set_option maxHeartbeats 4000000 in
theorem step_1 (b g D M c : Nat) (xs : List UInt32) (p n d : Int) (pa : Option Addr) (pc : Nat) (ps : List Int) (ma : Option Addr) (mc : Nat) (ms : List UInt32) (w : World) (hm : Mm w b g xs) (hM : M = xs.length) (hm2 : M ≤ 256) (hB : Blk w D (wvs xs) 52) (hDg : D ≠ g) (hsi : ∀ wr, Keeps (· = g) w wr → SegI wr pa ps) (hsw : ∀ wr, Keeps (· = g) w wr → SegW wr ma ms) (hp : p ≤ 9223372036854775807) (hpp : ∀ q ∈ ps, q ≤ 9223372036854775807) (hz1 : ps.length ≤ 35184372087808) (hz2 : ms.length ≤ 35184372087808) :
    Calls Try.prog 12 #[.pointer (some ⟨b, 0, none⟩), .slice (some ⟨D, 0, none⟩) M c, .agg #[.int .i64 1, .int .i64 p, .int .i64 n, .int .i64 d, .slice pa ps.length pc, .slice ma ms.length mc]] w fun e w' => StP w b g D M e w' := by
  obtain ⟨ML, hML⟩ : ∃ L, L = ms.length := ⟨_, rfl⟩
  obtain ⟨PL, hPL⟩ : ∃ L, L = ps.length := ⟨_, rfl⟩
  rw [← hML, ← hPL]
  have hgl : g < w.heap.size := hm.row.lt
  obtain ⟨W, hW⟩ : ∃ W, W = w.alloc (.cells #[.int .i64 1, .int .i64 p, .int .i64 n, .int .i64 d, .slice pa PL pc, .slice ma ML mc] 35) := ⟨_, rfl⟩
  obtain ⟨O, hO⟩ : ∃ O, O = w.heap.size := ⟨_, rfl⟩
  have hKW : Keeps (fun _ => False) w W := by rw [hW]; exact (Keeps.refl _ w).alloc _
  have hBW : Blk W O [.int .i64 1, .int .i64 p, .int .i64 n, .int .i64 d, .slice pa PL pc, .slice ma ML mc] 35 := by rw [hW, hO]; exact Blk.new w _ 35
  have HW : Hid (W = w.alloc (.cells #[.int .i64 1, .int .i64 p, .int .i64 n, .int .i64 d, .slice pa PL pc, .slice ma ML mc] 35) ∧ O = w.heap.size ∧ Keeps (fun _ => False) w W ∧ Mm W b g xs ∧ ML = ms.length ∧ PL = ps.length ∧ M = xs.length ∧ M ≤ 256 ∧ D ≠ g ∧ W.heap.size = O + 1 ∧ g < O) := ⟨hW, hO, hKW, hm.kept hKW (fun e => e) (fun e => e), hML, hPL, hM, hm2, hDg, by rw [hW, hO]; simp, by omega⟩
  have HC : Hid (∀ wr, Keeps (· = g) W wr → wr.cell? ⟨O, 0, none⟩ = some (.int .i64 1) ∧ wr.cell? ⟨O, 1, none⟩ = some (.int .i64 p) ∧ wr.cell? ⟨O, 2, none⟩ = some (.int .i64 n) ∧ wr.cell? ⟨O, 3, none⟩ = some (.int .i64 d) ∧ wr.cell? ⟨O, 4, none⟩ = some (.slice pa PL pc) ∧ wr.cell? ⟨O, 5, none⟩ = some (.slice ma ML mc) ∧ SegW wr ma ms ∧ SegI wr pa ps ∧ Blk wr D (wvs xs) 52) := fun wr k => by
    have hb := hBW.kept k (show O ≠ g by omega)
    exact ⟨hb.cell rfl, hb.cell rfl, hb.cell rfl, hb.cell rfl, hb.cell rfl, hb.cell rfl, hsw wr (hKW.none.trans k fun _ _ e => e), hsi wr (hKW.none.trans k fun _ _ e => e), (hB.kept hKW fun e => e).kept k hDg⟩
  have H1 : Hid (Calls _ _ _ _ _) := staged_any false b g xs p n d W HW.out.2.2.2.1 hp
  have H2 : Hid (∀ wr, Keeps (· = g) W wr → Calls Try.prog 30 _ wr _) := fun wr k => rstaged_any D M c p n d xs wr (HC.out wr k).2.2.2.2.2.2.2.2 hM hm2
  obtain ⟨SN, hSN⟩ : ∃ SN, SN = stN false xs p 1 n d := ⟨_, rfl⟩
  obtain ⟨E, hE⟩ : ∃ E, E = lkE false xs p 1 n d := ⟨_, rfl⟩
  rw [← hSN, ← hE] at H1 H2
  clear hSN hE hp hpp hz1 hz2
  clear hm hM hm2 hB hDg hsi hsw hML hPL hgl hW hO hKW hBW
  go_enter Try.func12, Try.ntmps12
  go_wp2_with fail
  rw [← HW.out.1, ← HW.out.2.1]
  refine H1.out.mono ?_
  rintro e w1 ⟨rfl, hk1⟩
  obtain ⟨q0, q1, q2, q3, q4, q5, sw, si, bD⟩ := HC.out w1 hk1.none
  have HK1 : Hid (Keeps (fun _ => False) W w1) := hk1
  have H2 : Hid (Calls _ _ _ _ _) := H2.out w1 hk1.none
  clear hk1 sw si bD q0 q4 q5 H1
  go_wp2_with fail
  refine H2.out.mono ?_
  rintro e w2 ⟨rfl, hk2⟩
  have HF : Hid (Mm w2 b g xs ∧ Blk w2 D (wvs xs) 52 ∧ Keeps (· = g) w w2) := by
    have hk := HK1.out.trans hk2 fun _ _ e => e
    exact ⟨HW.out.2.2.2.1.kept hk (fun e => e) (fun e => e), (HC.out w2 hk.none).2.2.2.2.2.2.2.2, (HW.out.2.2.1.trans hk fun _ _ e => e).none⟩
  clear hk2 q1 q2 q3 H2
  go_wp2
  go_returns
  refine ⟨D, c, xs, ?_, .inl rfl, HW.out.2.2.2.2.2.2.1.symm, HF.out⟩
  simp

set_option maxRecDepth 20000 in
set_option maxHeartbeats 4000000 in
theorem step_2 (b g D M c : Nat) (xs : List UInt32) (p n d : Int) (pa : Option Addr) (pc : Nat) (ps : List Int) (ma : Option Addr) (mc : Nat) (ms : List UInt32) (w : World) (hm : Mm w b g xs) (hM : M = xs.length) (hm2 : M ≤ 256) (hB : Blk w D (wvs xs) 52) (hDg : D ≠ g) (hsi : ∀ wr, Keeps (· = g) w wr → SegI wr pa ps) (hsw : ∀ wr, Keeps (· = g) w wr → SegW wr ma ms) (hp : p ≤ 9223372036854775807) (hpp : ∀ q ∈ ps, q ≤ 9223372036854775807) (hz1 : ps.length ≤ 35184372087808) (hz2 : ms.length ≤ 35184372087808) :
    Calls Try.prog 12 #[.pointer (some ⟨b, 0, none⟩), .slice (some ⟨D, 0, none⟩) M c, .agg #[.int .i64 2, .int .i64 p, .int .i64 n, .int .i64 d, .slice pa ps.length pc, .slice ma ms.length mc]] w fun e w' => StP w b g D M e w' := by
  obtain ⟨ML, hML⟩ : ∃ L, L = ms.length := ⟨_, rfl⟩
  obtain ⟨PL, hPL⟩ : ∃ L, L = ps.length := ⟨_, rfl⟩
  rw [← hML, ← hPL]
  have hgl : g < w.heap.size := hm.row.lt
  obtain ⟨W, hW⟩ : ∃ W, W = w.alloc (.cells #[.int .i64 2, .int .i64 p, .int .i64 n, .int .i64 d, .slice pa PL pc, .slice ma ML mc] 35) := ⟨_, rfl⟩
  obtain ⟨O, hO⟩ : ∃ O, O = w.heap.size := ⟨_, rfl⟩
  have hKW : Keeps (fun _ => False) w W := by rw [hW]; exact (Keeps.refl _ w).alloc _
  have hBW : Blk W O [.int .i64 2, .int .i64 p, .int .i64 n, .int .i64 d, .slice pa PL pc, .slice ma ML mc] 35 := by rw [hW, hO]; exact Blk.new w _ 35
  have HW : Hid (W = w.alloc (.cells #[.int .i64 2, .int .i64 p, .int .i64 n, .int .i64 d, .slice pa PL pc, .slice ma ML mc] 35) ∧ O = w.heap.size ∧ Keeps (fun _ => False) w W ∧ Mm W b g xs ∧ ML = ms.length ∧ PL = ps.length ∧ M = xs.length ∧ M ≤ 256 ∧ D ≠ g ∧ W.heap.size = O + 1 ∧ g < O) := ⟨hW, hO, hKW, hm.kept hKW (fun e => e) (fun e => e), hML, hPL, hM, hm2, hDg, by rw [hW, hO]; simp, by omega⟩
  have HC : Hid (∀ wr, Keeps (· = g) W wr → wr.cell? ⟨O, 0, none⟩ = some (.int .i64 2) ∧ wr.cell? ⟨O, 1, none⟩ = some (.int .i64 p) ∧ wr.cell? ⟨O, 2, none⟩ = some (.int .i64 n) ∧ wr.cell? ⟨O, 3, none⟩ = some (.int .i64 d) ∧ wr.cell? ⟨O, 4, none⟩ = some (.slice pa PL pc) ∧ wr.cell? ⟨O, 5, none⟩ = some (.slice ma ML mc) ∧ SegW wr ma ms ∧ SegI wr pa ps ∧ Blk wr D (wvs xs) 52) := fun wr k => by
    have hb := hBW.kept k (show O ≠ g by omega)
    exact ⟨hb.cell rfl, hb.cell rfl, hb.cell rfl, hb.cell rfl, hb.cell rfl, hb.cell rfl, hsw wr (hKW.none.trans k fun _ _ e => e), hsi wr (hKW.none.trans k fun _ _ e => e), (hB.kept hKW fun e => e).kept k hDg⟩
  have H1 : Hid (Calls _ _ _ _ _) := handIBig pa PL pc ps W (HC.out W (Keeps.refl _ _)).2.2.2.2.2.2.2.1 hPL (by omega)
  have H2 : Hid (∀ wr, Keeps (fun _ => False) W wr → Blk wr W.heap.size (fI (PL + 70) (spareI ps)) 3 → Calls Try.prog 17 #[mpv false b, .int .i64 p, .int .i64 n, .int .i64 d, .slice (some ⟨W.heap.size, 0, none⟩) PL (PL + 70)] wr fun e w' => e = .returned (.int .i64 (dlE false xs p n d ps)) ∧ Mm w' b g (dlF false xs p n d ps) ∧ Keeps (· = g) wr w') := fun wr k hb => by
    rw [hPL] at hb ⊢
    exact deliver_any false b g xs p n d wr (HW.out.2.2.2.1.kept k (fun e => e) (fun e => e)) hp (some ⟨W.heap.size, 0, none⟩) _ ps (seg_fI hb) hpp
  have H3 : Hid (∀ wr, Keeps (· = g) W wr → Calls Try.prog 32 #[.slice (some ⟨D, 0, none⟩) M c, .int .i64 p, .int .i64 n, .int .i64 d, .slice pa PL pc] wr fun e w' => NxD wr D M (dlF false xs p n d ps) (dlE false xs p n d ps) e w') := fun wr k => by
    rw [hPL]
    exact rdeliver_any D M c p n d xs pa pc ps wr (HC.out wr k).2.2.2.2.2.2.2.2 hM hm2 (HC.out wr k).2.2.2.2.2.2.2.1
  have H4 : Hid (∀ wr, Keeps (· = g) W wr → Blk wr W.heap.size (fI (PL + 70) (spareI ps)) 3 → Calls Try.prog 33 _ wr _) := fun wr k hb => keptIBig W.heap.size pa PL pc ps wr hb (HC.out wr k).2.2.2.2.2.2.2.1 hPL (by omega)
  obtain ⟨L, hL⟩ : ∃ L, L = W.heap.size := ⟨_, rfl⟩
  obtain ⟨E, hE⟩ : ∃ E, E = dlE false xs p n d ps := ⟨_, rfl⟩
  obtain ⟨X, hX⟩ : ∃ X, X = dlF false xs p n d ps := ⟨_, rfl⟩
  rw [← hL] at H1 H2 H4
  rw [← hE, ← hX] at H2 H3
  have HL : Hid (L = W.heap.size ∧ g < L) := ⟨hL, by have := HW.out.2.2.2.2.2.2.2.2.2; omega⟩
  have hPz : (PL : Int) ≤ 35184372087808 := by omega
  clear hL hE hX hp hpp hz1 hz2
  clear hm hM hm2 hB hDg hsi hsw hML hPL hgl hW hO hKW hBW
  go_enter Try.func12, Try.ntmps12
  go_wp2_with fail
  rw [← HW.out.1, ← HW.out.2.1]
  refine H1.out.mono ?_
  rintro e w1 ⟨rfl, hb1, hk1⟩
  obtain ⟨q0, q1, q2, q3, q4, q5, sw, si, bD⟩ := HC.out w1 hk1.none
  have HK1 : Hid (Keeps (fun _ => False) W w1 ∧ Blk w1 L (fI (PL + 70) (spareI ps)) 3) := ⟨hk1, hb1⟩
  have H2 : Hid (Calls _ _ _ _ _) := H2.out w1 hk1 hb1
  clear hk1 hb1 sw si bD q0 q4 q5 H1
  go_wp2_with fail
  refine H2.out.mono ?_
  rintro e w2 ⟨rfl, hm2, hk2⟩
  have hkW2 : Keeps (· = g) W w2 := HK1.out.1.none.trans hk2 fun _ _ e => e
  clear q1 q2 q3
  obtain ⟨q0, q1, q2, q3, q4, q5, sw, si, bD⟩ := HC.out w2 hkW2
  have HK2 : Hid (Keeps (· = g) W w2 ∧ Blk w2 L (fI (PL + 70) (spareI ps)) 3 ∧ Mm w2 b g X ∧ X.length = M) := ⟨hkW2, HK1.out.2.kept hk2 (by have := HL.out.2; omega), hm2, by rw [HW.out.2.2.2.1.len hm2 hkW2]; exact HW.out.2.2.2.2.2.2.1.symm⟩
  have H3 : Hid (Calls _ _ _ _ _) := H3.out w2 hkW2
  clear hk2 hm2 sw si bD hkW2 q0 q5 H2
  go_wp2_with fail
  refine H3.out.mono ?_
  rintro e w3 ⟨D', c', rfl, hD', hb3, hk3⟩
  have hkW3 : Keeps (· = g) W w3 := HK2.out.1.trans hk3.none fun _ _ e => e
  clear q1 q2 q3 q4
  obtain ⟨q0, q1, q2, q3, q4, q5, sw, si, bD⟩ := HC.out w3 hkW3
  have H4 : Hid (Calls _ _ _ _ _) := H4.out w3 hkW3 (HK2.out.2.1.kept hk3 fun e => e)
  have HF : Hid ((D' = D ∨ w.heap.size ≤ D') ∧ X.length = M ∧ Mm w3 b g X ∧ Blk w3 D' (wvs X) 52 ∧ Keeps (· = g) w w3) := by
    refine ⟨?_, HK2.out.2.2.2, HK2.out.2.2.1.kept hk3 (fun e => e) (fun e => e), hb3, HW.out.2.2.1.none.trans hkW3 fun _ _ e => e⟩
    rcases hD' with h | h
    · exact .inl h
    · have h1 := HW.out.2.2.1.size
      have h2 := HK2.out.1.size
      exact .inr (by omega)
  clear hk3 hb3 hD' sw si bD hkW3 q0 q1 q2 q3 q5 H3
  go_wp2_with fail
  refine H4.out.mono ?_
  rintro e w4 ⟨rfl, hw4⟩
  obtain rfl := hw4.symm
  clear q4 H4
  go_wp2
  go_returns
  refine ⟨D', c', X, ?_, HF.out⟩
  simp

set_option maxRecDepth 20000 in
set_option maxHeartbeats 4000000 in
theorem step_3 (b g D M c : Nat) (xs : List UInt32) (p n d : Int) (pa : Option Addr) (pc : Nat) (ps : List Int) (ma : Option Addr) (mc : Nat) (ms : List UInt32) (w : World) (hm : Mm w b g xs) (hM : M = xs.length) (hm2 : M ≤ 256) (hB : Blk w D (wvs xs) 52) (hDg : D ≠ g) (hsi : ∀ wr, Keeps (· = g) w wr → SegI wr pa ps) (hsw : ∀ wr, Keeps (· = g) w wr → SegW wr ma ms) (hp : p ≤ 9223372036854775807) (hpp : ∀ q ∈ ps, q ≤ 9223372036854775807) (hz1 : ps.length ≤ 35184372087808) (hz2 : ms.length ≤ 35184372087808) :
    Calls Try.prog 12 #[.pointer (some ⟨b, 0, none⟩), .slice (some ⟨D, 0, none⟩) M c, .agg #[.int .i64 3, .int .i64 p, .int .i64 n, .int .i64 d, .slice pa ps.length pc, .slice ma ms.length mc]] w fun e w' => StP w b g D M e w' := by
  obtain ⟨ML, hML⟩ : ∃ L, L = ms.length := ⟨_, rfl⟩
  obtain ⟨PL, hPL⟩ : ∃ L, L = ps.length := ⟨_, rfl⟩
  rw [← hML, ← hPL]
  have hgl : g < w.heap.size := hm.row.lt
  obtain ⟨W, hW⟩ : ∃ W, W = w.alloc (.cells #[.int .i64 3, .int .i64 p, .int .i64 n, .int .i64 d, .slice pa PL pc, .slice ma ML mc] 35) := ⟨_, rfl⟩
  obtain ⟨O, hO⟩ : ∃ O, O = w.heap.size := ⟨_, rfl⟩
  have hKW : Keeps (fun _ => False) w W := by rw [hW]; exact (Keeps.refl _ w).alloc _
  have hBW : Blk W O [.int .i64 3, .int .i64 p, .int .i64 n, .int .i64 d, .slice pa PL pc, .slice ma ML mc] 35 := by rw [hW, hO]; exact Blk.new w _ 35
  have HW : Hid (W = w.alloc (.cells #[.int .i64 3, .int .i64 p, .int .i64 n, .int .i64 d, .slice pa PL pc, .slice ma ML mc] 35) ∧ O = w.heap.size ∧ Keeps (fun _ => False) w W ∧ Mm W b g xs ∧ ML = ms.length ∧ PL = ps.length ∧ M = xs.length ∧ M ≤ 256 ∧ D ≠ g ∧ W.heap.size = O + 1 ∧ g < O) := ⟨hW, hO, hKW, hm.kept hKW (fun e => e) (fun e => e), hML, hPL, hM, hm2, hDg, by rw [hW, hO]; simp, by omega⟩
  have HC : Hid (∀ wr, Keeps (· = g) W wr → wr.cell? ⟨O, 0, none⟩ = some (.int .i64 3) ∧ wr.cell? ⟨O, 1, none⟩ = some (.int .i64 p) ∧ wr.cell? ⟨O, 2, none⟩ = some (.int .i64 n) ∧ wr.cell? ⟨O, 3, none⟩ = some (.int .i64 d) ∧ wr.cell? ⟨O, 4, none⟩ = some (.slice pa PL pc) ∧ wr.cell? ⟨O, 5, none⟩ = some (.slice ma ML mc) ∧ SegW wr ma ms ∧ SegI wr pa ps ∧ Blk wr D (wvs xs) 52) := fun wr k => by
    have hb := hBW.kept k (show O ≠ g by omega)
    exact ⟨hb.cell rfl, hb.cell rfl, hb.cell rfl, hb.cell rfl, hb.cell rfl, hb.cell rfl, hsw wr (hKW.none.trans k fun _ _ e => e), hsi wr (hKW.none.trans k fun _ _ e => e), (hB.kept hKW fun e => e).kept k hDg⟩
  have H1 : Hid (Calls _ _ _ _ _) := rlook_any D M c p n d xs W (HC.out W (Keeps.refl _ _)).2.2.2.2.2.2.2.2 hM hm2
  have H2 : Hid (∀ wr, Keeps (fun _ => False) W wr → ∀ wa wc, SegW wr wa (hdM false xs p n d) → Calls Try.prog 35 _ wr _) := fun wr k wa wc hw => told_any b g xs 3 p n d pa ma wa PL pc ML mc wc wr (HW.out.2.2.2.1.kept k (fun e => e) (fun e => e)) hp hw
  obtain ⟨HB0, hHB0⟩ : ∃ HB0, HB0 = hdB false xs p n d := ⟨_, rfl⟩
  obtain ⟨E, hE⟩ : ∃ E, E = lkE false xs p 3 n d := ⟨_, rfl⟩
  obtain ⟨HM0, hHM0⟩ : ∃ HM0, HM0 = hdM false xs p n d := ⟨_, rfl⟩
  rw [← hHB0, ← hE, ← hHM0] at H1
  simp only [← hHB0, ← hE, ← hHM0] at H2
  clear hHB0 hE hHM0 hp hpp hz1 hz2
  clear hm hM hm2 hB hDg hsi hsw hML hPL hgl hW hO hKW hBW
  go_enter Try.func12, Try.ntmps12
  go_wp2_with fail
  rw [← HW.out.1, ← HW.out.2.1]
  refine H1.out.mono ?_
  rintro e w1 ⟨a, rfl, ha, hk1⟩
  have sg : SegW w1 a HM0 := by
    rcases ha with ⟨_, h⟩ | ⟨G, _, rfl, hb⟩
    · exact .inl h
    · exact segW_of_blk hb
  obtain ⟨q0, q1, q2, q3, q4, q5, sw, si, bD⟩ := HC.out w1 hk1.none
  have HK1 : Hid (Keeps (fun _ => False) W w1) := hk1
  have H2 : Hid (Calls _ _ _ _ _) := H2.out w1 hk1 a HM0.length sg
  obtain ⟨HL0, hHL0⟩ : ∃ HL0, HL0 = HM0.length := ⟨_, rfl⟩
  rw [← hHL0] at H2 ⊢
  clear hk1 sw si bD H1 ha sg hHL0
  go_wp2_with fail
  refine H2.out.mono ?_
  rintro e w2 ⟨rfl, hk2⟩
  have HF : Hid (Mm w2 b g xs ∧ Blk w2 D (wvs xs) 52 ∧ Keeps (· = g) w w2) := by
    have hk := HK1.out.trans hk2 fun _ _ e => e
    exact ⟨HW.out.2.2.2.1.kept hk (fun e => e) (fun e => e), (HC.out w2 hk.none).2.2.2.2.2.2.2.2, (HW.out.2.2.1.trans hk fun _ _ e => e).none⟩
  clear hk2 q0 q1 q2 q3 q4 q5 H2
  go_wp2
  go_returns
  exact ⟨D, c, xs, rfl, .inl rfl, HW.out.2.2.2.2.2.2.1.symm, HF.out⟩

set_option maxRecDepth 20000 in
set_option maxHeartbeats 4000000 in
theorem step_4 (b g D M c : Nat) (xs : List UInt32) (p n d : Int) (pa : Option Addr) (pc : Nat) (ps : List Int) (ma : Option Addr) (mc : Nat) (ms : List UInt32) (w : World) (hm : Mm w b g xs) (hM : M = xs.length) (hm2 : M ≤ 256) (hB : Blk w D (wvs xs) 52) (hDg : D ≠ g) (hsi : ∀ wr, Keeps (· = g) w wr → SegI wr pa ps) (hsw : ∀ wr, Keeps (· = g) w wr → SegW wr ma ms) (hp : p ≤ 9223372036854775807) (hpp : ∀ q ∈ ps, q ≤ 9223372036854775807) (hz1 : ps.length ≤ 35184372087808) (hz2 : ms.length ≤ 35184372087808) :
    Calls Try.prog 12 #[.pointer (some ⟨b, 0, none⟩), .slice (some ⟨D, 0, none⟩) M c, .agg #[.int .i64 4, .int .i64 p, .int .i64 n, .int .i64 d, .slice pa ps.length pc, .slice ma ms.length mc]] w fun e w' => StP w b g D M e w' := by
  obtain ⟨ML, hML⟩ : ∃ L, L = ms.length := ⟨_, rfl⟩
  obtain ⟨PL, hPL⟩ : ∃ L, L = ps.length := ⟨_, rfl⟩
  rw [← hML, ← hPL]
  have hgl : g < w.heap.size := hm.row.lt
  obtain ⟨W, hW⟩ : ∃ W, W = w.alloc (.cells #[.int .i64 4, .int .i64 p, .int .i64 n, .int .i64 d, .slice pa PL pc, .slice ma ML mc] 35) := ⟨_, rfl⟩
  obtain ⟨O, hO⟩ : ∃ O, O = w.heap.size := ⟨_, rfl⟩
  have hKW : Keeps (fun _ => False) w W := by rw [hW]; exact (Keeps.refl _ w).alloc _
  have hBW : Blk W O [.int .i64 4, .int .i64 p, .int .i64 n, .int .i64 d, .slice pa PL pc, .slice ma ML mc] 35 := by rw [hW, hO]; exact Blk.new w _ 35
  have HW : Hid (W = w.alloc (.cells #[.int .i64 4, .int .i64 p, .int .i64 n, .int .i64 d, .slice pa PL pc, .slice ma ML mc] 35) ∧ O = w.heap.size ∧ Keeps (fun _ => False) w W ∧ Mm W b g xs ∧ ML = ms.length ∧ PL = ps.length ∧ M = xs.length ∧ M ≤ 256 ∧ D ≠ g ∧ W.heap.size = O + 1 ∧ g < O) := ⟨hW, hO, hKW, hm.kept hKW (fun e => e) (fun e => e), hML, hPL, hM, hm2, hDg, by rw [hW, hO]; simp, by omega⟩
  have HC : Hid (∀ wr, Keeps (· = g) W wr → wr.cell? ⟨O, 0, none⟩ = some (.int .i64 4) ∧ wr.cell? ⟨O, 1, none⟩ = some (.int .i64 p) ∧ wr.cell? ⟨O, 2, none⟩ = some (.int .i64 n) ∧ wr.cell? ⟨O, 3, none⟩ = some (.int .i64 d) ∧ wr.cell? ⟨O, 4, none⟩ = some (.slice pa PL pc) ∧ wr.cell? ⟨O, 5, none⟩ = some (.slice ma ML mc) ∧ SegW wr ma ms ∧ SegI wr pa ps ∧ Blk wr D (wvs xs) 52) := fun wr k => by
    have hb := hBW.kept k (show O ≠ g by omega)
    exact ⟨hb.cell rfl, hb.cell rfl, hb.cell rfl, hb.cell rfl, hb.cell rfl, hb.cell rfl, hsw wr (hKW.none.trans k fun _ _ e => e), hsi wr (hKW.none.trans k fun _ _ e => e), (hB.kept hKW fun e => e).kept k hDg⟩
  have H1 : Hid (Calls _ _ _ _ _) := tak_any false b g xs p n d W HW.out.2.2.2.1 hp
  have H2 : Hid (∀ wr, Keeps (· = g) W wr → Calls Try.prog 36 _ wr _) := fun wr k => rtake_any D M c p n d xs wr (HC.out wr k).2.2.2.2.2.2.2.2 hM hm2
  obtain ⟨HB0, hHB0⟩ : ∃ HB0, HB0 = hdB false xs p n d := ⟨_, rfl⟩
  obtain ⟨E, hE⟩ : ∃ E, E = lkE false xs p 3 n d := ⟨_, rfl⟩
  obtain ⟨TX, hTX⟩ : ∃ TX, TX = tkX false xs p n d := ⟨_, rfl⟩
  rw [← hHB0, ← hE, ← hTX] at H1 H2
  clear hHB0 hE hTX hp hpp hz1 hz2
  clear hm hM hm2 hB hDg hsi hsw hML hPL hgl hW hO hKW hBW
  go_enter Try.func12, Try.ntmps12
  go_wp2_with fail
  rw [← HW.out.1, ← HW.out.2.1]
  refine H1.out.mono ?_
  rintro e w1 ⟨rfl, hm1, hk1⟩
  obtain ⟨q0, q1, q2, q3, q4, q5, sw, si, bD⟩ := HC.out w1 hk1
  have HK1 : Hid (Keeps (· = g) W w1 ∧ Mm w1 b g TX ∧ TX.length = M) := ⟨hk1, hm1, by rw [HW.out.2.2.2.1.len hm1 hk1]; exact HW.out.2.2.2.2.2.2.1.symm⟩
  have H2 : Hid (Calls _ _ _ _ _) := H2.out w1 hk1
  clear hk1 hm1 sw si bD q0 q4 q5 H1
  go_wp2_with fail
  refine H2.out.mono ?_
  rintro e w2 ⟨D', c', rfl, hD', hb2, hk2⟩
  have HF : Hid ((D' = D ∨ w.heap.size ≤ D') ∧ TX.length = M ∧ Mm w2 b g TX ∧ Blk w2 D' (wvs TX) 52 ∧ Keeps (· = g) w w2) := by
    refine ⟨?_, HK1.out.2.2, HK1.out.2.1.kept hk2 (fun e => e) (fun e => e), hb2, (HW.out.2.2.1.none.trans HK1.out.1 fun _ _ e => e).trans hk2.none fun _ _ e => e⟩
    rcases hD' with h | h
    · exact .inl h
    · have h1 := HW.out.2.2.1.size
      have h2 := HK1.out.1.size
      exact .inr (by omega)
  clear hk2 hb2 hD' q1 q2 q3 H2
  go_wp2
  go_returns
  refine ⟨D', c', TX, ?_, HF.out⟩
  simp

set_option maxRecDepth 20000 in
set_option maxHeartbeats 4000000 in
theorem step_5 (b g D M c : Nat) (xs : List UInt32) (p n d : Int) (pa : Option Addr) (pc : Nat) (ps : List Int) (ma : Option Addr) (mc : Nat) (ms : List UInt32) (w : World) (hm : Mm w b g xs) (hM : M = xs.length) (hm2 : M ≤ 256) (hB : Blk w D (wvs xs) 52) (hDg : D ≠ g) (hsi : ∀ wr, Keeps (· = g) w wr → SegI wr pa ps) (hsw : ∀ wr, Keeps (· = g) w wr → SegW wr ma ms) (hp : p ≤ 9223372036854775807) (hpp : ∀ q ∈ ps, q ≤ 9223372036854775807) (hz1 : ps.length ≤ 35184372087808) (hz2 : ms.length ≤ 35184372087808) :
    Calls Try.prog 12 #[.pointer (some ⟨b, 0, none⟩), .slice (some ⟨D, 0, none⟩) M c, .agg #[.int .i64 5, .int .i64 p, .int .i64 n, .int .i64 d, .slice pa ps.length pc, .slice ma ms.length mc]] w fun e w' => StP w b g D M e w' := by
  obtain ⟨ML, hML⟩ : ∃ L, L = ms.length := ⟨_, rfl⟩
  obtain ⟨PL, hPL⟩ : ∃ L, L = ps.length := ⟨_, rfl⟩
  rw [← hML, ← hPL]
  have hgl : g < w.heap.size := hm.row.lt
  obtain ⟨W, hW⟩ : ∃ W, W = w.alloc (.cells #[.int .i64 5, .int .i64 p, .int .i64 n, .int .i64 d, .slice pa PL pc, .slice ma ML mc] 35) := ⟨_, rfl⟩
  obtain ⟨O, hO⟩ : ∃ O, O = w.heap.size := ⟨_, rfl⟩
  have hKW : Keeps (fun _ => False) w W := by rw [hW]; exact (Keeps.refl _ w).alloc _
  have hBW : Blk W O [.int .i64 5, .int .i64 p, .int .i64 n, .int .i64 d, .slice pa PL pc, .slice ma ML mc] 35 := by rw [hW, hO]; exact Blk.new w _ 35
  have HW : Hid (W = w.alloc (.cells #[.int .i64 5, .int .i64 p, .int .i64 n, .int .i64 d, .slice pa PL pc, .slice ma ML mc] 35) ∧ O = w.heap.size ∧ Keeps (fun _ => False) w W ∧ Mm W b g xs ∧ ML = ms.length ∧ PL = ps.length ∧ M = xs.length ∧ M ≤ 256 ∧ D ≠ g ∧ W.heap.size = O + 1 ∧ g < O) := ⟨hW, hO, hKW, hm.kept hKW (fun e => e) (fun e => e), hML, hPL, hM, hm2, hDg, by rw [hW, hO]; simp, by omega⟩
  have HC : Hid (∀ wr, Keeps (· = g) W wr → wr.cell? ⟨O, 0, none⟩ = some (.int .i64 5) ∧ wr.cell? ⟨O, 1, none⟩ = some (.int .i64 p) ∧ wr.cell? ⟨O, 2, none⟩ = some (.int .i64 n) ∧ wr.cell? ⟨O, 3, none⟩ = some (.int .i64 d) ∧ wr.cell? ⟨O, 4, none⟩ = some (.slice pa PL pc) ∧ wr.cell? ⟨O, 5, none⟩ = some (.slice ma ML mc) ∧ SegW wr ma ms ∧ SegI wr pa ps ∧ Blk wr D (wvs xs) 52) := fun wr k => by
    have hb := hBW.kept k (show O ≠ g by omega)
    exact ⟨hb.cell rfl, hb.cell rfl, hb.cell rfl, hb.cell rfl, hb.cell rfl, hb.cell rfl, hsw wr (hKW.none.trans k fun _ _ e => e), hsi wr (hKW.none.trans k fun _ _ e => e), (hB.kept hKW fun e => e).kept k hDg⟩
  have H1 : Hid (Calls _ _ _ _ _) := count3_any false b g xs p n d W HW.out.2.2.2.1 hp
  have H2 : Hid (∀ wr, Keeps (· = g) W wr → Calls Try.prog 37 _ wr _) := fun wr k => rcount_any D M c p n d xs wr (HC.out wr k).2.2.2.2.2.2.2.2 hM hm2
  obtain ⟨SN, hSN⟩ : ∃ SN, SN = stN false xs p 3 n d := ⟨_, rfl⟩
  obtain ⟨LN, hLN⟩ : ∃ LN, LN = (loN false xs p n d).toNat := ⟨_, rfl⟩
  obtain ⟨E, hE⟩ : ∃ E, E = lkE false xs p 3 n d := ⟨_, rfl⟩
  rw [← hSN, ← hLN, ← hE] at H1 H2
  clear hSN hLN hE hp hpp hz1 hz2
  clear hm hM hm2 hB hDg hsi hsw hML hPL hgl hW hO hKW hBW
  go_enter Try.func12, Try.ntmps12
  go_wp2_with fail
  rw [← HW.out.1, ← HW.out.2.1]
  refine H1.out.mono ?_
  rintro e w1 ⟨rfl, hk1⟩
  obtain ⟨q0, q1, q2, q3, q4, q5, sw, si, bD⟩ := HC.out w1 hk1.none
  have HK1 : Hid (Keeps (fun _ => False) W w1) := hk1
  have H2 : Hid (Calls _ _ _ _ _) := H2.out w1 hk1.none
  clear hk1 sw si bD q0 q4 q5 H1
  go_wp2_with fail
  refine H2.out.mono ?_
  rintro e w2 ⟨rfl, hk2⟩
  have HF : Hid (Mm w2 b g xs ∧ Blk w2 D (wvs xs) 52 ∧ Keeps (· = g) w w2) := by
    have hk := HK1.out.trans hk2 fun _ _ e => e
    exact ⟨HW.out.2.2.2.1.kept hk (fun e => e) (fun e => e), (HC.out w2 hk.none).2.2.2.2.2.2.2.2, (HW.out.2.2.1.trans hk fun _ _ e => e).none⟩
  clear hk2 q1 q2 q3 H2
  go_wp2
  go_returns
  refine ⟨D, c, xs, ?_, .inl rfl, HW.out.2.2.2.2.2.2.1.symm, HF.out⟩
  simp

set_option maxRecDepth 20000 in
set_option maxHeartbeats 4000000 in
theorem step_n (b g D M c : Nat) (xs : List UInt32) (p n d : Int) (pa : Option Addr) (pc : Nat) (ps : List Int) (ma : Option Addr) (mc : Nat) (ms : List UInt32) (w : World) (hm : Mm w b g xs) (hM : M = xs.length) (hm2 : M ≤ 256) (hB : Blk w D (wvs xs) 52) (hDg : D ≠ g) (hsi : ∀ wr, Keeps (· = g) w wr → SegI wr pa ps) (hsw : ∀ wr, Keeps (· = g) w wr → SegW wr ma ms) (hp : p ≤ 9223372036854775807) (hpp : ∀ q ∈ ps, q ≤ 9223372036854775807) (hz1 : ps.length ≤ 35184372087808) (hz2 : ms.length ≤ 35184372087808) (kd : Int) (h0 : (kd == 0) = false) (h1 : (kd == 1) = false) (h2 : (kd == 2) = false) (h3 : (kd == 3) = false) (h4 : (kd == 4) = false) (h5 : (kd == 5) = false) :
    Calls Try.prog 12 #[.pointer (some ⟨b, 0, none⟩), .slice (some ⟨D, 0, none⟩) M c, .agg #[.int .i64 kd, .int .i64 p, .int .i64 n, .int .i64 d, .slice pa ps.length pc, .slice ma ms.length mc]] w fun e w' => StP w b g D M e w' := by
  obtain ⟨ML, hML⟩ : ∃ L, L = ms.length := ⟨_, rfl⟩
  obtain ⟨PL, hPL⟩ : ∃ L, L = ps.length := ⟨_, rfl⟩
  rw [← hML, ← hPL]
  have hgl : g < w.heap.size := hm.row.lt
  obtain ⟨W, hW⟩ : ∃ W, W = w.alloc (.cells #[.int .i64 kd, .int .i64 p, .int .i64 n, .int .i64 d, .slice pa PL pc, .slice ma ML mc] 35) := ⟨_, rfl⟩
  obtain ⟨O, hO⟩ : ∃ O, O = w.heap.size := ⟨_, rfl⟩
  have hKW : Keeps (fun _ => False) w W := by rw [hW]; exact (Keeps.refl _ w).alloc _
  have hBW : Blk W O [.int .i64 kd, .int .i64 p, .int .i64 n, .int .i64 d, .slice pa PL pc, .slice ma ML mc] 35 := by rw [hW, hO]; exact Blk.new w _ 35
  have HW : Hid (W = w.alloc (.cells #[.int .i64 kd, .int .i64 p, .int .i64 n, .int .i64 d, .slice pa PL pc, .slice ma ML mc] 35) ∧ O = w.heap.size ∧ Keeps (fun _ => False) w W ∧ Mm W b g xs ∧ ML = ms.length ∧ PL = ps.length ∧ M = xs.length ∧ M ≤ 256 ∧ D ≠ g ∧ W.heap.size = O + 1 ∧ g < O) := ⟨hW, hO, hKW, hm.kept hKW (fun e => e) (fun e => e), hML, hPL, hM, hm2, hDg, by rw [hW, hO]; simp, by omega⟩
  have HC : Hid (∀ wr, Keeps (· = g) W wr → wr.cell? ⟨O, 0, none⟩ = some (.int .i64 kd) ∧ wr.cell? ⟨O, 1, none⟩ = some (.int .i64 p) ∧ wr.cell? ⟨O, 2, none⟩ = some (.int .i64 n) ∧ wr.cell? ⟨O, 3, none⟩ = some (.int .i64 d) ∧ wr.cell? ⟨O, 4, none⟩ = some (.slice pa PL pc) ∧ wr.cell? ⟨O, 5, none⟩ = some (.slice ma ML mc) ∧ SegW wr ma ms ∧ SegI wr pa ps ∧ Blk wr D (wvs xs) 52) := fun wr k => by
    have hb := hBW.kept k (show O ≠ g by omega)
    exact ⟨hb.cell rfl, hb.cell rfl, hb.cell rfl, hb.cell rfl, hb.cell rfl, hb.cell rfl, hsw wr (hKW.none.trans k fun _ _ e => e), hsi wr (hKW.none.trans k fun _ _ e => e), (hB.kept hKW fun e => e).kept k hDg⟩
  clear hm hM hm2 hB hDg hsi hsw hML hPL hgl hW hO hKW hBW
  clear hp hpp hz1 hz2
  go_enter Try.func12, Try.ntmps12
  go_wp2
  rw [← HW.out.1]
  go_returns
  exact ⟨D, c, xs, rfl, .inl rfl, HW.out.2.2.2.2.2.2.1.symm, HW.out.2.2.2.1, (HC.out W (Keeps.refl _ _)).2.2.2.2.2.2.2.2, HW.out.2.2.1.none⟩

end Go.Proofs.Ytekijhhpldnmnaa
