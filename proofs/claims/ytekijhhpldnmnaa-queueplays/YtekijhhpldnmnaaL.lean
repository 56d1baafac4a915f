import Derived.Test.YtekijhhpldnmnaaK
namespace Go.Proofs.Ytekijhhpldnmnaa
open Go.RowKit
set_option linter.unusedVariables false
set_option linter.unusedSimpArgs false

def loseL (l : List UInt32) : List UInt32 := if (wd l 2).toNat < 4294967295 then l.set 2 (wd l 2 + 1) else l
def bringL (n d : Nat) (l m : List UInt32) : List UInt32 := if cntW 3 l = d then loseL l else pushL 3 n d l m

section
variable (p : Int) (g h n d N : Nat) (l : List UInt32) (w : World)

set_option maxHeartbeats 1000000 in
theorem bring_any (b o c : Nat) (m : List UInt32) (hh3 : h = 3) (r : Rb w g h n d l) (hN : N = l.length) (hf : fstW h l < d) (hc : cntW h l ≤ d) (hm : SegW w (some ⟨b, o, none⟩) m) (hbg : b ≠ g) (h1 : 1 ≤ m.length) (h2 : m.length ≤ n) :
    Calls Try.prog 66 #[rwv p h n d g N, .slice (some ⟨b, o, none⟩) m.length c] w fun e w' => e = .returned (.tuple #[]) ∧ Blk w' g (wvs (bringL n d l m)) 52 ∧ Keeps (· = g) w w' := by
  obtain ⟨W, hW, hK, hB⟩ := row_new w p h n d g N
  have hb := r.big
  have rW := r.grown hK
  have hO : w.heap.size ≠ g := by have := r.blk.lt; omega
  have hcell := row_cells p g h n d N hB
  have HU := full_any p g h n d N l W rW hN
  have hS := hcell W (Keeps.refl _ _)
  by_cases hd : cntW h l = d
  · have e : bringL n d l m = loseL l := if_pos (by rw [hh3] at hd; exact hd)
    rw [e]
    rw [decide_eq_true hd] at HU
    have HU : Hid (Calls _ _ _ _ _) := HU
    have hlt := (wd l 2).toNat_lt
    by_cases h3 : (wd l 2).toNat < 4294967295
    · have e2 : loseL l = l.set 2 (wd l 2 + 1) := if_pos h3
      have e3 : (wd l 2 + 1).toNat = (wd l 2).toNat + 1 := by rw [UInt32.toNat_add]; show ((wd l 2).toNat + 1) % 4294967296 = _; omega
      rw [e2]
      have HX : Hid (∀ w1, Keeps (fun _ => False) W w1 → (w1.cell? ⟨w.heap.size, 0, none⟩ = some (.int .i64 p) ∧ w1.cell? ⟨w.heap.size, 1, none⟩ = some (.int .i64 h) ∧ w1.cell? ⟨w.heap.size, 2, none⟩ = some (.int .i64 n) ∧ w1.cell? ⟨w.heap.size, 3, none⟩ = some (.int .i64 d) ∧ w1.cell? ⟨w.heap.size, 4, none⟩ = some (.slice (some ⟨g, 0, none⟩) N N)) ∧ w1.cell? ⟨g, 2, none⟩ = some (.int .u32 ((wd l 2).toNat : Int)) ∧ w1.frozen? ⟨g, 2, none⟩ = false ∧ Blk (w1.setCell ⟨g, 2, none⟩ (.int .u32 (((wd l 2).toNat : Int) + 1))) g (wvs (l.set 2 (wd l 2 + 1))) 52 ∧ Keeps (· = g) w (w1.setCell ⟨g, 2, none⟩ (.int .u32 (((wd l 2).toNat : Int) + 1)))) := fun w1 k => by
        have q := (rW.grown k).blk
        refine ⟨hcell w1 k, q.cell (wvs_wd (by omega)), q.frozen 2, ?_, ((hK.trans k fun _ _ e => e).mono fun _ _ e => e.elim).setCell _ _ fun _ => rfl⟩
        rw [wvs_setm, e3]
        exact q.setCell 2 _
      obtain ⟨O, hOe⟩ : ∃ O, O = w.heap.size := ⟨_, rfl⟩
      rw [← hOe] at HX hS
      have HW : Hid (W = _ ∧ O = w.heap.size) := ⟨hW, hOe⟩
      obtain ⟨v, hv⟩ : ∃ v : Nat, v = (wd l 2).toNat := ⟨_, rfl⟩
      rw [← hv] at HX h3
      have z1 : (v : Int) < 4294967295 := by omega
      have z2 : (N : Int) > 2 := by omega
      have z3 : 2 < (N : Int) := by omega
      clear hh3 hcell hW hK hB hb rW r hN hf hc hO hOe hv h3 e e2 e3 hd hlt hm hbg h1 h2
      go_enter Try.func66, Try.ntmps66
      go_wp2_with fail
      rw [← HW.out.1, ← HW.out.2]
      refine HU.out.mono ?_
      rintro e w1 ⟨rfl, hk1⟩
      obtain ⟨⟨c0, c1, c2, c3, c4⟩, cg, fg, hfin⟩ := HX.out w1 hk1
      have HFin : Hid (_ ∧ _) := hfin
      clear hS hfin hk1 HU
      go_wp2
      go_end0
      exact ⟨rfl, HFin.out⟩
    · have e2 : loseL l = l := if_neg h3
      rw [e2]
      have e4 : (wd l 2).toNat = 4294967295 := by omega
      have HX : Hid (∀ w1, Keeps (fun _ => False) W w1 → (w1.cell? ⟨w.heap.size, 0, none⟩ = some (.int .i64 p) ∧ w1.cell? ⟨w.heap.size, 1, none⟩ = some (.int .i64 h) ∧ w1.cell? ⟨w.heap.size, 2, none⟩ = some (.int .i64 n) ∧ w1.cell? ⟨w.heap.size, 3, none⟩ = some (.int .i64 d) ∧ w1.cell? ⟨w.heap.size, 4, none⟩ = some (.slice (some ⟨g, 0, none⟩) N N)) ∧ w1.cell? ⟨g, 2, none⟩ = some (.int .u32 4294967295) ∧ Blk w1 g (wvs l) 52 ∧ Keeps (· = g) w w1) := fun w1 k => by
        have q := (rW.grown k).blk
        refine ⟨hcell w1 k, ?_, q, ((hK.trans k fun _ _ e => e).mono fun _ _ e => e.elim)⟩
        rw [q.cell (wvs_wd (by omega)), e4]
        rfl
      obtain ⟨O, hOe⟩ : ∃ O, O = w.heap.size := ⟨_, rfl⟩
      rw [← hOe] at HX hS
      have HW : Hid (W = _ ∧ O = w.heap.size) := ⟨hW, hOe⟩
      have z3 : 2 < (N : Int) := by omega
      clear hh3 hcell hW hK hB hb rW r hN hf hc hO hOe h3 e e2 e4 hd hlt hm hbg h1 h2
      go_enter Try.func66, Try.ntmps66
      go_wp2_with fail
      rw [← HW.out.1, ← HW.out.2]
      refine HU.out.mono ?_
      rintro e w1 ⟨rfl, hk1⟩
      obtain ⟨⟨c0, c1, c2, c3, c4⟩, cg, hfin⟩ := HX.out w1 hk1
      have HFin : Hid (_ ∧ _) := hfin
      clear hS hfin hk1 HU
      go_wp2
      go_end0
      exact ⟨rfl, HFin.out⟩
  · have e : bringL n d l m = pushL h n d l m := by rw [hh3] at hd ⊢; exact if_neg hd
    rw [e]
    rw [decide_eq_false hd] at HU
    have HU : Hid (Calls _ _ _ _ _) := HU
    have HP : Hid (∀ w1, Keeps (fun _ => False) W w1 → (w1.cell? ⟨w.heap.size, 0, none⟩ = some (.int .i64 p) ∧ w1.cell? ⟨w.heap.size, 1, none⟩ = some (.int .i64 h) ∧ w1.cell? ⟨w.heap.size, 2, none⟩ = some (.int .i64 n) ∧ w1.cell? ⟨w.heap.size, 3, none⟩ = some (.int .i64 d) ∧ w1.cell? ⟨w.heap.size, 4, none⟩ = some (.slice (some ⟨g, 0, none⟩) N N)) ∧ Calls Try.prog 41 #[rwv p h n d g N, .slice (some ⟨b, o, none⟩) m.length c] w1 fun e w' => e = .returned (.tuple #[]) ∧ Blk w' g (wvs (pushL h n d l m)) 52 ∧ Keeps (· = g) w w') := fun w1 k =>
      ⟨hcell w1 k, (push_any p g h n d N l w1 b o c m (rW.grown k) hN hf (by omega) (hm.kept (hK.trans k fun _ _ e => e) fun _ _ e => e) hbg h1 h2).mono fun e w' ⟨q1, q2, q3⟩ => ⟨q1, q2, ((hK.trans k fun _ _ e => e).mono fun _ _ e => e.elim).trans q3 fun _ _ e => e⟩⟩
    obtain ⟨O, hOe⟩ : ∃ O, O = w.heap.size := ⟨_, rfl⟩
    rw [← hOe] at HP hS
    have HW : Hid (W = _ ∧ O = w.heap.size) := ⟨hW, hOe⟩
    obtain ⟨k, hk⟩ : ∃ v : Nat, v = m.length := ⟨_, rfl⟩
    rw [← hk] at HP ⊢
    clear hh3 hcell hW hK hB hb rW r hN hf hc hO hOe e hd hm hbg h1 h2 hk
    go_enter Try.func66, Try.ntmps66
    go_wp2_with fail
    rw [← HW.out.1, ← HW.out.2]
    refine HU.out.mono ?_
    rintro e w1 ⟨rfl, hk1⟩
    obtain ⟨⟨c0, c1, c2, c3, c4⟩, hp⟩ := HP.out w1 hk1
    have HP2 : Hid (Calls _ _ _ _ _) := hp
    clear hS hp hk1 HU HP
    go_wp2_with fail
    refine HP2.out.mono ?_
    rintro e w2 ⟨rfl, hfin⟩
    have HFin : Hid (_ ∧ _) := hfin
    clear hfin HP2
    go_wp2
    refine bodyPost_ret (results_none rfl _ _ _) rfl ?_
    exact ⟨rfl, HFin.out⟩

/-- The words behind a pop. -/
def popL (n d : Nat) (l : List UInt32) : List UInt32 :=
  (((lay l (plA 3 n d l 0) (List.replicate (1 + n) 0)).set 1 (UInt32.ofNat (cntW 3 l - 1))).set 0 (if cntW 3 l = 1 then 0 else UInt32.ofNat (nxt d (fstW 3 l))))

set_option maxRecDepth 20000 in
set_option maxHeartbeats 4000000 in
theorem pop_any (hh3 : h = 3) (r : Rb w g h n d l) (hN : N = l.length) (hf : fstW h l < d) (hc : cntW h l ≤ d) (h1 : 1 ≤ cntW h l) :
    Calls Try.prog 51 #[rwv p h n d g N] w fun e w' => e = .returned (.tuple #[]) ∧ Blk w' g (wvs (popL n d l)) 52 ∧ Keeps (· = g) w w' := by
  obtain ⟨W, hW, hK, hB⟩ := row_new w p h n d g N
  have hb := r.big
  have rW := r.grown hK
  have hO : w.heap.size ≠ g := by have := r.blk.lt; omega
  have hcell := row_cells p g h n d N hB
  have hS := hcell W (Keeps.refl _ _)
  have hd1 := r.d1
  have hd2 := r.d2
  have hfit := plA_fit r hf (i := 0) (by omega)
  have HP : Hid (Calls Try.prog 61 #[rwv p h n d g N, .int .i64 0] W fun e w' => e = .returned (.slice (some ⟨g, plA h n d l 0, none⟩) (1 + n) (N - plA h n d l 0)) ∧ Keeps (fun _ => False) W w') := place_on p g h n d N l rW hN hf W (Keeps.refl _ _) 0 (by omega)
  have hpop : popL n d l = ((lay l (plA h n d l 0) (List.replicate (1 + n) 0)).set 1 (UInt32.ofNat (cntW h l - 1))).set 0 (if cntW h l = 1 then 0 else UInt32.ofNat (nxt d (fstW h l))) := by rw [hh3]; rfl
  have hq3 : 3 ≤ plA h n d l 0 := by unfold plA; omega
  obtain ⟨q, hq⟩ : ∃ v : Nat, v = plA h n d l 0 := ⟨_, rfl⟩
  obtain ⟨C, hC⟩ : ∃ v : Nat, v = cntW h l := ⟨_, rfl⟩
  obtain ⟨F, hF⟩ : ∃ v : Nat, v = fstW h l := ⟨_, rfl⟩
  obtain ⟨X, hX⟩ : ∃ v : Nat, v = nxt d F := ⟨_, rfl⟩
  have hC3 : (wd l 1).toNat = C := by rw [hC, hh3]; rfl
  have hF3 : (wd l 0).toNat = F := by rw [hF, hh3]; rfl
  rw [← hq] at HP hfit hq3 hpop
  rw [← hC] at hc h1 hpop
  rw [← hF] at hf hpop
  rw [← hX] at hpop
  have hX8 : X < d := by rw [hX]; exact nxt_lt hf
  have hXm := nxt_mod hf
  rw [← hX] at hXm
  obtain ⟨l1, hl1⟩ : ∃ l1, l1 = lay l q (List.replicate (1 + n) 0) := ⟨_, rfl⟩
  have hl1l : l1.length = l.length := by rw [hl1, lay_length _ _ _ (by simp; omega)]
  have hw1 : ∀ i, i < 3 → wd l1 i = wd l i := fun i hi => by
    unfold wd
    rw [hl1, List.getD_eq_getElem?_getD, List.getD_eq_getElem?_getD, lay_get? _ _ _ (by simp; omega), if_neg (by omega)]
  have HCL : Hid (∀ w1, Keeps (fun _ => False) W w1 → ∀ ty, (Builtin.clear_ #[22] ty #[.slice (some ⟨g, q, none⟩) (1 + n) (N - q)]).run Try.prog w1 = .ok (.tuple #[]) (w1.setRow g (wvs l1).toArray)) := fun w1 k ty => by
    have := run_clear_wb ty g q (1 + n) (N - q) _ 52 (rW.grown k).blk (by rw [wvs_length]; exact hfit)
    rw [this]
    have e := rep_wvs l q (1 + n) 0
    have e2 : (Value.int .u32 (((0 : UInt32).toNat : Nat) : Int)) = .int .u32 0 := rfl
    rw [e2] at e
    rw [e, hl1, lay, wvs_append, wvs_append, wvs_take, wvs_drop]
  -- behind the clear, behind the first store, behind the second
  have HX1 : Hid (∀ w1, Keeps (fun _ => False) W w1 → ∀ W2, W2 = w1.setRow g (wvs l1).toArray → Blk W2 g (wvs l1) 52 ∧ Keeps (· = g) w W2 ∧ (W2.cell? ⟨w.heap.size, 0, none⟩ = some (.int .i64 p) ∧ W2.cell? ⟨w.heap.size, 1, none⟩ = some (.int .i64 h) ∧ W2.cell? ⟨w.heap.size, 2, none⟩ = some (.int .i64 n) ∧ W2.cell? ⟨w.heap.size, 3, none⟩ = some (.int .i64 d) ∧ W2.cell? ⟨w.heap.size, 4, none⟩ = some (.slice (some ⟨g, 0, none⟩) N N)) ∧ W2.cell? ⟨g, 1, none⟩ = some (.int .u32 C) ∧ W2.frozen? ⟨g, 1, none⟩ = false ∧ Keeps (· = g) W W2) := fun w1 k W2 hW2 => by
    have q1 := (rW.grown k).blk.setRow (wvs l1)
    rw [← hW2] at q1
    have q2 : Keeps (· = g) W W2 := by rw [hW2]; exact (k.mono fun _ _ e => e.elim).setRow _ _ fun _ => rfl
    have q3 := hB.kept q2 hO
    refine ⟨q1, ((hK.mono fun _ _ e => e.elim).trans q2 fun _ _ e => e), ⟨q3.cell rfl, q3.cell rfl, q3.cell rfl, q3.cell rfl, q3.cell rfl⟩, ?_, q1.frozen 1, q2⟩
    rw [q1.cell (wvs_wd (by omega)), hw1 1 (by omega), hC3]
  have HX2 : Hid (∀ W2, Blk W2 g (wvs l1) 52 → Keeps (· = g) W W2 → ∀ W3, W3 = W2.setCell ⟨g, 1, none⟩ (.int .u32 ((C : Int) - 1)) → Blk W3 g (wvs (l1.set 1 (UInt32.ofNat (C - 1)))) 52 ∧ (W3.cell? ⟨w.heap.size, 0, none⟩ = some (.int .i64 p) ∧ W3.cell? ⟨w.heap.size, 1, none⟩ = some (.int .i64 h) ∧ W3.cell? ⟨w.heap.size, 2, none⟩ = some (.int .i64 n) ∧ W3.cell? ⟨w.heap.size, 3, none⟩ = some (.int .i64 d) ∧ W3.cell? ⟨w.heap.size, 4, none⟩ = some (.slice (some ⟨g, 0, none⟩) N N)) ∧ W3.cell? ⟨g, 0, none⟩ = some (.int .u32 F) ∧ W3.frozen? ⟨g, 0, none⟩ = false ∧ Keeps (· = g) W W3 ∧ W3.cell? ⟨g, 1, none⟩ = some (.int .u32 ((C : Int) - 1))) := fun W2 hB2 k2 W3 hW3 => by
    have q1 := hB2.setCell 1 (.int .u32 ((C : Int) - 1))
    have e : (wvs l1).set 1 (.int .u32 ((C : Int) - 1)) = wvs (l1.set 1 (UInt32.ofNat (C - 1))) := by
      rw [wvs_setm, ofNat_small (by omega), show ((C - 1 : Nat) : Int) = (C : Int) - 1 by omega]
    rw [e, ← hW3] at q1
    have q2 : Keeps (· = g) W W3 := by rw [hW3]; exact k2.setCell _ _ fun _ => rfl
    have q3 := hB.kept q2 hO
    have hl2 : (l1.set 1 (UInt32.ofNat (C - 1))).length = l.length := by simp [hl1l]
    refine ⟨q1, ⟨q3.cell rfl, q3.cell rfl, q3.cell rfl, q3.cell rfl, q3.cell rfl⟩, ?_, q1.frozen 0, q2, ?_⟩
    · rw [q1.cell (wvs_wd (by omega))]
      have : wd (l1.set 1 (UInt32.ofNat (C - 1))) 0 = wd l1 0 := by unfold wd; rw [List.getD_eq_getElem?_getD, List.getD_eq_getElem?_getD, List.getElem?_set_ne (by omega)]
      rw [this, hw1 0 (by omega), hF3]
    · rw [q1.cell (wvs_wd (by omega))]
      have : wd (l1.set 1 (UInt32.ofNat (C - 1))) 1 = UInt32.ofNat (C - 1) := by unfold wd; rw [List.getD_eq_getElem?_getD, List.getElem?_set_self (by omega)]; rfl
      rw [this, ofNat_small (by omega), show ((C - 1 : Nat) : Int) = (C : Int) - 1 by omega]
  have HX3 : Hid (∀ W3, Blk W3 g (wvs (l1.set 1 (UInt32.ofNat (C - 1)))) 52 → Keeps (· = g) W W3 → ∀ W4, W4 = W3.setCell ⟨g, 0, none⟩ (.int .u32 X) → Blk W4 g (wvs ((l1.set 1 (UInt32.ofNat (C - 1))).set 0 (UInt32.ofNat X))) 52 ∧ (W4.cell? ⟨w.heap.size, 0, none⟩ = some (.int .i64 p) ∧ W4.cell? ⟨w.heap.size, 1, none⟩ = some (.int .i64 h) ∧ W4.cell? ⟨w.heap.size, 2, none⟩ = some (.int .i64 n) ∧ W4.cell? ⟨w.heap.size, 3, none⟩ = some (.int .i64 d) ∧ W4.cell? ⟨w.heap.size, 4, none⟩ = some (.slice (some ⟨g, 0, none⟩) N N)) ∧ W4.cell? ⟨g, 1, none⟩ = some (.int .u32 ((C : Int) - 1)) ∧ W4.frozen? ⟨g, 0, none⟩ = false ∧ Keeps (· = g) W W4 ∧ W4.cell? ⟨g, 0, none⟩ = some (.int .u32 X)) := fun W3 hB3 k3 W4 hW4 => by
    have q1 := hB3.setCell 0 (.int .u32 (X : Int))
    have e : (wvs (l1.set 1 (UInt32.ofNat (C - 1)))).set 0 (.int .u32 (X : Int)) = wvs ((l1.set 1 (UInt32.ofNat (C - 1))).set 0 (UInt32.ofNat X)) := by
      rw [wvs_setm (l1.set 1 _) 0, ofNat_small (by omega)]
    rw [e, ← hW4] at q1
    have q2 : Keeps (· = g) W W4 := by rw [hW4]; exact k3.setCell _ _ fun _ => rfl
    have q3 := hB.kept q2 hO
    refine ⟨q1, ⟨q3.cell rfl, q3.cell rfl, q3.cell rfl, q3.cell rfl, q3.cell rfl⟩, ?_, q1.frozen 0, q2, ?_⟩
    · rw [q1.cell (wvs_wd (by simp [hl1l]; omega))]
      have : wd ((l1.set 1 (UInt32.ofNat (C - 1))).set 0 (UInt32.ofNat X)) 1 = UInt32.ofNat (C - 1) := by unfold wd; rw [List.getD_eq_getElem?_getD, List.getElem?_set_ne (by omega), List.getElem?_set_self (by omega)]; rfl
      rw [this, ofNat_small (by omega), show ((C - 1 : Nat) : Int) = (C : Int) - 1 by omega]
    · rw [q1.cell (wvs_wd (by simp [hl1l]; omega))]
      have : wd ((l1.set 1 (UInt32.ofNat (C - 1))).set 0 (UInt32.ofNat X)) 0 = UInt32.ofNat X := by unfold wd; rw [List.getD_eq_getElem?_getD, List.getElem?_set_self (by simp [hl1l]; omega)]; rfl
      rw [this, ofNat_small (by omega)]
  have HX4 : Hid ((¬ C = 1 → popL n d l = (l1.set 1 (UInt32.ofNat (C - 1))).set 0 (UInt32.ofNat X)) ∧ (C = 1 → ∀ W4, Blk W4 g (wvs ((l1.set 1 (UInt32.ofNat (C - 1))).set 0 (UInt32.ofNat X))) 52 → Blk (W4.setCell ⟨g, 0, none⟩ (.int .u32 0)) g (wvs (popL n d l)) 52)) := by
    refine ⟨fun h => by rw [hpop, if_neg h, hl1], fun h W4 hB4 => ?_⟩
    have q1 := hB4.setCell 0 (.int .u32 0)
    rw [hpop, if_pos h, ← hl1]
    have e : (wvs ((l1.set 1 (UInt32.ofNat (C - 1))).set 0 (UInt32.ofNat X))).set 0 (.int .u32 0) = wvs ((l1.set 1 (UInt32.ofNat (C - 1))).set 0 0) := by
      rw [wvs_setm (l1.set 1 _) 0, List.set_set, wvs_setm (l1.set 1 _) 0]; rfl
    rw [e] at q1
    exact q1
  have x1 : Int.tmod ((F : Int) + 1) (d : Int) = (X : Int) := by rw [Int.tmod_eq_emod_of_nonneg (by omega), ← hXm]; simp
  have x2 : IntKind.u32.wrap ((F : Int) + 1) = (F : Int) + 1 := by rw [IntKind.wrap_u32]; omega
  have x3 : IntKind.u32.wrap (d : Int) = (d : Int) := by rw [IntKind.wrap_u32]; omega
  have hd0 : ¬ (d : Int) = 0 := by omega
  have x4 : ((F : Int) + 1) % (d : Int) = (X : Int) := by rw [← hXm]; simp
  have y1 : (N : Int) ≤ 139 := by omega
  have y2 : 3 < (N : Int) := by omega
  have y3 : (C : Int) ≤ 8 := by omega
  have y4 : 1 ≤ (C : Int) := by omega
  have y5 : (F : Int) < 8 := by omega
  have y6 : (d : Int) ≤ 8 := by omega
  have y7 : 1 ≤ (d : Int) := by omega
  obtain ⟨O, hOe⟩ : ∃ O, O = w.heap.size := ⟨_, rfl⟩
  rw [← hOe] at HX1 HX2 HX3 hS
  have HW : Hid (W = _ ∧ O = w.heap.size ∧ Keeps (fun _ => False) w W) := ⟨hW, hOe, hK⟩
  clear hh3 hcell hW hK hB hb rW r hN hf hc hO hOe hl1 hl1l hw1 hpop hq hC hF hX hC3 hF3 hX8 hXm hfit hq3 hd1 hd2 h1
  go_enter Try.func51, Try.ntmps51
  go_wp2_with fail
  rw [← HW.out.1, ← HW.out.2.1]
  refine HP.out.mono ?_
  rintro e w1 ⟨rfl, hk1⟩
  have HCL2 : Hid (∀ ty, _) := HCL.out w1 hk1
  obtain ⟨W2, hW2⟩ : ∃ W2, W2 = w1.setRow g (wvs l1).toArray := ⟨_, rfl⟩
  obtain ⟨hB2, hk2w, ⟨c0, c1, c2, c3, c4⟩, cC, fC, hk2⟩ := HX1.out w1 hk1 W2 hW2
  rw [← hW2] at HCL2
  have HB2 : Hid (Blk _ _ _ _ ∧ Keeps (· = g) W W2) := ⟨hB2, hk2⟩
  clear hB2 hk2 hk2w hW2 hk1 HCL HX1 HP hS
  go_wp2_with (refine isClear (.tmp 3) 22 rfl ?_; go_must (refine wpList_clear_run rfl (.tmp 3) 22 rfl (.slice (some ⟨g, q, none⟩) (1 + n) (N - q)) (.tuple #[]) W2 rfl HCL2.out ?_))
  obtain ⟨W3, hW3⟩ : ∃ W3, W3 = W2.setCell ⟨g, 1, none⟩ (.int .u32 ((C : Int) - 1)) := ⟨_, rfl⟩
  obtain ⟨hB3, hS3, cF, fF, hk3, cC3⟩ := HX2.out W2 HB2.out.1 HB2.out.2 W3 hW3
  rw [← hW3]
  clear hW3 c0 c1 c2 c3 c4 cC fC HCL2
  obtain ⟨W4, hW4⟩ : ∃ W4, W4 = W3.setCell ⟨g, 0, none⟩ (.int .u32 X) := ⟨_, rfl⟩
  obtain ⟨hB4, hS4, cC4, fF4, hk4, cX4⟩ := HX3.out W3 hB3 hk3 W4 hW4
  have hS5 := hS4
  rw [hW4] at hS5
  have HB4 : Hid (Blk W4 _ _ _ ∧ Keeps (· = g) W W4) := ⟨hB4, hk4⟩
  clear hB3 hk3 hB4 hk4
  refine wp_region_held_drew (S := (fun w' => w'.cell? ⟨O, 0, none⟩ = some (.int .i64 p) ∧ w'.cell? ⟨O, 1, none⟩ = some (.int .i64 h) ∧ w'.cell? ⟨O, 2, none⟩ = some (.int .i64 n) ∧ w'.cell? ⟨O, 3, none⟩ = some (.int .i64 d) ∧ w'.cell? ⟨O, 4, none⟩ = some (.slice (some ⟨g, 0, none⟩) N N))) Try.mixd hS3 (fun hHeld => ?_)
  simp only [List.size_toArray, List.length_cons, List.length_nil, Nat.reduceAdd, Array.replicate_succ, Array.replicate_zero, List.push_toArray, List.append_toArray, List.nil_append, List.cons_append]
  refine wpAnyH_take (i := 0) (oi := { dst := some 10, op := Op.fieldAddr 75 (Operand.tmp 1) 4, type := 0, pos := "row.go:163", after := #[], guard := none }) (v := .pointer (some ⟨O, 4, none⟩)) rfl (by kernel_rfl) (by kernel_rfl) (by kernel_rfl) (fun _ _ _ h => h) (Or.inl ⟨by kernel_rfl, by (intro w hSw; (try dsimp only at hSw); go_simp; try omega)⟩) hHeld ?_
  simp only [Act.put, List.setIfInBounds_toArray, List.set_cons_zero, List.set_cons_succ]
  refine wpAnyH_take (i := 1) (oi := { dst := some 11, op := Op.load 22 (Operand.tmp 10), type := 22, pos := "row.go:163", after := #[{ on := 0, ground := Ground.data }], guard := none }) (v := .slice (some ⟨g, 0, none⟩) N N) rfl (by kernel_rfl) (by kernel_rfl) (by kernel_rfl) (fun _ _ _ h => h) (Or.inl ⟨by kernel_rfl, by (intro w hSw; (try dsimp only at hSw); go_simp; try omega)⟩) hHeld ?_
  simp only [Act.put, List.setIfInBounds_toArray, List.set_cons_zero, List.set_cons_succ]
  refine wpAnyH_take (i := 2) (oi := { dst := some 12, op := Op.fieldAddr 75 (Operand.tmp 1) 4, type := 0, pos := "row.go:163", after := #[], guard := none }) (v := .pointer (some ⟨O, 4, none⟩)) rfl (by kernel_rfl) (by kernel_rfl) (by kernel_rfl) (fun _ _ _ h => h) (Or.inl ⟨by kernel_rfl, by (intro w hSw; (try dsimp only at hSw); go_simp; try omega)⟩) hHeld ?_
  simp only [Act.put, List.setIfInBounds_toArray, List.set_cons_zero, List.set_cons_succ]
  refine wpAnyH_take (i := 3) (oi := { dst := some 13, op := Op.load 22 (Operand.tmp 12), type := 22, pos := "row.go:163", after := #[{ on := 2, ground := Ground.data }], guard := none }) (v := .slice (some ⟨g, 0, none⟩) N N) rfl (by kernel_rfl) (by kernel_rfl) (by kernel_rfl) (fun _ _ _ h => h) (Or.inl ⟨by kernel_rfl, by (intro w hSw; (try dsimp only at hSw); go_simp; try omega)⟩) hHeld ?_
  simp only [Act.put, List.setIfInBounds_toArray, List.set_cons_zero, List.set_cons_succ]
  refine wpAnyH_take (i := 4) (oi := { dst := some 14, op := Op.indexAddr 22 (Operand.tmp 13) (Operand.const (Value.int IntKind.i64 0)), type := 0, pos := "row.go:163", after := #[{ on := 3, ground := Ground.data }], guard := none }) (v := .pointer (some ⟨g, 0, none⟩)) rfl (by kernel_rfl) (by kernel_rfl) (by kernel_rfl) (fun _ _ _ h => h) (Or.inl ⟨by kernel_rfl, by (intro w hSw; (try dsimp only at hSw); go_simp; try omega)⟩) hHeld ?_
  simp only [Act.put, List.setIfInBounds_toArray, List.set_cons_zero, List.set_cons_succ]
  refine wpAnyH_take (i := 7) (oi := { dst := some 17, op := Op.fieldAddr 75 (Operand.tmp 1) 3, type := 0, pos := "row.go:163", after := #[], guard := none }) (v := .pointer (some ⟨O, 3, none⟩)) rfl (by kernel_rfl) (by kernel_rfl) (by kernel_rfl) (fun _ _ _ h => h) (Or.inl ⟨by kernel_rfl, by (intro w hSw; (try dsimp only at hSw); go_simp; try omega)⟩) hHeld ?_
  simp only [Act.put, List.setIfInBounds_toArray, List.set_cons_zero, List.set_cons_succ]
  refine wpAnyH_take (i := 8) (oi := { dst := some 18, op := Op.load 3 (Operand.tmp 17), type := 3, pos := "row.go:163", after := #[{ on := 7, ground := Ground.data }], guard := none }) (v := .int .i64 d) rfl (by kernel_rfl) (by kernel_rfl) (by kernel_rfl) (fun _ _ _ h => h) (Or.inl ⟨by kernel_rfl, by (intro w hSw; (try dsimp only at hSw); go_simp; try omega)⟩) hHeld ?_
  simp only [Act.put, List.setIfInBounds_toArray, List.set_cons_zero, List.set_cons_succ]
  refine wpAnyH_take (i := 9) (oi := { dst := some 19, op := Op.convert 3 52 (Operand.tmp 18), type := 52, pos := "row.go:163", after := #[{ on := 8, ground := Ground.data }], guard := none }) (v := .int .u32 d) rfl (by kernel_rfl) (by kernel_rfl) (by kernel_rfl) (fun _ _ _ h => h) (Or.inl ⟨by kernel_rfl, by (intro w hSw; (try dsimp only at hSw); go_simp; try omega)⟩) hHeld ?_
  simp only [Act.put, List.setIfInBounds_toArray, List.set_cons_zero, List.set_cons_succ]
  refine wpAnyH_ready (rs := [5]) (by kernel_rfl) (by simp) ?_
  refine AllReadyH.cons (o := { dst := some 15, op := Op.load 52 (Operand.tmp 14), type := 52, pos := "row.go:163", after := #[{ on := 4, ground := Ground.data }], guard := none }) rfl (fun Kq hK => ?_) AllReadyH.nil
  go_simp
  refine hK.out _ _ hS3 (fun hHeld => ?_)
  simp only [Act.put, List.setIfInBounds_toArray, List.set_cons_zero, List.set_cons_succ]
  refine wpAnyH_take (i := 6) (oi := { dst := some 16, op := Op.binOp BinOp.add 52 (Operand.tmp 15) (Operand.const (Value.int IntKind.u32 1)) 52, type := 52, pos := "row.go:163", after := #[{ on := 5, ground := Ground.data }], guard := none }) (v := .int .u32 (F + 1)) rfl (by kernel_rfl) (by kernel_rfl) (by kernel_rfl) (fun _ _ _ h => h) (Or.inl ⟨by kernel_rfl, by (intro w hSw; (try dsimp only at hSw); go_simp; try omega)⟩) hHeld ?_
  simp only [Act.put, List.setIfInBounds_toArray, List.set_cons_zero, List.set_cons_succ]
  refine wpAnyH_take (i := 10) (oi := { dst := some 20, op := Op.binOp BinOp.rem 52 (Operand.tmp 16) (Operand.tmp 19) 52, type := 52, pos := "row.go:163", after := #[{ on := 6, ground := Ground.data }, { on := 9, ground := Ground.data }], guard := none }) (v := .int .u32 X) rfl (by kernel_rfl) (by kernel_rfl) (by kernel_rfl) (fun _ _ _ h => h) (Or.inl ⟨by kernel_rfl, by (intro w hSw; (try dsimp only at hSw); go_simp; try omega)⟩) hHeld ?_
  simp only [Act.put, List.setIfInBounds_toArray, List.set_cons_zero, List.set_cons_succ]
  refine wpAnyH_take (i := 11) (oi := { dst := some 21, op := Op.indexAddr 22 (Operand.tmp 11) (Operand.const (Value.int IntKind.i64 0)), type := 0, pos := "row.go:163", after := #[{ on := 1, ground := Ground.data }, { on := 0, ground := Ground.phase }, { on := 1, ground := Ground.phase }, { on := 2, ground := Ground.phase }, { on := 3, ground := Ground.phase }, { on := 4, ground := Ground.phase }, { on := 5, ground := Ground.phase }, { on := 6, ground := Ground.phase }, { on := 7, ground := Ground.phase }, { on := 8, ground := Ground.phase }, { on := 9, ground := Ground.phase }, { on := 10, ground := Ground.phase }], guard := none }) (v := .pointer (some ⟨g, 0, none⟩)) rfl (by kernel_rfl) (by kernel_rfl) (by kernel_rfl) (fun _ _ _ h => h) (Or.inl ⟨by kernel_rfl, by (intro w hSw; (try dsimp only at hSw); go_simp; try omega)⟩) hHeld ?_
  simp only [Act.put, List.setIfInBounds_toArray, List.set_cons_zero, List.set_cons_succ]
  refine wpAnyH_ready (rs := [12]) (by kernel_rfl) (by simp) ?_
  refine AllReadyH.cons (o := { dst := none, op := Op.store 52 (Operand.tmp 21) (Operand.tmp 20), type := 0, pos := "row.go:163", after := #[{ on := 11, ground := Ground.data }, { on := 10, ground := Ground.data }, { on := 0, ground := Ground.phase }, { on := 1, ground := Ground.phase }, { on := 2, ground := Ground.phase }, { on := 3, ground := Ground.phase }, { on := 4, ground := Ground.phase }, { on := 5, ground := Ground.phase }, { on := 6, ground := Ground.phase }, { on := 7, ground := Ground.phase }, { on := 8, ground := Ground.phase }, { on := 9, ground := Ground.phase }, { on := 10, ground := Ground.phase }], guard := none }) rfl (fun Kq hK => ?_) AllReadyH.nil
  go_simp
  refine hK.out _ _ hS5 (fun hHeld => ?_)
  simp only [Act.put, List.setIfInBounds_toArray, List.set_cons_zero, List.set_cons_succ]
  refine wpAnyH_done (by kernel_rfl) ?_ _
  clear hHeld
  rw [← hW4]
  obtain ⟨c0, c1, c2, c3, c4⟩ := hS4
  clear hW4 hS5 hS3 cF fF cC3
  by_cases hC1 : C = 1
  · have HX5 : Hid (Blk _ _ _ _) := HX4.out.2 hC1 W4 HB4.out.1
    subst hC1
    clear HX4
    go_wp2
    go_end0
    exact ⟨rfl, HX5.out, (((HW.out.2.2.mono fun _ _ e => e.elim).trans HB4.out.2 fun _ _ e => e).drew).setCell _ _ fun _ => rfl⟩
  · have hC2 : (((C : Int) - 1) == 0) = false := beq_eq_false_iff_ne.2 (by omega)
    have HC1 : Hid (¬ C = 1) := hC1
    clear hC1
    go_wp2
    go_end0
    rw [HX4.out.1 HC1.out]
    exact ⟨rfl, HB4.out.1, ((HW.out.2.2.mono fun _ _ e => e.elim).trans HB4.out.2 fun _ _ e => e).drew⟩
end

end Go.Proofs.Ytekijhhpldnmnaa
