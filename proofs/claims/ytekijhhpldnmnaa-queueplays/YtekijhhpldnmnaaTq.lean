import Derived.Test.YtekijhhpldnmnaaTp
namespace Go.Proofs.Ytekijhhpldnmnaa
open Go.RowKit
set_option linter.unusedVariables false
set_option linter.unusedSimpArgs false

set_option maxRecDepth 20000 in
set_option maxHeartbeats 2000000 in
theorem layPort_any (G M c p n d F X : Nat) (xs : List UInt32) (v : Value) (r : Rw) (w : World) (hX : X = r.lost.toNat) (hF : F = r.f ∨ r.ms = []) (hr0' : r.ms = [] → r.f = 0) (hfd' : F < d) (hB : Blk w G (wvs xs) 52) (hM : M = xs.length) (hm : M ≤ 256) (hv : MsS (· ≠ G) w v r.ms) (hl : ∀ m ∈ r.ms, m.length ≤ n) (hd : 1 ≤ d ∧ d ≤ 8) (hn : n ≤ 16) (hq : p + rsz 3 n d ≤ M) (hms : r.ms.length ≤ d) :
    Calls Try.prog 59 #[.slice (some ⟨G, 0, none⟩) M c, .int .i64 p, .int .i64 n, .int .i64 d, rv3 F v X] w fun e w' => e = .returned (.tuple #[]) ∧ Blk w' G (wvs (lay xs p (enc 3 n d r))) 52 ∧ Keeps (· = G) w w' := by
  obtain ⟨a, cv, rfl, hcv, hlv⟩ := hv.form
  obtain ⟨Z, hZ⟩ : ∃ Z, Z = wvs (lay xs p (enc 3 n d r)) := ⟨_, rfl⟩
  rw [← hZ]
  obtain ⟨L, hL⟩ : ∃ L, L = r.ms.length := ⟨_, rfl⟩
  rw [← hL] at hlv hv ⊢
  have hq' := hq
  rw [rsz_nat] at hq'
  have y1 : (p : Int) + 3 ≤ (M : Int) := by omega
  have y2 : (M : Int) ≤ 256 := by omega
  have y3 : (L : Int) ≤ 8 := by omega
  have y4 : (F : Int) < 8 := by omega
  have y5 : (p : Int) < (M : Int) := by omega
  have y6 : (p : Int) + 1 < (M : Int) := by omega
  have y7 : (p : Int) + 2 < (M : Int) := by omega
  have hmod : (L : Int) % 4294967296 = (L : Int) := by omega
  have hmodF : (F : Int) % 4294967296 = (F : Int) := by omega
  clear hq'
  by_cases hL0 : L = 0
  · have hr0 : 0 = r.f := (hr0' (List.eq_nil_of_length_eq_zero (by omega))).symm
    subst hL0
    clear hmod hlv y3
    obtain ⟨W1, hW1⟩ : ∃ W1, W1 = w.alloc (.cells #[.int .i64 0, .slice a 0 cv, .int .u32 X] 92) := ⟨_, rfl⟩
    obtain ⟨O, hO⟩ : ∃ O, O = w.heap.size := ⟨_, rfl⟩
    have hk1 : Keeps (fun _ => False) w W1 := by rw [hW1]; exact (Keeps.refl _ w).alloc _
    have hO1 : Blk W1 O [.int .i64 0, .slice a 0 cv, .int .u32 X] 92 := by rw [hO, hW1]; exact Blk.new w _ 92
    obtain ⟨W2, W3, W4, hW2, hW3, hW4, ⟨⟨u1, g1⟩, ⟨u2, g2⟩, u3, g3⟩, ⟨z1, z2, z3⟩, o2, o3, o4, kw, hc⟩ := port_words (G := G) (M := M) (c := c) (p := p) (n := n) (d := d) (F0 := 0) (X := X) (L := 0) hX hr0 (by omega) hL hB hk1 hO1 hM hm hv hl hd hn hq hms
    have t1 := hO1.cell (i := 1) rfl
    have s0 := o2.cell (i := 1) rfl
    have s1 := o3.cell (i := 2) rfl
    have q0 := o4.cell (i := 0) rfl
    have q1 := o4.cell (i := 1) rfl
    have v0 := hO1.cell (i := 0) rfl
    have HC : Hid (Calls Try.prog 68 #[.slice (some ⟨G, 0, none⟩) M c, .int .i64 ((p : Int) + 3), .int .i64 n, .int .i64 d, .int .i64 0, .slice a 0 cv] W4 fun e w' => e = .returned (.tuple #[]) ∧ Blk w' G Z 52 ∧ Keeps (· = G) W4 w') := by rw [hZ]; exact hc
    have HK : Hid (Keeps (· = G) w W4) := kw
    have e00 : ((0 : Nat) : Int) = 0 := rfl
    rw [e00] at hW2 hW3
    rw [hW1] at hW2
    rw [hW2] at hW3
    rw [hW3] at hW4
    rw [hW4] at q0 q1 HC HK
    rw [hW3] at g3 z3 s1
    rw [hW2] at g2 z2 s0
    rw [hW1] at g1 z1 t1 v0
    rw [hO] at t1 s0 s1 q0 q1 v0
    clear hW1 hO hk1 hO1 hW2 hW3 hW4 o2 o3 o4 kw hc hX hB hM hm hv hl hn hq hms hL hZ e00 hr0
    go_enter Try.func59, Try.ntmps59
    go_wp2_with fail
    refine HC.out.mono ?_
    rintro e w2 ⟨rfl, hb, hk⟩
    have HF : Hid (Blk w2 G Z 52 ∧ Keeps (· = G) w w2) := ⟨hb, HK.out.trans hk fun _ _ e => e⟩
    clear hb hk HC HK
    go_wp2
    go_end0
    exact ⟨rfl, HF.out⟩
  have hr1 : F = r.f := hF.resolve_right fun e => hL0 (by rw [hL, e]; rfl)
  have hfd : F < d := hfd'
  have hL1 : ((L : Int) == 0) = false := beq_eq_false_iff_ne.2 (by omega)
  have hL2 : ¬ (L : Int) = 0 := by omega
  obtain ⟨W1, hW1⟩ : ∃ W1, W1 = w.alloc (.cells #[.int .i64 F, .slice a L cv, .int .u32 X] 92) := ⟨_, rfl⟩
  obtain ⟨O, hO⟩ : ∃ O, O = w.heap.size := ⟨_, rfl⟩
  have hk1 : Keeps (fun _ => False) w W1 := by rw [hW1]; exact (Keeps.refl _ w).alloc _
  have hO1 : Blk W1 O [.int .i64 F, .slice a L cv, .int .u32 X] 92 := by rw [hO, hW1]; exact Blk.new w _ 92
  obtain ⟨W2, W3, W4, hW2, hW3, hW4, ⟨⟨u1, g1⟩, ⟨u2, g2⟩, u3, g3⟩, ⟨z1, z2, z3⟩, o2, o3, o4, kw, hc⟩ := port_words (G := G) (M := M) (c := c) (p := p) (n := n) (d := d) (F0 := F) (X := X) (L := L) hX hr1 hfd hL hB hk1 hO1 hM hm hv hl hd hn hq hms
  have t1 := hO1.cell (i := 1) rfl
  have s0 := o2.cell (i := 1) rfl
  have s1 := o3.cell (i := 2) rfl
  have q0 := o4.cell (i := 0) rfl
  have q1 := o4.cell (i := 1) rfl
  have v0 := hO1.cell (i := 0) rfl
  have HC : Hid (Calls Try.prog 68 #[.slice (some ⟨G, 0, none⟩) M c, .int .i64 ((p : Int) + 3), .int .i64 n, .int .i64 d, .int .i64 F, .slice a L cv] W4 fun e w' => e = .returned (.tuple #[]) ∧ Blk w' G Z 52 ∧ Keeps (· = G) W4 w') := by rw [hZ]; exact hc
  have HK : Hid (Keeps (· = G) w W4) := kw
  rw [hW1] at hW2
  rw [hW2] at hW3
  rw [hW3] at hW4
  rw [hW4] at q0 q1 HC HK
  rw [hW3] at g3 z3 s1
  rw [hW2] at g2 z2 s0
  rw [hW1] at g1 z1 t1 v0
  rw [hO] at t1 s0 s1 q0 q1 v0
  clear hW1 hO hk1 hO1 hW2 hW3 hW4 o2 o3 o4 kw hc hX hB hM hm hv hl hn hq hms hL hZ hr1
  go_enter Try.func59, Try.ntmps59
  go_wp2_with fail
  refine HC.out.mono ?_
  rintro e w2 ⟨rfl, hb, hk⟩
  have HF : Hid (Blk w2 G Z 52 ∧ Keeps (· = G) w w2) := ⟨hb, HK.out.trans hk fun _ _ e => e⟩
  clear hb hk HC HK
  go_wp2
  go_end0
  exact ⟨rfl, HF.out⟩

end Go.Proofs.Ytekijhhpldnmnaa
