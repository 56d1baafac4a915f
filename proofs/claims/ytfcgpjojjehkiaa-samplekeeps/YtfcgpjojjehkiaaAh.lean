import Derived.Test.YtfcgpjojjehkiaaAg
namespace Go.Proofs.Ytfcgpjojjehkiaa
open Go.RowKit
set_option linter.unusedVariables false

set_option maxHeartbeats 1000000 in
theorem keeps_none (a : Option Addr) (c : Nat) (mark : Int) (w : World) :
    Calls Try.prog 6 #[.slice a 0 c, .int .u32 mark] w fun e w' => e = .returned (.bool true) ∧ Keeps (fun _ => False) w w' := by
  have HN : Hid (Calls _ _ _ _ _) := new_in 4 w (by omega) (by omega)
  go_enter Try.func6, Try.ntmps6
  go_wp2_with fail
  refine HN.out.mono ?_
  rintro e w1 ⟨rfl, hM, hk⟩
  have HK : Hid (Keeps (fun _ => False) w w1) := hk
  clear hM hk HN
  go_wp2
  go_ret
  exact ⟨rfl, HK.out⟩

/-- Where SampleKeeps stands: the memory, what is wanted. -/
structure Kp (w wr : World) (b g Q : Nat) (xs ms : List UInt32) : Prop where
  mm : Mm wr b g xs
  wt : Blk wr Q (wvs ms) 34
  k : Keeps (fun _ => False) w wr
  lo : w.heap.size ≤ g
  ne : Q ≠ g
theorem Kp.grown {w wr w' : World} {b g Q : Nat} {xs ms : List UInt32} (h : Kp w wr b g Q xs ms) (k : Keeps (fun _ => False) wr w') : Kp w w' b g Q xs ms :=
  ⟨h.mm.kept k (fun e => e) (fun e => e), h.wt.kept k fun e => e, h.k.trans k fun _ _ e => e, h.lo, h.ne⟩
theorem Kp.wrote {w wr w' : World} {b g Q : Nat} {xs ms ys : List UInt32} (h : Kp w wr b g Q xs ms) (hm : Mm w' b g ys) (k : Keeps (· = g) wr w') : Kp w w' b g Q ys ms :=
  ⟨hm, h.wt.kept k h.ne, h.k.trans k (fun b hb e => by have := h.lo; omega), h.lo, h.ne⟩
theorem Kp.spoilt {w wr w' : World} {b g Q B : Nat} {xs ms : List UInt32} (h : Kp w wr b g Q xs ms) (k : Keeps (· = B) wr w') (h1 : w.heap.size ≤ B) (h2 : B ≠ b) (h3 : B ≠ g) (h4 : B ≠ Q) : Kp w w' b g Q xs ms :=
  ⟨h.mm.kept k (fun e => h2 e.symm) (fun e => h3 e.symm), h.wt.kept k fun e => h4 e.symm, h.k.trans k (fun b hb e => by omega), h.lo, h.ne⟩

set_option maxRecDepth 20000 in
set_option maxHeartbeats 4000000 in
theorem keeps_some (a : Option Addr) (c : Nat) (xs : List UInt32) (mark : Int) (w : World) (hs : SegW w a xs) (hl : xs.length ≤ c ∧ c ≤ maxLen) (h0 : xs ≠ []) :
    Calls Try.prog 6 #[.slice a xs.length c, .int .u32 mark] w fun e w' => e = .returned (.bool true) ∧ Keeps (fun _ => False) w w' := by
  have HN := new_in 4 w (by omega) (by omega)
  obtain ⟨g, hg⟩ : ∃ g, g = w.heap.size := ⟨_, rfl⟩
  obtain ⟨b, hb⟩ : ∃ b, b = w.heap.size + 1 := ⟨_, rfl⟩
  rw [← hb, ← hg] at HN
  have HN : Hid (Calls _ _ _ _ _) := HN
  have hx0 : xs.length ≠ 0 := fun x => h0 (List.eq_nil_of_length_eq_zero x)
  rcases hs with h | ⟨gm, om, rfl, hcm⟩
  · exact absurd h h0
  obtain ⟨K, hK⟩ : ∃ K, K = min xs.length 16 := ⟨_, rfl⟩
  obtain ⟨ms, hms⟩ : ∃ ms, ms = xs.take K := ⟨_, rfl⟩
  have hml : ms.length = K := by rw [hms, List.length_take]; omega
  have hC : ∀ W, Keeps (fun _ => False) w W → Calls Try.prog 16 #[.slice (some ⟨gm, om, none⟩) K c] W fun e w' => e = .returned (.slice (some ⟨W.heap.size, 0, none⟩) K K) ∧ Blk w' W.heap.size (wvs ms) 34 ∧ Keeps (fun _ => False) W w' := by
    intro W kk
    have hsg : SegW W (some ⟨gm, om, none⟩) ms := by
      refine .inr ⟨gm, om, rfl, fun i hi => ?_⟩
      have hi' : i < xs.length := by omega
      rw [cell_kept (hcm i hi') kk fun e => e]
      simp [hms]
    have := copyWords_any (some ⟨gm, om, none⟩) c ms W hsg (by omega)
    rw [hml] at this
    exact this
  have m1 : 1 ≤ ms.length := by omega
  have m2 : ms.length ≤ 16 := by omega
  have HC : Hid (∀ W, Keeps (fun _ => False) w W → Calls Try.prog 16 #[.slice (some ⟨gm, om, none⟩) K c] W fun e w' => e = .returned (.slice (some ⟨W.heap.size, 0, none⟩) K K) ∧ Blk w' W.heap.size (wvs ms) 34 ∧ Keeps (fun _ => False) W w') := hC
  have HW : Hid (∀ W Q, Blk W Q (wvs ms) 34 → Calls Try.prog 21 #[.slice (some ⟨Q, 0, none⟩) K K] W fun e w' => e = .returned (.slice (some ⟨W.heap.size, 0, none⟩) K (K + 70)) ∧ Blk w' W.heap.size (fW (K + 70) (spareW ms)) 34 ∧ Keeps (fun _ => False) W w') := fun W Q hQ => handW_any (some ⟨Q, 0, none⟩) K K ms W (segW_of_blk hQ) hml.symm (by omega)
  have HKp : Hid (∀ W B Q, Blk W B (fW (K + 70) (spareW ms)) 34 → Blk W Q (wvs ms) 34 → Calls Try.prog 22 #[.slice (some ⟨B, 0, none⟩) K (K + 70), .slice (some ⟨Q, 0, none⟩) K K] W fun e w' => e = .returned (.bool true) ∧ w' = W) := fun W B Q hB hQ => keptW_any B (some ⟨Q, 0, none⟩) K K ms W hB (segW_of_blk hQ) hml.symm (by omega)
  have hhead : ∀ W B, Blk W B (fW (K + 70) (spareW ms)) 34 → SegW W (some ⟨B, 0, none⟩) ms := fun W B hB => by
    refine .inr ⟨B, 0, rfl, fun i hi => ?_⟩
    have := hB.cell (fW_get (spareW ms) (i := i) (by omega))
    rw [Nat.zero_add, this]
    simp [spareW, hi]
  have HPt : Hid (∀ W B, Mm W b g ks0 → Blk W B (fW (K + 70) (spareW ms)) 34 → Calls Try.prog 17 #[.pointer (some ⟨b, 0, none⟩), .int .i64 0, .int .i64 16, .slice (some ⟨B, 0, none⟩) K (K + 70)] W fun e w' => e = .returned (.int .i64 0) ∧ Mm w' b g (ks1 ms) ∧ Keeps (· = g) W w') := fun W B hM hB => by
    have := put_any false b g ks0 0 16 (some ⟨B, 0, none⟩) (K + 70) ms W hM (hhead W B hB) (by omega)
    rw [ks_put m1 m2, hml] at this
    exact this
  have HSp : Hid (∀ W B, Blk W B (fW (K + 70) (spareW ms)) 34 → Calls Try.prog 23 #[.slice (some ⟨B, 0, none⟩) K (K + 70), .int .u32 mark] W fun e w' => e = .returned (.tuple #[]) ∧ Keeps (· = B) W w') := fun W B hB => spoilWords_any B K (K + 70) _ mark W (by rw [← fW_fU]; exact hB) (by omega) (by omega) (by omega)
  have HI : Hid (∀ W, Calls Try.prog 24 #[.slice (some ⟨W.heap.size, 0, none⟩) 2 2] (W.alloc (.cells #[.int .i64 20, .int .i64 40] 3)) fun e w' => ∃ P, W.heap.size ≤ P ∧ e = .returned (.slice (some ⟨P, 0, none⟩) 2 72) ∧ Blk w' P (fI 72 (spareI [20, 40])) 3 ∧ Keeps (fun _ => False) W w') := fun W => by
    have k : Keeps (fun _ => False) W (W.alloc (.cells #[.int .i64 20, .int .i64 40] 3)) := (Keeps.refl _ W).alloc _
    have hB : Blk (W.alloc (.cells #[.int .i64 20, .int .i64 40] 3)) W.heap.size (ivs [20, 40]) 3 := Blk.new W #[.int .i64 20, .int .i64 40] 3
    have := handI_any (some ⟨W.heap.size, 0, none⟩) 2 2 [20, 40] _ (.inr ⟨W.heap.size, 0, rfl, fun j hj => by
      have := hB.cell (i := j) (v := .int .i64 ([20, 40][j]'hj)) (by unfold ivs; rw [List.getElem?_map, List.getElem?_eq_getElem hj]; rfl)
      rw [Nat.zero_add]; exact this⟩) rfl (by omega)
    exact this.mono fun e w' ⟨q1, q2, q3⟩ => ⟨_, k.size, q1, q2, k.trans q3 fun _ _ e => e⟩
  have hIh : ∀ W P, Blk W P (fI 72 (spareI [20, 40])) 3 → SegI W (some ⟨P, 0, none⟩) [20, 40] := fun W P hB => by
    refine .inr ⟨P, 0, rfl, fun i hi => ?_⟩
    have hi2 : i < 2 := hi
    have := hB.cell (fI_get (spareI [20, 40]) (i := i) (by omega))
    rw [Nat.zero_add, this]
    have h01 : i = 0 ∨ i = 1 := by omega
    rcases h01 with rfl | rfl <;> rfl
  have HDl : Hid (∀ W P, Mm W b g (ks1 ms) → Blk W P (fI 72 (spareI [20, 40])) 3 → Calls Try.prog 15 #[.pointer (some ⟨b, 0, none⟩), .int .i64 0, .int .i64 16, .slice (some ⟨P, 0, none⟩) 2 72] W fun e w' => e = .returned (.int .i64 0) ∧ Mm w' b g (ks2 ms) ∧ Keeps (· = g) W w') := fun W P hM hB => by
    have := deliver_any false b g (ks1 ms) 0 16 (some ⟨P, 0, none⟩) 72 [20, 40] W hM (hIh W P hB) (by omega) (by intro q hq; simp at hq; omega)
    rw [ks_deliver m1 m2] at this
    exact this
  have HIk : Hid (∀ W P, Blk W P (fI 72 (spareI [20, 40])) 3 → Calls Try.prog 25 #[.slice (some ⟨P, 0, none⟩) 2 72, .slice (some ⟨W.heap.size, 0, none⟩) 2 2] (W.alloc (.cells #[.int .i64 20, .int .i64 40] 3)) fun e w' => e = .returned (.bool true) ∧ Keeps (fun _ => False) W w') := fun W P hP => by
    have k : Keeps (fun _ => False) W (W.alloc (.cells #[.int .i64 20, .int .i64 40] 3)) := (Keeps.refl _ W).alloc _
    have hB : Blk (W.alloc (.cells #[.int .i64 20, .int .i64 40] 3)) W.heap.size (ivs [20, 40]) 3 := Blk.new W #[.int .i64 20, .int .i64 40] 3
    have := keptI_any P (some ⟨W.heap.size, 0, none⟩) 2 2 [20, 40] _ (hP.kept k fun e => e) (.inr ⟨W.heap.size, 0, rfl, fun j hj => by
      have := hB.cell (i := j) (v := .int .i64 ([20, 40][j]'hj)) (by unfold ivs; rw [List.getElem?_map, List.getElem?_eq_getElem hj]; rfl)
      rw [Nat.zero_add]; exact this⟩) rfl (by omega)
    refine this.mono ?_
    rintro e w' ⟨q1, rfl⟩
    exact ⟨q1, k⟩
  obtain ⟨F, hF⟩ : ∃ F, F = rdF false (ks2 ms) 20 16 := ⟨_, rfl⟩
  have HRd : Hid (∀ W, Mm W b g (ks2 ms) → Calls Try.prog 26 #[.pointer (some ⟨b, 0, none⟩), .int .i64 20, .int .i64 16] W fun e w' => ∃ G, W.heap.size ≤ G ∧ e = .returned (.tuple #[.slice (some ⟨G, 0, none⟩) K K, .bool F, .bool true, .int .i64 0]) ∧ Blk w' G (wvs ms) 34 ∧ Keeps (fun _ => False) W w') := fun W hM => by
    have := read_any false b g (ks2 ms) 20 16 W hM (by omega)
    obtain ⟨q1, q2, q3⟩ := ks_read m1 m2
    rw [q1, q2, q3, ← hF] at this
    refine this.mono ?_
    rintro e w' ⟨v, rfl, hv, hk⟩
    rcases hv with ⟨h, _⟩ | ⟨G, hG, rfl, hGB⟩
    · exact absurd h (ks_ne m1 m2)
    · exact ⟨G, hG, by rw [hml], hGB, hk⟩
  have HSm : Hid (∀ W G Q, Blk W G (wvs ms) 34 → Blk W Q (wvs ms) 34 → Calls Try.prog 13 #[.slice (some ⟨G, 0, none⟩) K K, .slice (some ⟨Q, 0, none⟩) K K] W fun e w' => e = .returned (.bool true) ∧ Keeps (fun _ => False) W w') := fun W G Q hG hQ => by
    have := same_any (some ⟨G, 0, none⟩) (some ⟨Q, 0, none⟩) K K ms W (segW_of_blk hG) (segW_of_blk hQ) (by omega)
    rw [hml] at this
    exact this
  have HSq : Hid (∀ W G (z : Int), Blk W G (wvs ms) 34 → Calls Try.prog 23 #[.slice (some ⟨G, 0, none⟩) K K, .int .u32 z] W fun e w' => e = .returned (.tuple #[]) ∧ Keeps (· = G) W w') := fun W G z hG => by
    rw [wvs_fU, hml] at hG
    exact spoilWords_any G K K _ z W hG (by omega) (by omega) (by omega)
  obtain ⟨L, hL⟩ : ∃ L, L = xs.length := ⟨_, rfl⟩
  rw [← hL] at hK hx0 hl ⊢
  have HG : Hid (g = w.heap.size ∧ b = w.heap.size + 1) := ⟨hg, hb⟩
  have z1 : ¬ (L : Int) = 0 := by omega
  have z2 : ((L : Int) == 0) = false := beq_eq_false_iff_ne.2 z1
  have z3 : (L : Int) ≤ c := by omega
  have z4 : (c : Int) ≤ 9223372036854775807 := by have := hl.2; unfold maxLen at this; omega
  have z5 : min (L : Int) 16 = (K : Int) := by omega
  have z6 : (K : Int) ≤ c := by omega
  have z7 : (K : Int) ≤ 16 := by omega
  have z8 : (if (16 : Int) < (L : Int) then (16 : Int) else (L : Int)) = (K : Int) := by split <;> omega
  have HZ : Hid (K = min L 16) := hK
  clear hg hb hcm hms hml hC m1 m2 hhead hIh hF hL hK hx0 hl h0
  go_enter Try.func6, Try.ntmps6
  go_wp2_with fail
  refine HN.out.mono ?_
  rintro e w1 ⟨rfl, hM1, hk1⟩
  have HC1 : Hid (Calls _ _ _ _ _) := HC.out w1 hk1
  have H1 : Hid (Mm w1 b g ks0 ∧ Keeps (fun _ => False) w w1) := ⟨hM1, hk1⟩
  clear hM1 hk1 HN HC
  go_wp2_with fail
  refine HC1.out.mono ?_
  rintro e w2 ⟨rfl, hB2, hk2⟩
  obtain ⟨Q, hQ⟩ : ∃ Q, Q = w1.heap.size := ⟨_, rfl⟩
  rw [← hQ] at hB2 ⊢
  have hwsz : w.heap.size < w1.heap.size := by have := H1.out.1.row.lt; have := HG.out.1; omega
  have H2 : Hid (Kp w w2 b g Q ks0 ms ∧ w.heap.size ≤ Q ∧ Q ≠ b) := by
    have := H1.out.1.row.lt
    have := H1.out.1.blk.lt
    have := HG.out
    exact ⟨⟨H1.out.1.kept hk2 (fun e => e) (fun e => e), hB2, H1.out.2.trans hk2 (fun _ _ e => e), by omega, by omega⟩, by omega, by omega⟩
  have HW2 : Hid (Calls _ _ _ _ _) := HW.out w2 Q hB2
  clear hB2 hk2 hQ HC1 H1 HW hwsz
  go_wp2_with fail
  refine HW2.out.mono ?_
  rintro e w3 ⟨rfl, hB3, hk3⟩
  obtain ⟨B, hB⟩ : ∃ Q, Q = w2.heap.size := ⟨_, rfl⟩
  rw [← hB] at hB3 ⊢
  have H3 : Hid (Kp w w3 b g Q ks0 ms ∧ Blk w3 B (fW (K + 70) (spareW ms)) 34 ∧ w.heap.size ≤ B ∧ B ≠ b ∧ B ≠ g ∧ B ≠ Q) := by
    have := H2.out.1.mm.row.lt
    have := H2.out.1.mm.blk.lt
    have := H2.out.1.wt.lt
    have := H2.out.1.k.size
    exact ⟨H2.out.1.grown hk3, hB3, by omega, by omega, by omega, by omega⟩
  have HP3 : Hid (Calls _ _ _ _ _) := HPt.out w3 B H3.out.1.mm hB3
  clear hB3 hk3 hB HW2 H2 HPt
  go_wp2_with fail
  refine HP3.out.mono ?_
  rintro e w4 ⟨rfl, hM4, hk4⟩
  have H4 : Hid (Kp w w4 b g Q (ks1 ms) ms ∧ Blk w4 B (fW (K + 70) (spareW ms)) 34 ∧ w.heap.size ≤ B ∧ B ≠ b ∧ B ≠ g ∧ B ≠ Q) := ⟨H3.out.1.wrote hM4 hk4, H3.out.2.1.kept hk4 H3.out.2.2.2.2.1, H3.out.2.2⟩
  have HK4 : Hid (Calls _ _ _ _ _) := HKp.out w4 B Q H4.out.2.1 H4.out.1.wt
  clear hM4 hk4 HP3 H3 HKp
  go_wp2_with fail
  refine HK4.out.mono ?_
  rintro e w5 ⟨rfl, hw5⟩
  obtain rfl := hw5.symm
  have HS4 : Hid (Calls _ _ _ _ _) := HSp.out w4 B H4.out.2.1
  clear hw5 HK4 HSp
  go_wp2_with fail
  refine HS4.out.mono ?_
  rintro e w5 ⟨rfl, hk5⟩
  have H5 : Hid (Kp w w5 b g Q (ks1 ms) ms) := H4.out.1.spoilt hk5 H4.out.2.2.1 H4.out.2.2.2.1 H4.out.2.2.2.2.1 H4.out.2.2.2.2.2
  have HI5 : Hid (Calls _ _ _ _ _) := HI.out w5
  clear hk5 HS4 H4 HI
  go_wp2_with fail
  refine HI5.out.mono ?_
  rintro e w6 ⟨P, hP, rfl, hPB, hk6⟩
  have H6 : Hid (Kp w w6 b g Q (ks1 ms) ms ∧ Blk w6 P (fI 72 (spareI [20, 40])) 3 ∧ P ≠ g) := ⟨H5.out.grown hk6, hPB, by have := H5.out.mm.row.lt; omega⟩
  have HD6 : Hid (Calls _ _ _ _ _) := HDl.out w6 P H6.out.1.mm hPB
  clear hP hPB hk6 HI5 H5 HDl
  go_wp2_with fail
  refine HD6.out.mono ?_
  rintro e w7 ⟨rfl, hM7, hk7⟩
  have H7 : Hid (Kp w w7 b g Q (ks2 ms) ms) := H6.out.1.wrote hM7 hk7
  have HI7 : Hid (Calls _ _ _ _ _) := HIk.out w7 P (H6.out.2.1.kept hk7 H6.out.2.2)
  clear hM7 hk7 HD6 H6 HIk
  go_wp2_with fail
  refine HI7.out.mono ?_
  rintro e w8 ⟨rfl, hk8⟩
  have H8 : Hid (Kp w w8 b g Q (ks2 ms) ms) := H7.out.grown hk8
  have HR8 : Hid (Calls _ _ _ _ _) := HRd.out w8 H8.out.mm
  clear hk8 HI7 H7
  go_wp2_with fail
  refine HR8.out.mono ?_
  rintro e w9 ⟨Ga, hGa, rfl, hGaB, hk9⟩
  have H9 : Hid (Kp w w9 b g Q (ks2 ms) ms ∧ Blk w9 Ga (wvs ms) 34 ∧ w.heap.size ≤ Ga ∧ Ga ≠ b ∧ Ga ≠ g ∧ Ga ≠ Q) := by
    have := H8.out.mm.row.lt
    have := H8.out.mm.blk.lt
    have := H8.out.wt.lt
    have := H8.out.k.size
    exact ⟨H8.out.grown hk9, hGaB, by omega, by omega, by omega, by omega⟩
  have HR9 : Hid (Calls _ _ _ _ _) := HRd.out w9 H9.out.1.mm
  clear hGa hGaB hk9 HR8 H8
  go_wp2_with fail
  refine HR9.out.mono ?_
  rintro e w10 ⟨Gb, hGb, rfl, hGbB, hk10⟩
  have H10 : Hid (Kp w w10 b g Q (ks2 ms) ms ∧ Blk w10 Ga (wvs ms) 34 ∧ (w.heap.size ≤ Ga ∧ Ga ≠ b ∧ Ga ≠ g ∧ Ga ≠ Q) ∧ Blk w10 Gb (wvs ms) 34 ∧ Gb ≠ Ga) := ⟨H9.out.1.grown hk10, H9.out.2.1.kept hk10 fun e => e, H9.out.2.2, hGbB, by have := H9.out.2.1.lt; omega⟩
  have HS10 : Hid (Calls _ _ _ _ _) := HSm.out w10 Ga Q H10.out.2.1 H10.out.1.wt
  clear hGb hGbB hk10 HR9 H9
  go_wp2_with fail
  refine HS10.out.mono ?_
  rintro e w11 ⟨rfl, hk11⟩
  have H11 : Hid (Kp w w11 b g Q (ks2 ms) ms ∧ Blk w11 Ga (wvs ms) 34 ∧ (w.heap.size ≤ Ga ∧ Ga ≠ b ∧ Ga ≠ g ∧ Ga ≠ Q) ∧ Blk w11 Gb (wvs ms) 34 ∧ Gb ≠ Ga) := ⟨H10.out.1.grown hk11, H10.out.2.1.kept hk11 fun e => e, H10.out.2.2.1, H10.out.2.2.2.1.kept hk11 fun e => e, H10.out.2.2.2.2⟩
  have HS11 : Hid (∀ z : Int, Calls _ _ _ _ _) := fun z => HSq.out w11 Ga z H11.out.2.1
  clear hk11 HS10 H10 HSq
  go_wp2_with fail
  refine (HS11.out _).mono ?_
  rintro e w12 ⟨rfl, hk12⟩
  have H12 : Hid (Kp w w12 b g Q (ks2 ms) ms ∧ Blk w12 Gb (wvs ms) 34) := ⟨H11.out.1.spoilt hk12 H11.out.2.2.1.1 H11.out.2.2.1.2.1 H11.out.2.2.1.2.2.1 H11.out.2.2.1.2.2.2, H11.out.2.2.2.1.kept hk12 H11.out.2.2.2.2⟩
  have HR12 : Hid (Calls _ _ _ _ _) := HRd.out w12 H12.out.1.mm
  clear hk12 HS11 H11
  go_wp2_with fail
  refine HR12.out.mono ?_
  rintro e w13 ⟨Gc, hGc, rfl, hGcB, hk13⟩
  have H13 : Hid (Kp w w13 b g Q (ks2 ms) ms ∧ Blk w13 Gb (wvs ms) 34 ∧ Blk w13 Gc (wvs ms) 34) := ⟨H12.out.1.grown hk13, H12.out.2.kept hk13 fun e => e, hGcB⟩
  have HS13 : Hid (Calls _ _ _ _ _) := HSm.out w13 Gb Q H13.out.2.1 H13.out.1.wt
  clear hGc hGcB hk13 HR12 H12 HRd
  go_wp2_with fail
  refine HS13.out.mono ?_
  rintro e w14 ⟨rfl, hk14⟩
  have H14 : Hid (Kp w w14 b g Q (ks2 ms) ms ∧ Blk w14 Gc (wvs ms) 34) := ⟨H13.out.1.grown hk14, H13.out.2.2.kept hk14 fun e => e⟩
  have HS14 : Hid (Calls _ _ _ _ _) := HSm.out w14 Gc Q H14.out.2 H14.out.1.wt
  clear hk14 HS13 H13 HSm
  go_wp2_with fail
  refine HS14.out.mono ?_
  rintro e w15 ⟨rfl, hk15⟩
  have HK15 : Hid (Keeps (fun _ => False) w w15) := H14.out.1.k.trans hk15 fun _ _ e => e
  clear hk15 HS14 H14
  go_wp2
  go_ret
  exact ⟨rfl, HK15.out⟩

theorem sampleKeeps_any (a : Option Addr) (c : Nat) (xs : List UInt32) (mark : Int) (w : World) (hs : SegW w a xs) (hl : xs.length ≤ c ∧ c ≤ maxLen) :
    Calls Try.prog 6 #[.slice a xs.length c, .int .u32 mark] w fun e w' => e = .returned (.bool true) ∧ Keeps (fun _ => False) w w' := by
  by_cases h0 : xs = []
  · rw [h0]; exact keeps_none a c mark w
  · exact keeps_some a c xs mark w hs hl h0

end Go.Proofs.Ytfcgpjojjehkiaa
