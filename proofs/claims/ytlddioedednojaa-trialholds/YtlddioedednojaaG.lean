import Derived.Test.YtlddioedednojaaF
import Derived.Deep.CutBlock
import Derived.Deep.CutRange
namespace Go.Proofs.Ytlddioedednojaa
open Go.RowKit Go.Shelf
set_option linter.unusedVariables false
set_option linter.unusedSimpArgs false
set_option maxRecDepth 6000

theorem rhold_l (a b : Option Addr) (A B : List Sn) (ca cb : Nat) (w : World) (n m K : Nat) (D : Bool) (hn : n = A.length) (hm : m = B.length) (hK : K = cp A B) (hD : D = decide (K = min n m)) (hA : ∀ s ∈ A, s.Fine) (hB : ∀ s ∈ B, s.Fine) (hla : A.length ≤ ca ∧ ca ≤ maxLen) (hlb : B.length ≤ cb ∧ cb ≤ maxLen) (ha : SegS w a A) (hb : SegS w b B) :
    Calls Try.prog 4 #[.slice a n ca, .slice b m cb] w fun r w' => r = .returned (vd D K n m) ∧ Keeps (fun _ => False) w w' := by
  subst hn hm hK hD
  exact rhold_any a b A B ca cb w hA hB hla hlb ha hb
theorem hold_l (a b : Option Addr) (A B : List Sn) (ca cb : Nat) (w : World) (n m K : Nat) (D : Bool) (hn : n = A.length) (hm : m = B.length) (hK : K = cp A B) (hD : D = decide (K = min n m)) (hA : ∀ s ∈ A, s.Fine) (hB : ∀ s ∈ B, s.Fine) (hla : A.length ≤ ca ∧ ca ≤ maxLen) (hlb : B.length ≤ cb ∧ cb ≤ maxLen) (ha : SegS w a A) (hb : SegS w b B) :
    Calls Try.prog 6 #[.slice a n ca, .slice b m cb] w fun r w' => r = .returned (vd D K n m) ∧ Keeps (fun _ => False) w w' := by
  subst hn hm hK hD
  exact hold_any a b A B ca cb w hA hB hla hlb ha hb
theorem copied_l (a : Option Addr) (A : List Sn) (ca : Nat) (w : World) (n : Nat) (hn : n = A.length) (hA : ∀ s ∈ A, s.Fine) (hla : A.length ≤ ca ∧ ca ≤ maxLen) (ha : SegS w a A) (hb : A.length ≤ 2147483647) :
    Calls Try.prog 5 #[.slice a n ca] w fun r w' => ∃ a' c, r = .returned (.slice a' n c) ∧ Cpy w A a' c w' := by
  subst hn
  exact copied_any a A ca w hA hla ha hb
theorem same_l (a b : Option Addr) (A : List Sn) (ca cb : Nat) (w : World) (n : Nat) (hn : n = A.length) (hA : ∀ s ∈ A, s.Fine) (hla : A.length ≤ ca ∧ ca ≤ maxLen) (hlb : A.length ≤ cb ∧ cb ≤ maxLen) (ha : SegS w a A) (hb : SegS w b A) :
    Calls Try.prog 7 #[.slice a n ca, .slice b n cb] w fun r w' => r = .returned (.bool true) ∧ Keeps (fun _ => False) w w' := by
  subst hn
  refine (same_any a b A A ca cb w hA hA hla hlb ha hb).mono ?_
  rintro r w1 ⟨rfl, h⟩
  exact ⟨by simp, h⟩
theorem Cpy.kept {w : World} {A : List Sn} {a' : Option Addr} {c : Nat} {w' w'' : World} (h : Cpy w A a' c w') (hK : Keeps (fun _ => False) w' w'') : Cpy w A a' c w'' :=
  ⟨h.le, h.emp, fun e => by
    obtain ⟨g, t, e1, e2, e3⟩ := h.lies e
    exact ⟨g, t, e1, e2.kept hK fun h => h, e3⟩, h.keeps.trans hK fun _ _ h => h⟩
/-- A new verdict. -/
theorem new_vd {w w1 : World} (h : Keeps (fun _ => False) w w1) (s : Bool) (a b c : Int) : Keeps (fun _ => False) w (w1.alloc (.cells #[.bool s, .int .i64 a, .int .i64 b, .int .i64 c] 24)) ∧ Blk (w1.alloc (.cells #[.bool s, .int .i64 a, .int .i64 b, .int .i64 c] 24)) w1.heap.size (vds s a b c) 24 :=
  ⟨h.alloc _, Blk.new w1 _ 24⟩

set_option maxHeartbeats 2000000 in
theorem holds_any (a b : Option Addr) (A B : List Sn) (ca cb : Nat) (w : World) (hA : ∀ s ∈ A, s.Fine) (hB : ∀ s ∈ B, s.Fine) (hla : A.length ≤ ca ∧ ca ≤ maxLen) (hlb : B.length ≤ cb ∧ cb ≤ maxLen) (ha : SegS w a A) (hb : SegS w b B) :
    Calls Try.prog 3 #[.slice a A.length ca, .slice b B.length cb] w fun r w' => r = .returned (.bool true) ∧ Keeps (fun _ => False) w w' := by
  have HI : Hid ((∀ s ∈ A, s.Fine) ∧ (∀ s ∈ B, s.Fine) ∧ (A.length ≤ ca ∧ ca ≤ maxLen) ∧ (B.length ≤ cb ∧ cb ≤ maxLen) ∧ SegS w a A ∧ SegS w b B) := ⟨hA, hB, hla, hlb, ha, hb⟩
  obtain ⟨n, hn⟩ : ∃ n, n = A.length := ⟨_, rfl⟩
  obtain ⟨m, hm⟩ : ∃ m, m = B.length := ⟨_, rfl⟩
  obtain ⟨K, hK⟩ : ∃ K, K = cp A B := ⟨_, rfl⟩
  obtain ⟨D, hD⟩ : ∃ D, D = decide (K = min n m) := ⟨_, rfl⟩
  have HN : Hid (n = A.length ∧ m = B.length ∧ K = cp A B ∧ D = decide (K = min n m)) := ⟨hn, hm, hK, hD⟩
  have hc1 : (n : Int) ≤ ca := by omega
  have hc2 : (ca : Int) ≤ 9223372036854775807 := by unfold maxLen at hla; omega
  have hc3 : (m : Int) ≤ cb := by omega
  have hc4 : (cb : Int) ≤ 9223372036854775807 := by unfold maxLen at hlb; omega
  rw [← hn, ← hm]
  clear hla hlb ha hb hn hm hA hB hK hD
  by_cases h1 : n ≤ 2147483647
  · have h1' : ((n : Int) > 2147483647) = False := eq_false (by omega)
    by_cases h2 : m ≤ 2147483647
    · have HB : Hid (n ≤ 2147483647 ∧ m ≤ 2147483647) := ⟨h1, h2⟩
      have g1 : decide (2147483647 < (n : Int)) = false := decide_eq_false (by omega)
      have g2 : decide (2147483647 < (m : Int)) = false := decide_eq_false (by omega)
      clear h1 h2 h1'
      go_enter Try.func3, Try.ntmps3
      go_wp2_with fail
      clear g1 g2
      -- want
      have hK0 : Hid (Keeps (fun _ => False) w w) := Keeps.refl _ w
      refine (rhold_l a b A B ca cb w n m K D HN.out.1 HN.out.2.1 HN.out.2.2.1 HN.out.2.2.2 HI.out.1 HI.out.2.1 HI.out.2.2.1 HI.out.2.2.2.1 HI.out.2.2.2.2.1 HI.out.2.2.2.2.2).mono ?_
      rintro r w1 ⟨rfl, hK1⟩
      have H1 : Hid (_ ∧ _) := new_vd hK1 D K n m
      clear hK1
      go_wp2_with fail
      generalize w1.alloc (.cells #[.bool D, .int .i64 K, .int .i64 n, .int .i64 m] 24) = W1 at H1 ⊢
      have H1k : Hid (Keeps (fun _ => False) w W1) := H1.out.1
      generalize w1.heap.size = p5 at H1 ⊢
      -- x
      refine (copied_l a A ca W1 n HN.out.1 HI.out.1 HI.out.2.2.1 (HI.out.2.2.2.2.1.kept H1.out.1 fun _ _ h => h) (by have := HB.out.1; have := HN.out.1; omega)).mono ?_
      rintro r w2 ⟨x, cx, rfl, hX⟩
      have HX : Hid (Cpy W1 A x cx w2) := hX
      have hxc : (n : Int) ≤ cx := by have := hX.le; have := HN.out.1; omega
      have hxm : (cx : Int) ≤ 9223372036854775807 := by have := hX.le; unfold maxLen at this; omega
      have HXL : Hid (∀ u, x = some u → u.block < w2.heap.size) := by
        intro u hu
        by_cases e : A = []
        · rw [hX.emp e] at hu; cases hu
        · obtain ⟨g, t, e1, e2, _⟩ := hX.lies e
          rw [e1] at hu; cases hu; exact e2.lt
      have H2 : Hid (Keeps (fun _ => False) w w2 ∧ Blk w2 p5 (vds D K n m) 24) := ⟨H1.out.1.trans hX.keeps fun _ _ h => h, H1.out.2.kept hX.keeps fun h => h⟩
      clear hX
      go_wp2_with fail
      -- y
      refine (copied_l b B cb w2 m HN.out.2.1 HI.out.2.1 HI.out.2.2.2.1 (HI.out.2.2.2.2.2.kept H2.out.1 fun _ _ h => h) (by have := HB.out.2; have := HN.out.2.1; omega)).mono ?_
      rintro r w3 ⟨y, cy, rfl, hY⟩
      have HY : Hid (Cpy w2 B y cy w3) := hY
      have hyc : (m : Int) ≤ cy := by have := hY.le; have := HN.out.2.1; omega
      have hym : (cy : Int) ≤ 9223372036854775807 := by have := hY.le; unfold maxLen at this; omega
      have HX3 : Hid (Cpy W1 A x cx w3) := HX.out.kept hY.keeps
      have H3 : Hid (Keeps (fun _ => False) w w3 ∧ Blk w3 p5 (vds D K n m) 24) := ⟨H2.out.1.trans hY.keeps fun _ _ h => h, H2.out.2.kept hY.keeps fun h => h⟩
      clear hY
      go_wp2_with fail
      -- v
      refine (hold_l x y A B cx cy w3 n m K D HN.out.1 HN.out.2.1 HN.out.2.2.1 HN.out.2.2.2 HI.out.1 HI.out.2.1 HX3.out.le HY.out.le (HX3.out.seg HI.out.1) (HY.out.seg HI.out.2.1)).mono ?_
      rintro r w4 ⟨rfl, hK4⟩
      have H4 : Hid (_ ∧ _) := new_vd hK4 D K n m
      clear hK4
      go_wp2_with fail
      generalize w4.alloc (.cells #[.bool D, .int .i64 K, .int .i64 n, .int .i64 m] 24) = W4 at H4 ⊢
      generalize w4.heap.size = p8 at H4 ⊢
      have HX4 : Hid (Cpy W1 A x cx W4 ∧ Cpy w2 B y cy W4 ∧ Keeps (fun _ => False) w W4 ∧ Blk W4 p5 (vds D K n m) 24) := ⟨HX3.out.kept H4.out.1, HY.out.kept H4.out.1, H3.out.1.trans H4.out.1 fun _ _ h => h, H3.out.2.kept H4.out.1 fun h => h⟩
      -- w
      refine (hold_l y x B A cy cx W4 m n K D HN.out.2.1 HN.out.1 (by rw [cp_comm]; exact HN.out.2.2.1) (by rw [Nat.min_comm]; exact HN.out.2.2.2) HI.out.2.1 HI.out.1 HX4.out.2.1.le HX4.out.1.le (HX4.out.2.1.seg HI.out.2.1) (HX4.out.1.seg HI.out.1)).mono ?_
      rintro r w5 ⟨rfl, hK5⟩
      have H5 : Hid (_ ∧ _) := new_vd hK5 D K m n
      clear hK5
      go_wp2_with fail
      generalize w5.alloc (.cells #[.bool D, .int .i64 K, .int .i64 m, .int .i64 n] 24) = W5 at H5 ⊢
      generalize w5.heap.size = p9 at H5 ⊢
      have HX5 : Hid (Cpy W1 A x cx W5 ∧ Cpy w2 B y cy W5 ∧ Keeps (fun _ => False) w W5 ∧ Blk W5 p5 (vds D K n m) 24 ∧ Blk W5 p8 (vds D K n m) 24) := ⟨HX4.out.1.kept H5.out.1, HX4.out.2.1.kept H5.out.1, HX4.out.2.2.1.trans H5.out.1 fun _ _ h => h, HX4.out.2.2.2.kept H5.out.1 fun h => h, H4.out.2.kept H5.out.1 fun h => h⟩
      -- u
      refine (hold_l x y A B cx cy W5 n m K D HN.out.1 HN.out.2.1 HN.out.2.2.1 HN.out.2.2.2 HI.out.1 HI.out.2.1 HX5.out.1.le HX5.out.2.1.le (HX5.out.1.seg HI.out.1) (HX5.out.2.1.seg HI.out.2.1)).mono ?_
      rintro r w6 ⟨rfl, hK6⟩
      have H6 : Hid (_ ∧ _) := new_vd hK6 D K n m
      clear hK6
      go_upto_region 9 with fail
      generalize w6.alloc (.cells #[.bool D, .int .i64 K, .int .i64 n, .int .i64 m] 24) = W6 at H6 ⊢
      generalize w6.heap.size = p10 at H6 ⊢
      have HX6 : Hid (Cpy W1 A x cx W6 ∧ Cpy w2 B y cy W6 ∧ Keeps (fun _ => False) w W6 ∧ Blk W6 p5 (vds D K n m) 24 ∧ Blk W6 p8 (vds D K n m) 24 ∧ Blk W6 p9 (vds D K m n) 24 ∧ Blk W6 p10 (vds D K n m) 24) := ⟨HX5.out.1.kept H6.out.1, HX5.out.2.1.kept H6.out.1, HX5.out.2.2.1.trans H6.out.1 fun _ _ h => h, HX5.out.2.2.2.1.kept H6.out.1 fun h => h, HX5.out.2.2.2.2.kept H6.out.1 fun h => h, H5.out.2.kept H6.out.1 fun h => h, H6.out.2⟩
      clear H1 HX H2 HY HX3 H3 H4 HX4 H5 HX5 H6
      have a0 := HX6.out.2.2.2.1.cell (i := 0) rfl
      have a1 := HX6.out.2.2.2.1.cell (i := 1) rfl
      have a2 := HX6.out.2.2.2.1.cell (i := 2) rfl
      have a3 := HX6.out.2.2.2.1.cell (i := 3) rfl
      have b0 := HX6.out.2.2.2.2.1.cell (i := 0) rfl
      have b1 := HX6.out.2.2.2.2.1.cell (i := 1) rfl
      have b2 := HX6.out.2.2.2.2.1.cell (i := 2) rfl
      have b3 := HX6.out.2.2.2.2.1.cell (i := 3) rfl
      have d0 := HX6.out.2.2.2.2.2.1.cell (i := 0) rfl
      have d1 := HX6.out.2.2.2.2.2.1.cell (i := 1) rfl
      have d2 := HX6.out.2.2.2.2.2.1.cell (i := 2) rfl
      have d3 := HX6.out.2.2.2.2.2.1.cell (i := 3) rfl
      have e0 := HX6.out.2.2.2.2.2.2.cell (i := 0) rfl
      have e1 := HX6.out.2.2.2.2.2.2.cell (i := 1) rfl
      have e2 := HX6.out.2.2.2.2.2.2.cell (i := 2) rfl
      have e3 := HX6.out.2.2.2.2.2.2.cell (i := 3) rfl
      have q := neq_vd D K n m
      go_wp2_with fail
      clear a0 a1 a2 a3 b0 b1 b2 b3 d0 d1 d2 d3 e0 e1 e2 e3
      refine (same_l x a A cx ca W6 n HN.out.1 HI.out.1 HX6.out.1.le HI.out.2.2.1 (HX6.out.1.seg HI.out.1) (HI.out.2.2.2.2.1.kept HX6.out.2.2.1 fun _ _ h => h)).mono ?_
      rintro r w7 ⟨rfl, hK7⟩
      have H7 : Hid (Keeps (fun _ => False) W6 w7) := hK7
      clear hK7
      go_wp2_with fail
      refine (same_l y b B cy cb w7 m HN.out.2.1 HI.out.2.1 HX6.out.2.1.le HI.out.2.2.2.1 ((HX6.out.2.1.seg HI.out.2.1).kept H7.out fun _ _ h => h) ((HI.out.2.2.2.2.2.kept HX6.out.2.2.1 fun _ _ h => h).kept H7.out fun _ _ h => h)).mono ?_
      rintro r w8 ⟨rfl, hK8⟩
      have H8 : Hid (Keeps (fun _ => False) W6 w8) := H7.out.trans hK8 fun _ _ h => h
      have HX8 : Hid (Cpy W1 A x cx w8 ∧ Cpy w2 B y cy w8 ∧ Keeps (fun _ => False) w w8) := ⟨HX6.out.1.kept H8.out, HX6.out.2.1.kept H8.out, HX6.out.2.2.1.trans H8.out fun _ _ h => h⟩
      clear hK8 H7 H8
      by_cases h0 : n = 0
      · subst h0
        go_wp2
        go_ret
        exact ⟨rfl, HX8.out.2.2⟩
      · have hAne : A ≠ [] := fun e => h0 (by rw [HN.out.1, e]; rfl)
        obtain ⟨g, t, rfl, hBx, hgl⟩ := HX8.out.1.lies hAne
        obtain ⟨s, r, rfl⟩ : ∃ s r, A = s :: r := by
          cases A with
          | nil => exact absurd rfl hAne
          | cons s r => exact ⟨s, r, rfl⟩
        obtain ⟨s', hs'⟩ : ∃ s' : Sn, s' = { s with pc := s.pc + 1 } := ⟨_, rfl⟩
        have hsF := HI.out.1 s (List.mem_cons_self ..)
        have hA' : ∀ u ∈ s' :: r, u.Fine := by
          intro u hu
          rcases List.mem_cons.1 hu with rfl | hu
          · rw [hs']; exact ⟨hsF.p, hsF.e, hsF.c, hsF.tr, hsF.len⟩
          · exact HI.out.1 u (List.mem_cons_of_mem _ hu)
        have c3 : w8.cell? ⟨g, 3, none⟩ = some (.int .u32 (s.pc.toNat : Int)) := hBx.cell rfl
        have f3 := hBx.frozen 3
        obtain ⟨N, hNn⟩ : ∃ N : Int, N = (s.pc.toNat : Int) := ⟨_, rfl⟩
        obtain ⟨M, hMn⟩ : ∃ M : Int, M = (s'.pc.toNat : Int) := ⟨_, rfl⟩
        have hM : (N + 1) % 4294967296 = M := by
          rw [hMn, hNn, hs']
          show _ = ((s.pc + 1).toNat : Int)
          rw [UInt32.toNat_add]
          simp
        have hgy : ∀ u, y = some u → u.block ≠ g := by
          intro u hu
          by_cases e : B = []
          · rw [HX8.out.2.1.emp e] at hu; cases hu
          · obtain ⟨gy, ty, e1, e2, e3⟩ := HX8.out.2.1.lies e
            rw [e1] at hu; cases hu
            have := HXL.out _ rfl
            show gy ≠ g
            simp only at this
            omega
        have hgw : g < w.heap.size → False := fun h => by have := H1k.out.size; omega
        have hB2 : Blk (w8.setCell ⟨g, 3, none⟩ (.int .u32 M)) g (flatS (s' :: r) ++ t) 33 := by
          have h := hBx.setCell 3 (.int .u32 M)
          rw [hMn] at h ⊢
          rw [hs'] at h ⊢
          exact h
        have h0' : ((n : Int) == 0) = false := by simp; omega
        have hnpos : (0 : Int) < n := by omega
        have hn' : n = (s' :: r).length := by have := HN.out.1; simpa using this
        obtain ⟨K2, hK2⟩ : ∃ K2, K2 = cp (s' :: r) B := ⟨_, rfl⟩
        obtain ⟨D2, hD2⟩ : ∃ D2, D2 = decide (K2 = min n m) := ⟨_, rfl⟩
        have hKs : Keeps (fun k => k = g) w8 (w8.setCell ⟨g, 3, none⟩ (.int .u32 M)) := (Keeps.refl _ w8).setCell _ _ fun _ => rfl
        have HZ : Hid (Blk (w8.setCell ⟨g, 3, none⟩ (.int .u32 M)) g (flatS (s' :: r) ++ t) 33 ∧ SegS (w8.setCell ⟨g, 3, none⟩ (.int .u32 M)) y B ∧ Keeps (fun _ => False) w (w8.setCell ⟨g, 3, none⟩ (.int .u32 M)) ∧
            (∀ u ∈ s' :: r, u.Fine) ∧ n = (s' :: r).length ∧ K2 = cp (s' :: r) B ∧ D2 = decide (K2 = min n m)) :=
          ⟨hB2, (HX8.out.2.1.seg HI.out.2.1).kept hKs hgy, HX8.out.2.2.setCell ⟨g, 3, none⟩ _ hgw, hA', hn', hK2, hD2⟩
        rw [← hNn] at c3
        clear hB2 hBx hgl hsF hs' hA' hNn hMn hgy hgw hKs hn' hK2 hD2 hAne
        go_wp2_with fail
        generalize w8.setCell ⟨g, 3, none⟩ (.int .u32 M) = W9 at HZ ⊢
        refine (copied_l (some ⟨g, 0, none⟩) (s' :: r) cx W9 n HZ.out.2.2.2.2.1 HZ.out.2.2.2.1 (by have := HX8.out.1.le; exact this) (blk_seg HZ.out.2.2.2.1 HZ.out.1) (by have := HB.out.1; have := HZ.out.2.2.2.2.1; omega)).mono ?_
        rintro r10 w10 ⟨z, cz, rfl, hZ⟩
        have HZc : Hid (Cpy W9 (s' :: r) z cz w10) := hZ
        have hzc : (n : Int) ≤ cz := by have := hZ.le; have := HZ.out.2.2.2.2.1; omega
        have hzm : (cz : Int) ≤ 9223372036854775807 := by have := hZ.le; unfold maxLen at this; omega
        clear hZ
        go_wp2_with fail
        refine (rhold_l z b (s' :: r) B cz cb w10 n m K2 D2 HZ.out.2.2.2.2.1 HN.out.2.1 HZ.out.2.2.2.2.2.1 HZ.out.2.2.2.2.2.2 HZ.out.2.2.2.1 HI.out.2.1 HZc.out.le HI.out.2.2.2.1 (HZc.out.seg HZ.out.2.2.2.1) (HI.out.2.2.2.2.2.kept (HZ.out.2.2.1.trans HZc.out.keeps fun _ _ h => h) fun _ _ h => h)).mono ?_
        rintro r11 w11 ⟨rfl, hK11⟩
        have H11 : Hid (_ ∧ _) := new_vd (HZc.out.keeps.trans hK11 fun _ _ h => h) D2 K2 n m
        clear hK11
        go_wp2_with fail
        generalize w11.alloc (.cells #[.bool D2, .int .i64 K2, .int .i64 n, .int .i64 m] 24) = W11 at H11 ⊢
        generalize w11.heap.size = p12 at H11 ⊢
        refine (hold_l (some ⟨g, 0, none⟩) y (s' :: r) B cx cy W11 n m K2 D2 HZ.out.2.2.2.2.1 HN.out.2.1 HZ.out.2.2.2.2.2.1 HZ.out.2.2.2.2.2.2 HZ.out.2.2.2.1 HI.out.2.1 (by have := HX8.out.1.le; exact this) HX8.out.2.1.le (blk_seg HZ.out.2.2.2.1 (HZ.out.1.kept H11.out.1 fun h => h)) (HZ.out.2.1.kept H11.out.1 fun _ _ h => h)).mono ?_
        rintro r12 w12 ⟨rfl, hK12⟩
        have H12 : Hid (_ ∧ _) := new_vd hK12 D2 K2 n m
        clear hK12
        go_upto_region 17 with fail
        generalize w12.alloc (.cells #[.bool D2, .int .i64 K2, .int .i64 n, .int .i64 m] 24) = W12 at H12 ⊢
        generalize w12.heap.size = p13 at H12 ⊢
        have H13 : Hid (Blk W12 p12 (vds D2 K2 n m) 24 ∧ Blk W12 p13 (vds D2 K2 n m) 24 ∧ Keeps (fun _ => False) w W12) := ⟨H11.out.2.kept H12.out.1 fun h => h, H12.out.2, (HZ.out.2.2.1.trans H11.out.1 fun _ _ h => h).trans H12.out.1 fun _ _ h => h⟩
        have a0 := H13.out.1.cell (i := 0) rfl
        have a1 := H13.out.1.cell (i := 1) rfl
        have a2 := H13.out.1.cell (i := 2) rfl
        have a3 := H13.out.1.cell (i := 3) rfl
        have b0 := H13.out.2.1.cell (i := 0) rfl
        have b1 := H13.out.2.1.cell (i := 1) rfl
        have b2 := H13.out.2.1.cell (i := 2) rfl
        have b3 := H13.out.2.1.cell (i := 3) rfl
        have q2 := eql_vd D2 K2 n m
        go_wp2
        go_ret
        exact ⟨rfl, H13.out.2.2⟩
    · have g1 : decide (2147483647 < (n : Int)) = false := decide_eq_false (by omega)
      have g2 : decide (2147483647 < (m : Int)) = true := decide_eq_true (by omega)
      clear h1 h2 h1'
      go_enter Try.func3, Try.ntmps3
      go_wp2
      go_ret
      exact ⟨rfl, Keeps.refl _ _⟩
  · have g1 : decide (2147483647 < (n : Int)) = true := decide_eq_true (by omega)
    clear h1
    go_enter Try.func3, Try.ntmps3
    go_wp2
    go_ret
    exact ⟨rfl, Keeps.refl _ _⟩
end Go.Proofs.Ytlddioedednojaa
