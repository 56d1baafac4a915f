import Derived.Test.YtpccdhoaicabcaaTh
namespace Go.Proofs.Ytpccdhoaicabcaa
open Go.RowKit Go.Shelf
set_option linter.unusedVariables false
set_option linter.unusedSimpArgs false

theorem func_nil48 (w : World) (x y : Value) : (binOp .eql 48 (.func (.func 38) #[] #[x, y]) .nilFunc).run Try.prog w = .ok (.bool false) w := by kernel_rfl
attribute [local go_sem] func_nil48

theorem SegK.lt {w : World} {a : Option Addr} {ks : List Wk} (h : SegK w a ks) (hr : ks ≠ []) : ∀ x, a = some x → x.block < w.heap.size := by
  intro x hx
  rcases h with h | ⟨g, o, ha, hc⟩
  · exact absurd h hr
  · obtain ⟨r, l, hl⟩ : ∃ r l, ks = r :: l := List.exists_cons_of_ne_nil hr
    have := (hc 0 r (by rw [hl]; rfl)).1
    rw [ha] at hx; cases hx
    exact World.block_lt_of_cell? w ⟨g, o + 0 * 2, none⟩ this

set_option maxRecDepth 20000 in
set_option maxHeartbeats 8000000 in
theorem live_any (f root : Int) (a : Option Addr) (ks : List Wk) (c : Nat) (w : World) (hf : I64 f) (hr : I64 root) (hs : SegK w a ks) (hl : ks.length ≤ c ∧ c ≤ maxLen) (hk : ∀ k, k ∈ ks → I64 k.p) :
    Calls Try.prog 6 #[.int .i64 f, .int .i64 root, .slice a ks.length c] w fun e w' => e = .returned (.bool true) ∧ Keeps (fun _ => False) w w' := by
  have H1 : Hid (Calls _ _ _ _ _) := pick_any f 40 w (by omega) (by omega) hf.1 hf.2
  have hpk := pk_lt f 40 (by omega)
  obtain ⟨p, hp⟩ : ∃ p, p = pk f 40 := ⟨_, rfl⟩
  rw [← hp] at H1 hpk
  have H2 := begun_any (20 + p) w (by omega) (by omega)
  rw [show ((20 + p : Nat) : Int) = 20 + (p : Int) by omega] at H2
  have H2 : Hid (Calls _ _ _ _ _) := H2
  have hp40 : (p : Int) < 40 := by omega
  obtain ⟨n, hn⟩ : ∃ n, n = 20 + p := ⟨_, rfl⟩
  rw [← hn] at H2
  have HQ : Hid (I64 root ∧ SegK w a ks ∧ (ks.length ≤ c ∧ c ≤ maxLen) ∧ (∀ k, k ∈ ks → I64 k.p) ∧ (ks ≠ [] → ∀ x, a = some x → x.block < w.heap.size)) := ⟨hr, hs, hl, hk, fun h0 x hx => hs.lt h0 x hx⟩
  obtain ⟨L, hL⟩ : ∃ L, L = ks.length := ⟨_, rfl⟩
  have HL : Hid (L = ks.length) := hL
  rw [← hL]
  clear hf hr hs hl hk hp hn hL hpk
  go_enter Try.func6, Try.ntmps6
  go_wp2_with fail
  refine H1.out.mono ?_
  rintro e w0 ⟨rfl, hw⟩
  obtain rfl := hw.symm
  clear hw
  go_wp2_with fail
  refine H2.out.mono ?_
  rintro e w1 ⟨P, b, g, rb, rg, rfl, hB⟩
  have c0 := hB.pr.p.cell (i := 0) rfl
  have H3 : Hid (Calls _ _ _ _ _) := leaves_any (some ⟨b, 0, none⟩) root w1
  have HB : Hid (Beg w w1 P b g rb rg n (xs0 n)) := hB
  clear hB H1 H2
  go_wp2_with fail
  refine H3.out.mono ?_
  rintro e w2 ⟨rfl, hb1, hb2, hK2⟩
  obtain ⟨B1, hB1⟩ : ∃ B1, B1 = w1.heap.size := ⟨_, rfl⟩
  rw [← hB1] at hb1 hb2 ⊢
  have q1 := HB.out.pr.m.mm.row.lt
  have q2 := HB.out.pr.r.row.lt
  have H4 : Hid (Pr w2 P b g rb rg n (xs0 n) ∧ w2.cell? ⟨B1, 0, none⟩ = some (.pointer (some ⟨b, 0, none⟩)) ∧ w2.cell? ⟨B1 + 1, 0, none⟩ = some (.int .i64 root) ∧ Keeps (fun _ => False) w w2 ∧ (B1 ≠ g ∧ B1 ≠ rg) ∧ (B1 + 1 ≠ g ∧ B1 + 1 ≠ rg) ∧ w.heap.size ≤ g ∧ w.heap.size ≤ rg) :=
    ⟨HB.out.pr.grown hK2, hb1.cell rfl, hb2.cell rfl, HB.out.k.trans hK2 fun _ _ h => h, ⟨by omega, by omega⟩, ⟨by omega, by omega⟩, HB.out.g1, HB.out.s1⟩
  clear hb1 hb2 hK2 hB1 q1 q2 H3 c0 HB
  go_wp2
  go_loopw [11, 10, 8] (fun i d u wr => ∃ (j dn : Nat) (ys : List UInt32), j ≤ 3 ∧ i = .int .i64 j ∧ d = .int .i64 dn ∧ u = .bool true ∧ dn ≤ 300 * j ∧ Pr wr P b g rb rg n ys ∧ wr.cell? ⟨B1, 0, none⟩ = some (.pointer (some ⟨b, 0, none⟩)) ∧ wr.cell? ⟨B1 + 1, 0, none⟩ = some (.int .i64 root) ∧ Keeps (fun k => k = g ∨ k = rg) w2 wr) (fun i _ _ _ => 3 - (intOf i).toNat)
  case atStart => exact ⟨0, 0, _, by omega, rfl, rfl, rfl, by omega, H4.out.1, H4.out.2.1, H4.out.2.2.1, Keeps.refl _ _⟩
  case round =>
    obtain ⟨j, dn, ys, hj, rfl, rfl, rfl, hdn, hP, e1, e2, hK⟩ := hrel
    obtain ⟨x1, x2, x3, x4, x5, x6, x7, x8⟩ := H4.out
    have hkw : Keeps (fun _ => False) w wr := x4.trans hK fun k hk h => by omega
    have HK : Hid (Keeps (fun _ => False) w wr ∧ Keeps (fun k => k = g ∨ k = rg) w2 wr ∧ wr.cell? ⟨B1, 0, none⟩ = some (.pointer (some ⟨b, 0, none⟩)) ∧ wr.cell? ⟨B1 + 1, 0, none⟩ = some (.int .i64 root)) := ⟨hkw, hK, e1, e2⟩
    by_cases hlt : j < 3
    · have ha : ks ≠ [] → ∀ x, a = some x → x.block ≠ g ∧ x.block ≠ rg := fun h0 x hx => by have := HQ.out.2.2.2.2 h0 x hx; omega
      have hs0 : SegK wr a ks := HQ.out.2.1.kept hkw fun _ _ h => h
      have H5 := writes_any P b g rb rg n ys a ks c dn wr hP HQ.out.2.2.1 hs0 HQ.out.2.2.2.1 ha (by omega)
      rw [← HL.out] at H5
      have H5 : Hid (Calls _ _ _ _ _) := H5
      have hlt' : (j : Int) < 3 := by omega
      have hdn' : (dn : Int) ≤ 1000 := by omega
      have HA : Hid (ks ≠ [] → ∀ x, a = some x → x.block ≠ g ∧ x.block ≠ rg) := ha
      clear hP e1 e2 hK x1 x2 x3 x4 x5 x6 x7 x8 hkw ha hs0
      go_wp2_with fail
      refine H5.out.mono ?_
      rintro e w3 ⟨rfl, ⟨zs, hP3⟩, hK3⟩
      obtain ⟨x1, x2, x3, x4, x5, x6, x7, x8⟩ := H4.out
      have hk3 : Keeps (fun _ => False) w w3 := HK.out.1.trans hK3 fun k hk h => by omega
      have f1 := cell_kept HK.out.2.2.1 hK3 (by omega)
      have f2 := cell_kept HK.out.2.2.2 hK3 (by omega)
      have H6 := through_any P b g rb rg n zs root B1 (B1 + 1) a ks c (dn + 1) w3 hP3 HQ.out.1 f1 f2 HQ.out.2.2.1 (HQ.out.2.1.kept hk3 fun _ _ h => h) HQ.out.2.2.2.1 HA.out x5 x6 (by omega)
      rw [← HL.out, show ((dn + 1 : Nat) : Int) = (dn : Int) + 1 by omega] at H6
      have H6 : Hid (Calls _ _ _ _ _) := H6
      have H7 : Hid (Keeps (fun k => k = g ∨ k = rg) w2 w3 ∧ w3.cell? ⟨B1, 0, none⟩ = some (.pointer (some ⟨b, 0, none⟩)) ∧ w3.cell? ⟨B1 + 1, 0, none⟩ = some (.int .i64 root)) := ⟨HK.out.2.1.trans hK3 fun _ _ h => h, f1, f2⟩
      clear hP3 hK3 x1 x2 x3 x4 x5 x6 x7 x8 hk3 f1 f2 H5
      go_wp2_with fail
      refine H6.out.mono ?_
      rintro e w4 ⟨d4, us, hd4, rfl, hP4, hK4⟩
      have H8 : Hid (Pr w4 P b g rb rg n us ∧ Keeps (fun k => k = g ∨ k = rg) w3 w4 ∧ d4 ≤ dn + 1 + 256) := ⟨hP4, hK4, hd4⟩
      clear hd4 hP4 hK4 H6
      go_wp2
      go_roundw
      case rel =>
        obtain ⟨x1, x2, x3, x4, x5, x6, x7, x8⟩ := H4.out
        exact ⟨j + 1, d4, us, by omega, by go_num, rfl, rfl, by have := H8.out.2.2; omega, H8.out.1, cell_kept H7.out.2.1 H8.out.2.1 (by omega), cell_kept H7.out.2.2 H8.out.2.1 (by omega), H7.out.1.trans H8.out.2.1 fun _ _ h => h⟩
      case measure => simp [intOf]; omega
    · obtain rfl : j = 3 := by omega
      clear hP e1 e2 hK x1 x2 x3 x4 x5 x6 x7 x8 hkw
      go_wp2
      go_ret
      exact ⟨rfl, HK.out.1⟩

end Go.Proofs.Ytpccdhoaicabcaa
