import Derived.Test.YtpccdhoaicabcaaSt
import Derived.Test.YtpccdhoaicabcaaBb
namespace Go.Proofs.Ytpccdhoaicabcaa
open Go.RowKit
set_option linter.unusedVariables false
set_option linter.unusedSimpArgs false

set_option maxRecDepth 40000 in
set_option maxHeartbeats 4000000 in
theorem entries_enc (A B C : Int) (W : Nat) (s2 s : Value) (w : World) : Calls Try.prog 24 #[opV 1 A B C W s2 s] w fun e w' => e = .returned (.bool true) ∧ Keeps (fun _ => False) w w' := by
  obtain ⟨w0, hw0⟩ : ∃ w0, w0 = w.alloc (.cells #[.int .i64 1, .int .i64 A, .int .i64 B, .int .i64 C, .int .u32 W, s2, s] 31) := ⟨_, rfl⟩
  have k0 : Keeps (fun _ => False) w w0 := by rw [hw0]; exact (Keeps.refl _ w).alloc _
  obtain ⟨x, ex, h1, h2⟩ : ∃ (x ex : Nat), (∀ w, Calls Try.prog 18 #[.int .i64 A, .int .i64 B] w fun e w' => e = .returned (.tuple #[.int .u32 (x : Int), .int .i64 (ex : Int)]) ∧ w' = w) ∧ (∀ w, Calls Try.prog 44 #[.int .i64 A, .int .i64 B] w fun e w' => e = .returned (.tuple #[.int .u32 (x : Int), .int .i64 (ex : Int)]) ∧ w' = w) := by
    by_cases h : (0 ≤ A ∧ A < 1024) ∧ 0 ≤ B ∧ B < 8
    · obtain ⟨f, rfl⟩ := Int.eq_ofNat_of_zero_le h.1.1
      obtain ⟨r, rfl⟩ := Int.eq_ofNat_of_zero_le h.2.1
      exact ⟨_, 0, fun w => encode_in f r w (by omega) (by omega), fun w => rencode_in f r w (by omega) (by omega)⟩
    · exact ⟨0, 90, fun w => encode_out A B w h, fun w => rencode_out A B w h⟩
  have H1 : Hid (∀ w, Calls _ _ _ w _) := h1
  have H2 : Hid (∀ w, Calls _ _ _ w _) := h2
  have HW : Hid (_ = _) := hw0
  have HK : Hid (Keeps (fun _ => False) w w0) := k0
  clear h1 h2 hw0 k0
  go_enter Try.func24, Try.ntmps24
  go_wp2_with fail
  refine (H1.out _).mono ?_
  rintro e w1 ⟨rfl, hw1⟩
  obtain rfl := hw1.symm
  clear hw1
  go_wp2_with fail
  refine (H2.out _).mono ?_
  rintro e w2 ⟨rfl, hw2⟩
  obtain rfl := hw2.symm
  clear hw2
  go_wp2
  go_ret
  exact ⟨rfl, (Keeps.refl _ w).alloc _⟩

set_option maxRecDepth 40000 in
set_option maxHeartbeats 4000000 in
theorem entries_dec (A B C : Int) (W : Nat) (s2 s : Value) (w : World) (hW : W < 4294967296) : Calls Try.prog 24 #[opV 2 A B C W s2 s] w fun e w' => e = .returned (.bool true) ∧ Keeps (fun _ => False) w w' := by
  have H1 : Hid (∀ w, Calls _ _ _ w _) := fun w => decode_any W w hW
  have H2 : Hid (∀ w, Calls _ _ _ w _) := fun w => rdecode_any W w hW
  clear hW
  go_enter Try.func24, Try.ntmps24
  go_wp2_with fail
  refine (H1.out _).mono ?_
  rintro e w1 ⟨rfl, hw1⟩
  obtain rfl := hw1.symm
  clear hw1
  go_wp2_with fail
  refine (H2.out _).mono ?_
  rintro e w2 ⟨rfl, hw2⟩
  obtain rfl := hw2.symm
  clear hw2
  go_wp2
  go_ret
  exact ⟨rfl, (Keeps.refl _ w).alloc _⟩

open Go.RowKit
set_option linter.unusedVariables false
set_option linter.unusedSimpArgs false

theorem tabP_one {rs : List Rgn} {m e m' e' : Nat} (h : TabP rs m e) (h' : TabP rs m' e') : m = m' ∧ e = e' := by
  rcases h with ⟨a, b, c⟩ | ⟨a, b, c, d⟩ | ⟨a, b, c, d⟩ <;> rcases h' with ⟨a', b', c'⟩ | ⟨a', b', c', d'⟩ | ⟨a', b', c', d'⟩ <;>
    first
      | (exfalso; omega)
      | exact ⟨b.trans b'.symm, c.trans c'.symm⟩
      | exact ⟨c.trans c'.symm, d.trans d'.symm⟩
      | exact absurd b' b
      | exact absurd b b'

set_option maxRecDepth 40000 in
set_option maxHeartbeats 8000000 in
theorem entries_tab (A B C : Int) (W : Nat) (a2 : Option Addr) (ts : List Int) (c2 : Nat) (a : Option Addr) (rs : List Rgn) (c : Nat) (w : World)
    (hl2 : ts.length ≤ c2 ∧ c2 ≤ maxLen) (hs2 : SegI w a2 ts) (hl : rs.length ≤ c ∧ c ≤ maxLen) (hs : SegR w a rs) (hb : ts.length + rs.length ≤ 2147483647) (hf : ∀ r, r ∈ rs → r.Fine)
    (ha2 : ts ≠ [] → ∀ x, a2 = some x → x.block < w.heap.size) (ha : rs ≠ [] → ∀ x, a = some x → x.block < w.heap.size) :
    Calls Try.prog 24 #[opV 5 A B C W (.slice a2 ts.length c2) (.slice a rs.length c)] w fun e w' => e = .returned (.bool true) ∧ Keeps (fun _ => False) w w' := by
  obtain ⟨w0, hw0⟩ : ∃ w0, w0 = w.alloc (.cells #[.int .i64 5, .int .i64 A, .int .i64 B, .int .i64 C, .int .u32 W, .slice a2 ts.length c2, .slice a rs.length c] 31) := ⟨_, rfl⟩
  have k0 : Keeps (fun _ => False) w w0 := by rw [hw0]; exact (Keeps.refl _ w).alloc _
  have b0 : Blk w0 w.heap.size [.int .i64 5, .int .i64 A, .int .i64 B, .int .i64 C, .int .u32 W, .slice a2 ts.length c2, .slice a rs.length c] 31 := by rw [hw0]; exact Blk.new w _ 31
  have z0 : w0.heap.size = w.heap.size + 1 := by rw [hw0]; simp
  have H1 := lent_any 5 A B C W a2 ts c2 a rs c w0 hl2 (hs2.grown k0) hl (hs.grown k0) hb
  obtain ⟨H, hH⟩ : ∃ H, H = w.heap.size := ⟨_, rfl⟩
  have HP : Hid (SegI w a2 ts ∧ SegR w a rs ∧ (ts ≠ [] → ∀ x, a2 = some x → x.block < w.heap.size) ∧ (rs ≠ [] → ∀ x, a = some x → x.block < w.heap.size)) := ⟨hs2, hs, ha2, ha⟩
  have HQ : Hid ((ts.length ≤ c2 ∧ c2 ≤ maxLen) ∧ (rs.length ≤ c ∧ c ≤ maxLen) ∧ ts.length + rs.length ≤ 2147483647 ∧ ∀ r, r ∈ rs → r.Fine) := ⟨hl2, hl, hb, hf⟩
  obtain ⟨L2, hL2⟩ : ∃ L, L = ts.length := ⟨_, rfl⟩
  obtain ⟨L, hL⟩ : ∃ L, L = rs.length := ⟨_, rfl⟩
  rw [← hL2, ← hL] at H1 hw0 b0 ⊢
  rw [← hH] at b0 z0
  have H1 : Hid (Calls _ _ _ _ _) := H1
  have HH : Hid (w0 = w.alloc (.cells #[.int .i64 5, .int .i64 A, .int .i64 B, .int .i64 C, .int .u32 W, .slice a2 L2 c2, .slice a L c] 31) ∧ H = w.heap.size ∧ L2 = ts.length ∧ L = rs.length ∧ Keeps (fun _ => False) w w0 ∧ Blk w0 H [.int .i64 5, .int .i64 A, .int .i64 B, .int .i64 C, .int .u32 W, .slice a2 L2 c2, .slice a L c] 31 ∧ w0.heap.size = H + 1) := ⟨hw0, hH, hL2, hL, k0, b0, z0⟩
  clear hw0 k0 b0 z0 hH hL2 hL hs2 hs ha2 ha hl2 hl hb hf
  go_enter Try.func24, Try.ntmps24
  go_wp2_with fail
  rw [← HH.out.1, ← HH.out.2.1]
  refine H1.out.mono ?_
  rintro e w1 ⟨gt, gr, rfl, hLe⟩
  obtain ⟨hh0, hhH, hhL2, hhL, hk0, hb0, hz0⟩ := HH.out
  have hk1 := hk0.trans hLe.k fun _ _ h => h
  have b1 := hb0.kept hLe.k fun h => h
  have u1 := hLe.gt1
  have u2 := hLe.gr1
  have HT := tables_any (some ⟨gr, 0, none⟩) rs (rs.length + 9) w1 ⟨by omega, by have := HQ.out.2.2.1; unfold maxLen; omega⟩ hLe.r.segR HQ.out.2.2.2
  rw [← hhL] at HT
  have HT : Hid (Calls _ _ _ _ _) := HT
  have H2 : Hid (Keeps (fun _ => False) w w1 ∧ Blk w1 H [.int .i64 5, .int .i64 A, .int .i64 B, .int .i64 C, .int .u32 W, .slice a2 L2 c2, .slice a L c] 31 ∧ Lent w0 w1 gt gr ts rs 9 ∧ H < gt ∧ H < gr ∧ w.heap.size = H) := ⟨hk1, b1, hLe, by omega, by omega, hhH.symm⟩
  clear hh0 hhH hhL2 hhL hk0 hb0 hz0 hk1 b1 u1 u2 hLe H1
  go_wp2_with fail
  refine HT.out.mono ?_
  rintro e w2 ⟨⟨m1, e1, rfl, hT1⟩, hk2⟩
  have HRT := rtables_any a rs c w2 HQ.out.2.1 ((HP.out.2.1.grown H2.out.1).grown hk2) HQ.out.2.2.2
  rw [← HH.out.2.2.2.1] at HRT
  have HRT : Hid (Calls _ _ _ _ _) := HRT
  have H3 : Hid (TabP rs m1 e1 ∧ Keeps (fun _ => False) w1 w2 ∧ Blk w2 H [.int .i64 5, .int .i64 A, .int .i64 B, .int .i64 C, .int .u32 W, .slice a2 L2 c2, .slice a L c] 31) := ⟨hT1, hk2, H2.out.2.1.kept hk2 fun e => e⟩
  have d6 := H3.out.2.2.cell (i := 6) rfl
  clear hT1 hk2 HT
  go_wp2_with fail
  refine HRT.out.mono ?_
  rintro e w3 ⟨⟨m2, e2, rfl, hT2⟩, hk3⟩
  obtain ⟨rfl, rfl⟩ := tabP_one H3.out.1 hT2
  clear d6 hT2
  have hkw3 : Keeps (fun _ => False) w w3 := (H2.out.1.trans H3.out.2.1 fun _ _ e => e).trans hk3 fun _ _ e => e
  have hk13 : Keeps (fun _ => False) w1 w3 := H3.out.2.1.trans hk3 fun _ _ e => e
  have b3 := H3.out.2.2.kept hk3 fun e => e
  have hH := H2.out.2.2.2.2.2
  have hg1 := H2.out.2.2.2.1
  have hg2 := H2.out.2.2.2.2.1
  have HBk := back_any2 5 A B C W a2 ts c2 a rs c gt gr w3 HQ.out.1 (HP.out.1.grown hkw3) HQ.out.2.1 (HP.out.2.1.grown hkw3) HQ.out.2.2.1 (H2.out.2.2.1.t.kept hk13 fun e => e) (H2.out.2.2.1.r.kept hk13 fun e => e) H2.out.2.2.1.ne
    (fun n0 x hx => by have := HP.out.2.2.1 n0 x hx; exact ⟨by omega, by omega⟩) (fun n0 x hx => by have := HP.out.2.2.2 n0 x hx; exact ⟨by omega, by omega⟩)
  rw [← HH.out.2.2.1, ← HH.out.2.2.2.1] at HBk
  have HBk : Hid (Calls _ _ _ _ _) := HBk
  have H4 : Hid (Keeps (fun _ => False) w w3) := hkw3
  have c0 := b3.cell (i := 0) rfl
  have c1 := b3.cell (i := 1) rfl
  have c2' := b3.cell (i := 2) rfl
  have c3 := b3.cell (i := 3) rfl
  have c4 := b3.cell (i := 4) rfl
  have c5 := b3.cell (i := 5) rfl
  have c6 := b3.cell (i := 6) rfl
  clear hk3 hkw3 hk13 b3 hH hg1 hg2 HRT
  go_wp2_with fail
  refine HBk.out.mono ?_
  rintro e w4 ⟨rfl, hbk⟩
  have hb9 : (2147483647 : Nat) + 9 ≤ maxLen := by unfold maxLen; omega
  have hll : L ≤ 2147483647 := by have := HQ.out.2.2.1; have := HH.out.2.2.2.1; omega
  have hf1 : ∀ r, r ∈ List.replicate L rg1 → r.Fine := fun r hr => by rw [List.eq_of_mem_replicate hr]; unfold Rgn.Fine rg1 I64; simp only; omega
  have hsr : ∀ w', Keeps (fun _ => False) w4 w' → SegR w' (some ⟨gr, 0, none⟩) (List.replicate L rg1) := fun w' hK => by
    have e := (hbk.r.kept hK fun e => e)
    rw [← List.replicate_append_replicate] at e
    exact e.segR
  have HX1 : Hid (∀ w', Keeps (fun _ => False) w4 w' → Calls Try.prog 33 #[.slice (some ⟨gr, 0, none⟩) L (L + 9)] w' fun e w2 => (∃ m z : Nat, e = .returned (.tuple #[.int .i64 m, .int .i64 z]) ∧ TabP (List.replicate L rg1) m z) ∧ Keeps (fun _ => False) w' w2) := fun w' hK => by
    have e := tables_any (some ⟨gr, 0, none⟩) (List.replicate L rg1) (L + 9) w' ⟨by simp, by omega⟩ (hsr w' hK) hf1
    rw [List.length_replicate] at e
    exact e
  have HX2 : Hid (∀ w', Keeps (fun _ => False) w4 w' → Calls Try.prog 46 #[.slice (some ⟨gr, 0, none⟩) L (L + 9)] w' fun e w2 => (∃ m z : Nat, e = .returned (.tuple #[.int .i64 m, .int .i64 z]) ∧ TabP (List.replicate L rg1) m z) ∧ Keeps (fun _ => False) w' w2) := fun w' hK => by
    have e := rtables_any (some ⟨gr, 0, none⟩) (List.replicate L rg1) (L + 9) w' ⟨by simp, by omega⟩ (hsr w' hK) hf1
    rw [List.length_replicate] at e
    exact e
  have H5 : Hid (Keeps (fun _ => False) w w4) := H4.out.trans hbk.k fun k hk e => by have := H2.out.2.2.2; omega
  clear hb9 hll hf1 hsr hbk c0 c1 c2' c3 c4 c5 c6 HBk
  go_wp2_with fail
  refine (HX1.out w4 (Keeps.refl _ _)).mono ?_
  rintro e w5 ⟨⟨m3, e3, rfl, hT3⟩, hk5⟩
  have H6 : Hid (TabP (List.replicate L rg1) m3 e3 ∧ Keeps (fun _ => False) w4 w5) := ⟨hT3, hk5⟩
  clear hT3 hk5
  go_wp2_with fail
  refine (HX2.out w5 H6.out.2).mono ?_
  rintro e w6 ⟨⟨m4, e4, rfl, hT4⟩, hk6⟩
  obtain ⟨rfl, rfl⟩ := tabP_one H6.out.1 hT4
  have H7 : Hid (Keeps (fun _ => False) w w6) := (H5.out.trans H6.out.2 fun _ _ e => e).trans hk6 fun _ _ e => e
  clear hT4 hk6
  go_wp2
  go_ret
  exact ⟨rfl, H7.out⟩
end Go.Proofs.Ytpccdhoaicabcaa
