import Derived.Test.YtpccdhoaicabcaaBe
import Derived.Deep.RegionHeld3
namespace Go.Proofs.Ytpccdhoaicabcaa
open Go.RowKit
set_option linter.unusedVariables false
set_option linter.unusedSimpArgs false

/-- A work: where, what. -/
structure Wk where
  p : Int
  x : UInt32
def WkAt (w : World) (g o : Nat) (k : Wk) : Prop := w.cell? ⟨g, o, none⟩ = some (.int .i64 k.p) ∧ w.cell? ⟨g, o + 1, none⟩ = some (.int .u32 (k.x.toNat : Int))
def SegK (w : World) (a : Option Addr) (ks : List Wk) : Prop := ks = [] ∨ ∃ g o, a = some ⟨g, o, none⟩ ∧ ∀ (j : Nat) (k : Wk), ks[j]? = some k → WkAt w g (o + j * 2) k
theorem WkAt.kept {S : Nat → Prop} {w w' : World} {g o : Nat} {k : Wk} (h : WkAt w g o k) (hK : Keeps S w w') (hn : ¬ S g) : WkAt w' g o k := ⟨cell_kept h.1 hK hn, cell_kept h.2 hK hn⟩
theorem SegK.kept {S : Nat → Prop} {w w' : World} {a : Option Addr} {ks : List Wk} (h : SegK w a ks) (hK : Keeps S w w') (hn : ∀ x, a = some x → ¬ S x.block) : SegK w' a ks := by
  rcases h with h | ⟨g, o, ha, hc⟩
  · exact .inl h
  · exact .inr ⟨g, o, ha, fun j l hj => (hc j l hj).kept hK (hn _ ha)⟩
theorem SegK.kept2 {S : Nat → Prop} {w w' : World} {a : Option Addr} {ks : List Wk} (h : SegK w a ks) (hK : Keeps S w w') (hn : ks ≠ [] → ∀ x, a = some x → ¬ S x.block) : SegK w' a ks := by
  by_cases h0 : ks = []
  · exact .inl h0
  · exact h.kept hK (hn h0)
theorem SegK.at {w : World} {a : Option Addr} {ks : List Wk} (h : SegK w a ks) {j : Nat} {k : Wk} (hj : ks[j]? = some k) : ∃ g o, a = some ⟨g, o, none⟩ ∧ WkAt w g (o + j * 2) k := by
  rcases h with h | ⟨g, o, ha, hc⟩
  · rw [h] at hj; simp at hj
  · exact ⟨g, o, ha, hc j k hj⟩

/-- The words behind a write: the error, the words. -/
def wrE (N : Nat) (p : Int) : Nat := if 0 ≤ p ∧ p < N then 0 else 51
def wrX (xs : List UInt32) (p : Int) (x : UInt32) : List UInt32 := if 0 ≤ p ∧ p < xs.length then lay xs p.toNat [x] else xs
theorem wrX_length (xs : List UInt32) (p : Int) (x : UInt32) : (wrX xs p x).length = xs.length := by
  unfold wrX; split
  · exact lay_length _ _ _ (by simp; omega)
  · rfl

theorem write_any (b g n : Nat) (xs : List UInt32) (p : Int) (x : UInt32) (w : World) (h : Mn w b g n xs) (hp : I64 p) :
    Calls Try.prog 29 #[.pointer (some ⟨b, 0, none⟩), .int .i64 p, .int .u32 (x.toNat : Int)] w fun e w' => e = .returned (.int .i64 (wrE (n * 16) p : Nat)) ∧ Mn w' b g n (wrX xs p x) ∧ Keeps (· = g) w w' := by
  by_cases hf : 0 ≤ p ∧ p < xs.length
  · obtain ⟨q, rfl⟩ := Int.eq_ofNat_of_zero_le hf.1
    refine (write_in b g xs q x w h.mm (by omega)).mono ?_
    rintro e w' ⟨rfl, hm, hk⟩
    refine ⟨by unfold wrE; rw [if_pos (by rw [← h.len]; exact hf)]; rfl, ⟨?_, by rw [wrX_length]; exact h.len⟩, hk⟩
    unfold wrX; rw [if_pos hf]; exact hm
  · refine (write_out b g xs p x.toNat w h.mm hf hp.2).mono ?_
    rintro e w' ⟨rfl, rfl⟩
    refine ⟨by unfold wrE; rw [if_neg (by rw [← h.len]; exact hf)]; rfl, ?_, Keeps.refl _ _⟩
    unfold wrX; rw [if_neg hf]; exact h
theorem rwrite_any (b g n : Nat) (xs : List UInt32) (p : Int) (x : UInt32) (w : World) (h : Rn w b g n xs) (hp : I64 p) :
    Calls Try.prog 30 #[.pointer (some ⟨b, 0, none⟩), .int .i64 p, .int .u32 (x.toNat : Int)] w fun e w' => e = .returned (.int .i64 (wrE (n * 16) p : Nat)) ∧ Rn w' b g n (wrX xs p x) ∧ Keeps (· = g) w w' := by
  by_cases hf : 0 ≤ p ∧ p < xs.length
  · obtain ⟨q, rfl⟩ := Int.eq_ofNat_of_zero_le hf.1
    refine (rwrite_in b g n xs q x w h (by omega)).mono ?_
    rintro e w' ⟨rfl, hm, hk⟩
    refine ⟨by unfold wrE; rw [if_pos (by rw [← h.len]; exact hf)]; rfl, ?_, hk⟩
    unfold wrX; rw [if_pos hf]; exact hm
  · refine (rwrite_out b g n xs p x.toNat w h hp.1 hp.2 hf).mono ?_
    rintro e w' ⟨rfl, rfl⟩
    refine ⟨by unfold wrE; rw [if_neg (by rw [← h.len]; exact hf)]; rfl, ?_, Keeps.refl _ _⟩
    unfold wrX; rw [if_neg hf]; exact h

set_option maxRecDepth 20000 in
set_option maxHeartbeats 4000000 in
theorem writes_any (P b g rb rg n : Nat) (xs : List UInt32) (a : Option Addr) (ks : List Wk) (c d : Nat) (w : World) (h : Pr w P b g rb rg n xs) (hl : ks.length ≤ c ∧ c ≤ maxLen) (hs : SegK w a ks) (hk : ∀ k, k ∈ ks → I64 k.p)
    (ha : ks ≠ [] → ∀ x, a = some x → x.block ≠ g ∧ x.block ≠ rg) (hd : d ≤ 100000) :
    Calls Try.prog 20 #[.pointer (some ⟨P, 0, none⟩), .slice a ks.length c, .int .i64 d] w fun e w' => e = .returned (.bool true) ∧ (∃ xs', Pr w' P b g rb rg n xs') ∧ Keeps (fun k => k = g ∨ k = rg) w w' := by
  have HP : Hid (Pr w P b g rb rg n xs ∧ SegK w a ks) := ⟨h, hs⟩
  obtain ⟨L, hL⟩ : ∃ L, L = ks.length := ⟨_, rfl⟩
  have hc2 : (L : Int) ≤ c := by omega
  have hc3 : (c : Int) ≤ 9223372036854775807 := by unfold maxLen at hl; omega
  have hd' : (d : Int) ≤ 100000 := by omega
  rw [← hL]
  by_cases hlt : d < L
  · obtain ⟨k, hkk⟩ : ∃ k, ks[d]? = some k := ⟨_, List.getElem?_eq_getElem (by omega)⟩
    obtain ⟨g5, o5, rfl, x0, x1⟩ := hs.at hkk
    have hki := hk k (List.mem_of_getElem? hkk)
    have hg := ha (fun e => by rw [e] at hkk; simp at hkk) _ rfl
    have H1 : Hid (Calls _ _ _ _ _) := write_any b g n xs k.p k.x w.drew (h.m.grown ((Keeps.refl _ w).drew)) hki
    have HR : Hid (∀ W, Rn W rb rg n xs → Calls _ _ _ W _) := fun W hW => rwrite_any rb rg n xs k.p k.x W hW hki
    obtain ⟨E, hE⟩ : ∃ E, E = wrE (n * 16) k.p := ⟨_, rfl⟩
    obtain ⟨X, hX⟩ : ∃ X : Nat, X = k.x.toNat := ⟨_, rfl⟩
    rw [← hE, ← hX] at H1 HR
    rw [← hX] at x1
    have c0 := h.p.cell (i := 0) rfl
    have c1 := h.p.cell (i := 1) rfl
    have hlt' : (d : Int) < L := by omega
    have hn1 := h.n1
    have hn2 := h.n2
    have hS : w.cell? ⟨P, 0, none⟩ = some (.pointer (some ⟨b, 0, none⟩)) ∧ w.cell? ⟨P, 1, none⟩ = some (.pointer (some ⟨rb, 0, none⟩)) ∧ w.cell? ⟨g5, o5 + d * 2, none⟩ = some (.int .i64 k.p) ∧ w.cell? ⟨g5, o5 + d * 2 + 1, none⟩ = some (.int .u32 X) := ⟨c0, c1, x0, x1⟩
    clear h hs ha hk hl hL hkk hki hE hX
    go_enter Try.func20, Try.ntmps20
    go_wp2_with fail
    go_region_held3 (fun w' => w'.cell? ⟨P, 0, none⟩ = some (.pointer (some ⟨b, 0, none⟩)) ∧ w'.cell? ⟨P, 1, none⟩ = some (.pointer (some ⟨rb, 0, none⟩)) ∧ w'.cell? ⟨g5, o5 + d * 2, none⟩ = some (.int .i64 k.p) ∧ w'.cell? ⟨g5, o5 + d * 2 + 1, none⟩ = some (.int .u32 X)) (first | exact hS | exact hS2)
      (first | (go_at_call 29; refine H1.out.mono ?_; rintro e w1 ⟨rfl, hM1, hK1⟩; have hK1' : Keeps (· = g) w w1 := ((Keeps.refl (· = g) w).drew).trans hK1 fun _ _ h => h; have hS2 : w1.cell? ⟨P, 0, none⟩ = some (.pointer (some ⟨b, 0, none⟩)) ∧ w1.cell? ⟨P, 1, none⟩ = some (.pointer (some ⟨rb, 0, none⟩)) ∧ w1.cell? ⟨g5, o5 + d * 2, none⟩ = some (.int .i64 k.p) ∧ w1.cell? ⟨g5, o5 + d * 2 + 1, none⟩ = some (.int .u32 X) := ⟨cell_kept c0 hK1' hn1, cell_kept c1 hK1' hn1, cell_kept x0 hK1' hg.1, cell_kept x1 hK1' hg.1⟩; have H2 : Hid (Mn w1 b g n (wrX xs k.p k.x) ∧ Keeps (· = g) w w1) := ⟨hM1, hK1'⟩; clear hM1 hK1 hK1'))
    obtain ⟨d0, d1, d2, d3⟩ := hS2
    have hS3 : w1.cell? ⟨P, 0, none⟩ = some (.pointer (some ⟨b, 0, none⟩)) ∧ w1.cell? ⟨P, 1, none⟩ = some (.pointer (some ⟨rb, 0, none⟩)) ∧ w1.cell? ⟨g5, o5 + d * 2, none⟩ = some (.int .i64 k.p) ∧ w1.cell? ⟨g5, o5 + d * 2 + 1, none⟩ = some (.int .u32 X) := ⟨d0, d1, d2, d3⟩
    have H3 : Hid (Calls _ _ _ _ _) := HR.out w1.drew ((HP.out.1.r.kept H2.out.2 HP.out.1.n4 (fun e => HP.out.1.n5 e.symm)).grown ((Keeps.refl _ w1).drew))
    clear hS c0 c1 x0 x1 H1 HR
    go_wp2_with fail
    go_region_held3 (fun w' => w'.cell? ⟨P, 0, none⟩ = some (.pointer (some ⟨b, 0, none⟩)) ∧ w'.cell? ⟨P, 1, none⟩ = some (.pointer (some ⟨rb, 0, none⟩)) ∧ w'.cell? ⟨g5, o5 + d * 2, none⟩ = some (.int .i64 k.p) ∧ w'.cell? ⟨g5, o5 + d * 2 + 1, none⟩ = some (.int .u32 X)) (first | exact hS3 | exact hS2)
      (first | (go_at_call 30; refine H3.out.mono ?_; rintro e w2 ⟨rfl, hM1, hK1⟩; have hK1' : Keeps (· = rg) w1 w2 := ((Keeps.refl (· = rg) w1).drew).trans hK1 fun _ _ h => h; have hS2 : w2.cell? ⟨P, 0, none⟩ = some (.pointer (some ⟨b, 0, none⟩)) ∧ w2.cell? ⟨P, 1, none⟩ = some (.pointer (some ⟨rb, 0, none⟩)) ∧ w2.cell? ⟨g5, o5 + d * 2, none⟩ = some (.int .i64 k.p) ∧ w2.cell? ⟨g5, o5 + d * 2 + 1, none⟩ = some (.int .u32 X) := ⟨cell_kept d0 hK1' hn2, cell_kept d1 hK1' hn2, cell_kept d2 hK1' hg.2, cell_kept d3 hK1' hg.2⟩; have H4 : Hid (Rn w2 rb rg n (wrX xs k.p k.x) ∧ Keeps (· = rg) w1 w2) := ⟨hM1, hK1'⟩; clear hM1 hK1 hK1'))
    clear hS3 hS2 d0 d1 d2 d3 H3
    go_wp2
    go_ret
    have hp := HP.out.1
    refine ⟨ret_bool (by simp), ⟨_, ⟨(hp.p.kept H2.out.2 hp.n1).kept H4.out.2 hp.n2, H2.out.1.kept H4.out.2 hp.n3 hp.n5, H4.out.1, hp.n1, hp.n2, hp.n3, hp.n4, hp.n5⟩⟩, (H2.out.2.mono fun _ _ h => .inl h).trans H4.out.2 fun _ _ h => .inr h⟩
  · have hlt' : ¬ (d : Int) < L := by omega
    clear h hs ha hk hl hL
    go_enter Try.func20, Try.ntmps20
    go_wp2
    go_ret
    exact ⟨rfl, ⟨xs, HP.out.1⟩, Keeps.refl _ _⟩

set_option maxHeartbeats 2000000 in
theorem none_any (P b g rb rg n : Nat) (xs : List UInt32) (root : Int) (p q : Nat) (w : World) (h : Pr w P b g rb rg n xs) (hr : I64 root) (hq : q ≤ 256) (hpq : p ≤ q) (hno : ∀ j : Nat, p ≤ j → j < q → walkE n xs root j ≠ 0) :
    Calls Try.prog 43 #[.pointer (some ⟨P, 0, none⟩), .int .i64 root, .int .i64 p, .int .i64 q] w fun e w' => e = .returned (.bool true) ∧ Keeps (fun _ => False) w w' := by
  have HP : Hid (Pr w P b g rb rg n xs ∧ I64 root ∧ ∀ j : Nat, p ≤ j → j < q → walkE n xs root j ≠ 0) := ⟨h, hr, hno⟩
  have hq' : (q : Int) ≤ 256 := by omega
  clear h hno hr
  go_enter Try.func43, Try.ntmps43
  go_wp2
  go_loopw [9] (fun i wr => ∃ j : Nat, p ≤ j ∧ j ≤ q ∧ i = .int .i64 j ∧ Keeps (fun _ => False) w wr) (fun i _ => q - (intOf i).toNat)
  case atStart => exact ⟨p, by omega, by omega, rfl, Keeps.refl _ _⟩
  case round =>
    obtain ⟨j, hj1, hj2, rfl, hK⟩ := hrel
    by_cases hlt : j < q
    · have hp := HP.out.1.grown hK
      have c1 := hp.p.cell (i := 1) rfl
      have HC : Hid (Calls _ _ _ _ _) := rwalk_any rb rg n xs root j wr hp.r HP.out.2.1.1 HP.out.2.1.2
      have hE := HP.out.2.2 j hj1 hlt
      obtain ⟨E, hEE⟩ : ∃ E, E = walkE n xs root j := ⟨_, rfl⟩
      obtain ⟨X, hX⟩ : ∃ X, X = walkL n xs root j := ⟨_, rfl⟩
      rw [← hEE, ← hX] at HC
      rw [← hEE] at hE
      have hE' : ((E : Int) == 0) = false := by simp; omega
      have HK : Hid (Keeps (fun _ => False) w wr) := hK
      have hlt' : (j : Int) < q := by omega
      clear hp hK hEE hX hE
      go_wp2_with fail
      refine HC.out.mono ?_
      rintro e w1 ⟨rfl, hK1⟩
      have HK1 : Hid (Keeps (fun _ => False) w w1) := HK.out.trans hK1 fun _ _ h => h
      clear hK1 HC c1
      go_wp2
      go_roundw
      case rel => exact ⟨j + 1, by omega, by omega, by go_num, HK1.out.alloc _⟩
      case measure => simp [intOf]; omega
    · obtain rfl : j = q := by omega
      have HK : Hid (Keeps (fun _ => False) w wr) := hK
      clear hK
      go_wp2
      go_ret
      exact ⟨rfl, HK.out⟩

end Go.Proofs.Ytpccdhoaicabcaa
