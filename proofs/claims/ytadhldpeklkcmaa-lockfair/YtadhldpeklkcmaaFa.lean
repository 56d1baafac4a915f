import Derived.Test.YtadhldpeklkcmaaYa
import Derived.Deep.RegionHeld3
import Derived.Deep.CutBlock
import Derived.Deep.CutRange
namespace Go.Proofs.Ytadhldpeklkcmaa
open Go.RowKit
set_option linter.unusedVariables false

/-- While chains step and give back. -/
def FI (w : World) (N mb g qb L : Nat) (rest : List Value) (n j : Nat) (Cs : List Ck) (xs : List UInt32) (A G : Nat → Nat) (wr : World) : Prop :=
  FR w wr N mb g qb L rest Cs xs A G ∧ PI Cs A G ∧ Cs.length = n ∧ (∀ r, r < 4 → A r ≤ j) ∧ A 4 = 1 ∧ G 4 = 0

/-- Behind one of them: which, and how it stands. -/
def FJ (w : World) (N mb g qb L : Nat) (rest : List Value) (n j i xb : Nat) (wr : World) : Prop :=
  ∃ (Cs : List Ck) (D : Ck) (xs : List UInt32) (A G : Nat → Nat), FI w N mb g qb L rest n (j + 1) Cs xs A G wr ∧ Cs[i]? = some D ∧ D.X.b = xb

theorem Try.info66 : (Try.prog.info? 66).map (fun i => (i.zero, i.size, i.bytes)) = some (some (.agg #[.int .i64 0, .int .i64 0]), 2, 16) := by kernel_rfl
def n0 (_ : Nat) : Nat := 0
theorem run_make_rows (w : World) : (Instr.makeSlice 55 (.int .i64 5) (.int .i64 5)).run Try.prog w = .ok (.slice (some ⟨w.heap.size, 0, none⟩) 5 5) (w.alloc (.cells (ivs (qOf n0 n0)).toArray 66)) := by
  obtain ⟨i0, hi, hz0, hz1, hz2⟩ := info_parts Try.info66
  have h := run_make (P := Try.prog) w 55 66 i0 (.agg #[.int .i64 0, .int .i64 0]) Try.underlying55 hi hz0 .i64 .i64 5 5 (by omega) (by omega) (by rw [hz2]; omega) (by omega)
  rw [hz1] at h
  have e : madeCells (Value.agg #[.int .i64 0, .int .i64 0]).cells ((5 : Int).toNat * 2) = (ivs (qOf n0 n0)).toArray := by kernel_rfl
  rw [e] at h
  exact h

set_option maxRecDepth 20000 in
set_option maxHeartbeats 4000000 in
theorem fair_any (a1 a2 : Option Addr) (c1 c2 : Nat) (ms ss : List Int) (w : World) (hs1 : SegI w a1 ms) (hs2 : SegI w a2 ss) (hm1 : ms.length ≤ maxLen) (hm2 : ss.length ≤ maxLen)
    (hr1 : ∀ z ∈ ms, -9223372036854775808 ≤ z ∧ z ≤ 9223372036854775807) (hr2 : ∀ z ∈ ss, -9223372036854775808 ≤ z ∧ z ≤ 9223372036854775807) :
    Calls Try.prog 4 #[.slice a1 ms.length c1, .slice a2 ss.length c2] w fun e w' => e = .returned (.bool true) ∧ Keeps (fun _ => False) w w' := by
  obtain ⟨n1, hn1⟩ : ∃ n, n = ms.length := ⟨_, rfl⟩
  obtain ⟨n2, hn2⟩ : ∃ n, n = ss.length := ⟨_, rfl⟩
  have H : Hid (SegI w a1 ms ∧ SegI w a2 ss ∧ ms.length ≤ maxLen ∧ ss.length ≤ maxLen ∧ (∀ z ∈ ms, -9223372036854775808 ≤ z ∧ z ≤ 9223372036854775807) ∧ (∀ z ∈ ss, -9223372036854775808 ≤ z ∧ z ≤ 9223372036854775807) ∧ n1 = ms.length ∧ n2 = ss.length) := ⟨hs1, hs2, hm1, hm2, hr1, hr2, hn1, hn2⟩
  rw [← hn1, ← hn2]
  have HM : Hid (Calls _ _ _ _ _) := new_in 1 w (by omega) (by omega)
  clear hs1 hs2 hm1 hm2 hr1 hr2 hn1 hn2
  go_enter Try.func4, Try.ntmps4
  go_wp2_with fail
  refine HM.out.mono ?_
  rintro e w2 ⟨rfl, hm, hk⟩
  have H2 : Hid (Mm w2 (w.heap.size + 1) w.heap.size (List.replicate 16 0) ∧ Keeps (fun _ => False) w w2) := ⟨hm, hk⟩
  obtain ⟨mb, hmb⟩ : ∃ mb, mb = w.heap.size + 1 := ⟨_, rfl⟩
  obtain ⟨g, hg⟩ : ∃ g, g = w.heap.size := ⟨_, rfl⟩
  rw [← hmb, ← hg] at H2
  rw [← hmb]
  have HMB : Hid (mb = w.heap.size + 1 ∧ g = w.heap.size) := ⟨hmb, hg⟩
  clear hm hk HM hmb hg
  have hB3 := Blk.new w2 #[.int .i64 8] 3
  have HC := newc_any (some ⟨w2.heap.size, 0, none⟩) 1 [8] (w2.alloc (.cells #[.int .i64 8] 3)) (.inr ⟨_, 0, rfl, fun j hj => hB3.cell (by
    have : j = 0 := by simp at hj; omega
    subst this; rfl)⟩) (by simp) (by simp)
  have HC : Calls Try.prog 16 #[.slice (some ⟨w2.heap.size, 0, none⟩) 1 1] (w2.alloc (.cells #[.int .i64 8] 3)) (fun e w' => ∃ X, e = .returned (.pointer (some ⟨X.b, 0, none⟩)) ∧ MkP [8] [] 1 (w2.alloc (.cells #[.int .i64 8] 3)) X w') := HC
  have HC : Hid (Calls _ _ _ _ _) := HC
  clear hB3
  go_wp2_with fail
  refine HC.out.mono ?_
  rintro e w4 ⟨X, rfl, hX⟩
  obtain ⟨e1, e2, e3, hXi, hXf, hXk⟩ := hX
  have hk24 : Keeps (fun _ => False) w2 w4 := ((Keeps.refl _ _).alloc _).trans hXk fun _ _ e => e
  have H4 : Hid (X.lk = [8] ∧ X.tk = [] ∧ X.st = 1 ∧ X.In w4 ∧ (∀ k, X.F k → w2.heap.size ≤ k) ∧ Keeps (fun _ => False) w2 w4) := ⟨e1, e2, e3, hXi, fun k hk => by have := hXf k hk; simp at this; omega, hk24⟩
  obtain ⟨xb, hxb⟩ : ∃ xb, xb = X.b := ⟨_, rfl⟩
  rw [← hxb]
  have HXB : Hid (xb = X.b) := hxb
  clear e1 e2 e3 hXi hXf hXk hk24 HC hxb
  obtain ⟨w5, hw5⟩ : ∃ w5, w5 = (w4.alloc (.cells #[.int .i64 8] 3)).alloc (.cells #[.pointer (some ⟨xb, 0, none⟩), .slice (some ⟨w4.heap.size, 0, none⟩) 1 1, .int .i64 0, .bool false, .int .i64 0] 54) := ⟨_, rfl⟩
  have HW5 : Hid (w5 = (w4.alloc (.cells #[.int .i64 8] 3)).alloc (.cells #[.pointer (some ⟨xb, 0, none⟩), .slice (some ⟨w4.heap.size, 0, none⟩) 1 1, .int .i64 0, .bool false, .int .i64 0] 54)) := hw5
  clear hw5
  go_wp2_with (at_make; refine wpList_make_run rfl (.const (.int .i64 5)) (.const (.int .i64 5)) 55 rfl (.int .i64 5) (.int .i64 5) (.slice (some ⟨_, 0, none⟩) 5 5) _ rfl rfl (run_make_rows _) ?_; refine Hid.out ?_)
  unfold Hid
  rw [← HW5.out]
  obtain ⟨w6, hw6⟩ : ∃ w6, w6 = w5.alloc (.cells (ivs (qOf n0 n0)).toArray 66) := ⟨_, rfl⟩
  rw [← hw6]
  obtain ⟨hb, hhb⟩ : ∃ hb, hb = w4.heap.size + 1 := ⟨_, rfl⟩
  obtain ⟨qb, hqb⟩ : ∃ qb, qb = w4.heap.size + 1 + 1 := ⟨_, rfl⟩
  obtain ⟨lb, hlb⟩ : ∃ lb, lb = w4.heap.size := ⟨_, rfl⟩
  rw [← hqb, ← hhb, ← hlb]
  have hs5 : w5.heap.size = w4.heap.size + 2 := by rw [HW5.out]; simp
  have hs6 : w6.heap.size = w4.heap.size + 3 := by rw [hw6]; simp [hs5]
  have hk45 : Keeps (fun _ => False) w4 w5 := by rw [HW5.out]; exact ((Keeps.refl _ _).alloc _).alloc _
  have hk56 : Keeps (fun _ => False) w5 w6 := by rw [hw6]; exact (Keeps.refl _ _).alloc _
  have hBl : Blk w6 lb [.int .i64 8] 3 := by
    have h1 := (Blk.new w4 #[.int .i64 8] 3).alloc (.cells #[.pointer (some ⟨xb, 0, none⟩), .slice (some ⟨w4.heap.size, 0, none⟩) 1 1, .int .i64 0, .bool false, .int .i64 0] 54)
    rw [← HW5.out, ← hlb] at h1
    exact h1.kept hk56 (fun e => e)
  have hBh : Blk w6 hb [.pointer (some ⟨xb, 0, none⟩), .slice (some ⟨lb, 0, none⟩) 1 1, .int .i64 0, .bool false, .int .i64 0] 54 := by
    have h1 := Blk.new (w4.alloc (.cells #[.int .i64 8] 3)) #[.pointer (some ⟨xb, 0, none⟩), .slice (some ⟨w4.heap.size, 0, none⟩) 1 1, .int .i64 0, .bool false, .int .i64 0] 54
    rw [← HW5.out] at h1
    have e2 : (w4.alloc (.cells #[.int .i64 8] 3)).heap.size = hb := by rw [hhb]; simp
    rw [e2, ← hlb] at h1
    exact h1.kept hk56 (fun e => e)
  have hBq : Blk w6 qb (ivs (qOf n0 n0)) 66 := by
    have h1 := Blk.new w5 (ivs (qOf n0 n0)).toArray 66
    rw [← hw6, hs5] at h1
    rw [hqb]
    exact h1
  have HF : Hid (FR w w6 w.heap.size mb g qb hb [] [⟨X, .slice (some ⟨lb, 0, none⟩) 1 1, [4], [], false, 0⟩] (List.replicate 16 0) n0 n0) := by
    have hk46 := hk45.trans hk56 fun _ _ e => e
    have hk26 := H4.out.2.2.2.2.2.trans hk46 fun _ _ e => e
    have hs2 := H2.out.2.size
    have hs4 := H4.out.2.2.2.2.2.size
    have hg2 := H2.out.1.row.lt
    have hm2 := H2.out.1.blk.lt
    have hmg := HMB.out
    refine ⟨H2.out.1.grown hk26, hBq, ?_, ?_, ?_, (H2.out.2.trans hk26 fun _ _ e => e).none, rfl, ⟨rfl, ?_⟩⟩
    · rw [HXB.out] at hBh; exact hBh
    · intro C hC
      rw [List.mem_singleton.1 hC]
      refine ⟨H4.out.2.2.2.1.grown hk46, ⟨rfl, .inr ⟨lb, 1, #[.int .i64 8], rfl, Nat.zero_le _, hBl, Nat.le_refl _, by unfold maxLen; omega, rfl, rfl⟩⟩, H4.out.1, H4.out.2.1, H4.out.2.2.1, List.pairwise_singleton _ _, by simp, by simp, fun e => by cases e⟩
    · have one : ∀ {i : Nat} {C : Ck}, ([⟨X, .slice (some ⟨lb, 0, none⟩) 1 1, [4], [], false, 0⟩] : List Ck)[i]? = some C → i = 0 ∧ C = ⟨X, .slice (some ⟨lb, 0, none⟩) 1 1, [4], [], false, 0⟩ := by
        intro i C hC
        cases i with
        | zero => simp at hC; exact ⟨rfl, hC.symm⟩
        | succ i => simp at hC
      have kind : ∀ key k, FK (MF mb g) (· = qb) (· = hb) [⟨X, .slice (some ⟨lb, 0, none⟩) 1 1, [4], [], false, 0⟩] key k → (key = 0 ∧ w.heap.size ≤ k ∧ k < w2.heap.size) ∨ (key = 1 ∧ k = qb) ∨ (key = 2 ∧ k = hb) ∨ (key = 3 ∧ w2.heap.size ≤ k ∧ k < w4.heap.size) ∨ (key = 4 ∧ k = lb) := by
        rintro key k (⟨rfl, h⟩ | ⟨rfl, h⟩ | ⟨rfl, h⟩ | ⟨i, C, hC, h⟩)
        · refine .inl ⟨rfl, ?_⟩
          rcases h with rfl | rfl <;> omega
        · exact .inr (.inl ⟨rfl, h⟩)
        · exact .inr (.inr (.inl ⟨rfl, h⟩))
        · obtain ⟨rfl, rfl⟩ := one hC
          rcases h with ⟨rfl, h⟩ | ⟨rfl, h⟩
          · exact .inr (.inr (.inr (.inl ⟨rfl, H4.out.2.2.2.2.1 k h, H4.out.2.2.2.1.lt h⟩)))
          · refine .inr (.inr (.inr (.inr ⟨rfl, ?_⟩)))
            simp [RF, Value.ownBlock] at h
            exact h.symm
      refine ⟨?_, ?_, ?_⟩
      · intro a b k ha hb'
        rcases kind a k ha with h1 | h1 | h1 | h1 | h1 <;> rcases kind b k hb' with h2 | h2 | h2 | h2 | h2 <;> omega
      · intro a k ha
        rcases kind a k ha with h1 | h1 | h1 | h1 | h1 <;> omega
      · intro a k ha
        rcases kind a k ha with h1 | h1 | h1 | h1 | h1 <;> omega
    · intro r hr
      rcases cases5 hr with rfl | rfl | rfl | rfl | rfl <;> exact ⟨rfl, rfl⟩
  have c0 := hBh.cell (i := 0) rfl
  have HT := mv_ask HF.out (i := 0) (C := ⟨X, .slice (some ⟨lb, 0, none⟩) 1 1, [4], [], false, 0⟩) rfl rfl (by simp) (r := 4) rfl (by omega) (by simp [n0]) (by simp [n0]) (by simp [n0]) 5
  rw [Nat.zero_mul] at HT
  have HT : Hid (Calls _ _ _ _ _) := HT
  clear hBl hBh hBq hk45 hk56 hs5 hs6 hw6 hhb hqb hlb HW5 H2 HMB
  go_wp2_with fail
  refine HT.out.mono ?_
  rintro e w7 ⟨rfl, D, d1, d2, d3, d4, hF7⟩
  have HF7 : Hid (FR w w7 w.heap.size mb g qb hb [] [D] (lay (List.replicate 16 0) (2 * 4) [UInt32.ofNat (n0 4 + 1)]) (upd n0 4 (n0 4 + 1)) n0 ∧ D.lk = [4] ∧ D.pl = [0] ∧ D.ask = true ∧ D.X.b = xb) := ⟨hF7, d1, d2, d3, by rw [d4, HXB.out]⟩
  have HT2 := mv_got HF7.out.1 (i := 0) (C := D) rfl d3 (r := 4) (by rw [d1, d2]; rfl) (by rw [d2]; rfl) (by omega) 5
  rw [Nat.zero_mul] at HT2
  have HT2 : Hid (Calls _ _ _ _ _) := HT2
  clear hF7 d1 d2 d3 d4 HT HF c0 H4 HXB
  go_wp2_with fail
  refine HT2.out.mono ?_
  rintro e w8 ⟨rfl, E, d1, d2, d3, d4, hF8⟩
  have hE := hF8.ok E (by simp)
  have hcE := hF8.cells (i := 0) (C := E) rfl (t := 0) (by omega)
  have c08 := hF8.row.cell hcE
  replace c08 : w8.cell? ⟨hb, 0, none⟩ = some (.pointer (some ⟨xb, 0, none⟩)) := by
    have : w8.cell? ⟨hb, 0, none⟩ = some (.pointer (some ⟨E.X.b, 0, none⟩)) := c08
    rw [this, d4, HF7.out.2.2.2.2]
  have HAl := all_any E.X w8 hE.ch
  have hal : allB E.X = true := by unfold allB; rw [hE.st]; unfold Ck.stN; rw [d3, d2, d1, HF7.out.2.1, HF7.out.2.2.1]; rfl
  rw [hal, d4, HF7.out.2.2.2.2] at HAl
  have HAl : Hid (Calls _ _ _ _ _) := HAl
  have HF8 : Hid (FR w w8 w.heap.size mb g qb hb [] [E] (lay (List.replicate 16 0) (2 * 4) [UInt32.ofNat (n0 4 + 1)]) (upd n0 4 (n0 4 + 1)) n0) := hF8
  have HBg := begins_any a1 c1 ms w8 (H.out.1.low hF8.low) H.out.2.2.1 H.out.2.2.2.2.1
  rw [← H.out.2.2.2.2.2.2.1] at HBg
  have HBg : Hid (Calls _ _ _ _ _) := HBg
  clear hE hcE hal hF8 d1 d2 d3 d4 HT2 HF7
  go_wp2_with fail
  refine HAl.out.mono ?_
  rintro e wz ⟨rfl, hw⟩
  obtain rfl := hw.symm
  clear hw HAl
  go_wp2_with fail
  refine HBg.out.mono ?_
  rintro e w9 ⟨l, Cs, rfl, hI⟩
  obtain ⟨al, cl, rfl, hcl, hcl2⟩ := owns_slice hI.row
  have hn2 : (n2 : Int) ≤ 9223372036854775807 := by have := H.out.2.2.2.1; have := H.out.2.2.2.2.2.2.2; unfold maxLen at *; omega
  by_cases hn0 : min n1 5 = 0
  · rw [hn0]
    have HK9 : Hid (Keeps (fun _ => False) w w9) := (HF8.out.low.trans hI.keeps fun _ _ e => e.elim).mono fun b hb e => by omega
    clear hI hcl hcl2 c08 HBg HF8
    go_wp2_with fail
    go_loopw [12] (fun i wr => i = .int .i64 0 ∧ wr = w9) (fun i _ => 0)
    case atStart => exact ⟨rfl, rfl⟩
    case round =>
      obtain ⟨rfl, rfl⟩ := hrel
      by_cases h0 : 0 < n2
      · have h0' : (0 : Int) < n2 := by omega
        go_wp2
        go_ret
        exact ⟨rfl, HK9.out⟩
      · have h0' : ¬ (0 : Int) < n2 := by omega
        go_wp2
        go_ret
        exact ⟨rfl, HK9.out⟩
  · obtain ⟨n, hn⟩ : ∃ n, n = min n1 5 := ⟨_, rfl⟩
    rw [← hn] at hI hcl hn0 ⊢
    have hrow := hI.row
    rcases hrow.2 with ⟨_, h0⟩ | ⟨L, cap, cur, hv, _, hg9, hc1, hc2, hc3, hc4⟩
    · exact absurd h0 hn0
    cases hv
    have hsplit : cur.toList = kvs Cs ++ cur.toList.drop (n * 5) := by
      rw [← hc4, List.take_append_drop]
    have hBL : Blk w9 L (kvs Cs ++ cur.toList.drop (n * 5)) 54 := by
      rw [← hsplit]; unfold Blk; simpa using hg9
    obtain ⟨rest, hrest⟩ : ∃ rest, rest = cur.toList.drop (n * 5) := ⟨_, rfl⟩
    rw [← hrest] at hBL
    have HF9 : Hid (FR w w9 w.heap.size mb g qb L rest Cs (lay (List.replicate 16 0) (2 * 4) [UInt32.ofNat (n0 4 + 1)]) (upd n0 4 (n0 4 + 1)) n0 ∧ PI Cs (upd n0 4 (n0 4 + 1)) n0 ∧ Cs.length = n ∧ n ≤ 5 ∧ 0 < n) := by
      have h8 := HF8.out
      have hlow := h8.low.size
      refine ⟨⟨h8.mm.grown hI.keeps, h8.q.kept hI.keeps (fun e => e), hBL, fun C hC => (hI.ok C hC).1, ?_, h8.keeps.trans hI.keeps (fun _ _ e => e.elim), rfl, h8.wr⟩, PI.fresh (fun C hC => ⟨(hI.ok C hC).1.up, (hI.ok C hC).2.1, (hI.ok C hC).2.2.1, (hI.ok C hC).2.2.2⟩) (fun r hr => ⟨by rw [upd_ne _ _ _ _ (by omega)]; rfl, rfl⟩), hI.len, by omega, by omega⟩
      have kind : ∀ key k, FK (MF mb g) (· = qb) (· = L) Cs key k → (key < 2 ∧ FK (MF mb g) (· = qb) (· = hb) [E] key k ∧ k < w8.heap.size) ∨ (2 ≤ key ∧ FK nF nF (RF (.slice (some ⟨L, 0, none⟩) n cl)) Cs key k ∧ w8.heap.size ≤ k ∧ k < w9.heap.size) := by
        have up : ∀ key k, FK nF nF (RF (.slice (some ⟨L, 0, none⟩) n cl)) Cs key k → w8.heap.size ≤ k ∧ k < w9.heap.size := fun key k h => ⟨hI.sep.ge key k h, hI.sep.lt key k h⟩
        rintro key k (⟨rfl, h⟩ | ⟨rfl, h⟩ | ⟨rfl, rfl⟩ | ⟨i, C, hC, ⟨rfl, h⟩ | ⟨rfl, h⟩⟩)
        · exact .inl ⟨by omega, fk0 h, h8.sep.lt 0 k (fk0 h)⟩
        · exact .inl ⟨by omega, fk1 h, h8.sep.lt 1 k (fk1 h)⟩
        · have h2 : FK nF nF (RF (.slice (some ⟨k, 0, none⟩) n cl)) Cs 2 k := fk2 rfl
          exact .inr ⟨by omega, h2, up 2 k h2⟩
        · have h2 := fkX (a := nF) (b := nF) (c := RF (.slice (some ⟨L, 0, none⟩) n cl)) hC h
          exact .inr ⟨by omega, h2, up _ k h2⟩
        · have h2 := fkL (a := nF) (b := nF) (c := RF (.slice (some ⟨L, 0, none⟩) n cl)) hC h
          exact .inr ⟨by omega, h2, up _ k h2⟩
      have hsz := hI.keeps.size
      refine ⟨?_, ?_, ?_⟩
      · intro a b k ha hb'
        rcases kind a k ha with ⟨h1, h2, h3⟩ | ⟨h1, h2, h3⟩ <;> rcases kind b k hb' with ⟨h4, h5, h6⟩ | ⟨h4, h5, h6⟩
        · exact h8.sep.one a b k h2 h5
        · omega
        · omega
        · exact hI.sep.one a b k h2 h5
      · intro a k ha
        rcases kind a k ha with ⟨h1, h2, h3⟩ | ⟨h1, h2, h3⟩ <;> omega
      · intro a k ha
        rcases kind a k ha with ⟨h1, h2, h3⟩ | ⟨h1, h2, h3⟩
        · exact h8.sep.ge a k h2
        · omega
    have hnp : (0 : Int) < n := by omega
    have hn5 : (n : Int) ≤ 5 := by omega
    clear hI hcl hcl2 c08 HBg HF8 hrow hg9 hc1 hc2 hc3 hc4 hsplit hBL hrest hn
    have HI0 : Hid (FI w w.heap.size mb g qb L rest n 0 Cs (lay (List.replicate 16 0) (2 * 4) [UInt32.ofNat (n0 4 + 1)]) (upd n0 4 (n0 4 + 1)) n0 w9) := by
      refine ⟨HF9.out.1, HF9.out.2.1, HF9.out.2.2.1, fun r hr => ?_, rfl, rfl⟩
      rw [upd_ne _ _ _ _ (by omega)]; exact Nat.le_refl _
    have HN5 : Hid (n ≤ 5 ∧ 0 < n) := HF9.out.2.2.2
    clear HF9
    go_wp2_with fail
    go_loopw [12] (fun i wr => ∃ (j : Nat) (Cs : List Ck) (xs : List UInt32) (A G : Nat → Nat), j ≤ n2 ∧ i = .int .i64 j ∧ FI w w.heap.size mb g qb L rest n j Cs xs A G wr) (fun i _ => n2 - (intOf i).toNat)
    case atStart => exact ⟨0, _, _, _, _, by omega, rfl, HI0.out⟩
    case round =>
      clear HI0
      obtain ⟨j, Cs, xs, A, G, hj, rfl, hI⟩ := hrel
      have HI : Hid (FI w w.heap.size mb g qb L rest n j Cs xs A G wr) := hI
      by_cases hlt : j < n2
      · have hlt' : (j : Int) < n2 := by omega
        have hjx : j < ss.length := by have := H.out.2.2.2.2.2.2.2; omega
        obtain ⟨ga, oa, ha, hcell⟩ := (H.out.2.1.low hI.1.low).at hjx
        have hzr := H.out.2.2.2.2.2.1 _ (getD_mem hjx)
        obtain ⟨z, hz⟩ : ∃ z, z = ss.getD j 0 := ⟨_, rfl⟩
        rw [← hz] at hcell hzr
        have HP := pick_any z n wr (by omega) (by omega) hzr.1 hzr.2
        have hil := pk_lt z n (by omega)
        obtain ⟨i, hi⟩ : ∃ i, i = pk z n := ⟨_, rfl⟩
        rw [← hi] at HP hil
        have hiC : i < Cs.length := by rw [hI.2.2.1]; exact hil
        obtain ⟨C, hC⟩ : ∃ C, Cs[i]? = some C := ⟨_, List.getElem?_eq_getElem hiC⟩
        have c0 := hI.1.row.cell (hI.1.cells hC (t := 0) (by omega))
        rw [Nat.add_zero] at c0
        obtain ⟨xb2, hxb2⟩ : ∃ xb, xb = C.X.b := ⟨_, rfl⟩
        replace c0 : wr.cell? ⟨L, i * 5, none⟩ = some (.pointer (some ⟨xb2, 0, none⟩)) := by rw [hxb2]; exact c0
        have hz5 := tdiv_in 5 (by omega) hzr.1 hzr.2
        have HQ := pick_any (z.tdiv 5) 3 wr (by omega) (by omega) hz5.1 hz5.2
        have hw5 : IntKind.i64.wrap (z.tdiv 5) = z.tdiv 5 := by rw [IntKind.wrap_i64]; omega
        obtain ⟨K, hK⟩ : ∃ K, K = pk (z.tdiv 5) 3 := ⟨_, rfl⟩
        rw [← hK] at HQ
        have HP : Hid (Calls _ _ _ _ _) := HP
        have HQ : Hid (Calls _ _ _ _ _) := HQ
        have hil' : (i : Int) < n := by omega
        have hA : ∀ r, r < 5 → A r < 9223372036854775807 := by
          intro r hr
          by_cases h4 : r < 4
          · have h1 := hI.2.2.2.1 r h4
            have h2 := H.out.2.2.2.1
            unfold maxLen at h2
            omega
          · obtain rfl : r = 4 := by omega
            rw [hI.2.2.2.2.1]; omega
        have HMv := fair_moves hI.1 hI.2.1 (by rw [hI.2.2.1]; exact HN5.out.1) hC hA 5
        have HGv := fair_gives hI.1 hI.2.1 (by rw [hI.2.2.1]; exact HN5.out.1) hC hA 5
        have hFJ : ∀ e w', FairP w w.heap.size mb g qb L rest Cs A G i C e w' → e = .returned (.bool true) ∧ FJ w w.heap.size mb g qb L rest n j i xb2 w' := by
          rintro e w' ⟨he, D, xs', A', G', d1, d2, hF, hP, hA', h4, h5⟩
          refine ⟨he, Cs.set i D, D, xs', A', G', ⟨hF, hP, by rw [List.length_set]; exact hI.2.2.1, fun r hr => by have := hA' r; have := hI.2.2.2.1 r hr; omega, by rw [h4]; exact hI.2.2.2.2.1, by rw [h5]; exact hI.2.2.2.2.2⟩, set_get hC, by rw [d2, hxb2]⟩
        have HMv : Hid (Calls Try.prog 17 #[.pointer (some ⟨mb, 0, none⟩), .pointer (some ⟨L, i * 5, none⟩), .slice (some ⟨qb, 0, none⟩) 5 5] wr fun e w' => e = .returned (.bool true) ∧ FJ w w.heap.size mb g qb L rest n j i xb2 w') := HMv.mono fun e w' h => hFJ e w' h
        have HGv : Hid (Calls Try.prog 21 #[.pointer (some ⟨mb, 0, none⟩), .pointer (some ⟨L, i * 5, none⟩), .slice (some ⟨qb, 0, none⟩) 5 5] wr fun e w' => e = .returned (.bool true) ∧ FJ w w.heap.size mb g qb L rest n j i xb2 w') := HGv.mono fun e w' h => hFJ e w' h
        clear hI hzr hz hi hiC hC hz5 hK hA hFJ hxb2
        go_wp2_with fail
        refine HP.out.mono ?_
        rintro e wz ⟨rfl, hw⟩
        obtain rfl := hw.symm
        clear hw HP
        go_wp2_with fail
        refine HQ.out.mono ?_
        rintro e wz ⟨rfl, hw⟩
        obtain rfl := hw.symm
        clear hw HQ
        go_upto_if 92 with fail
        rw [← ha]
        clear ha hcell
        go_cut [14] from 61 to 101 (fun ok wx => ok = .bool true ∧ FJ w w.heap.size mb g qb L rest n j i xb2 wx)
        case first =>
          by_cases hK2 : K = 2
          · have hK2' : (K : Int) = 2 := by omega
            have hK3 : ((K : Int) == 2) = true := by rw [hK2']; rfl
            go_wp2_with fail
            refine HGv.out.mono ?_
            rintro e w10 ⟨rfl, hF⟩
            have HF10 : Hid (FJ w w.heap.size mb g qb L rest n j i xb2 w10) := hF
            clear hF
            go_wp2
            go_meet
            exact ⟨rfl, HF10.out⟩
          · have hK2' : ¬ (K : Int) = 2 := by omega
            have hK3 : ((K : Int) == 2) = false := beq_eq_false_iff_ne.2 hK2'
            go_wp2_with fail
            refine HMv.out.mono ?_
            rintro e w10 ⟨rfl, hF⟩
            have HF10 : Hid (FJ w w.heap.size mb g qb L rest n j i xb2 w10) := hF
            clear hF
            go_wp2
            go_meet
            exact ⟨rfl, HF10.out⟩
        case rest =>
          clear HMv HGv HI c0
          obtain ⟨rfl, Cs, D, xs, A, G, hI, hD, hDb⟩ := hcut
          have hO := hI.1.ok D (List.mem_of_getElem? hD)
          have cc : ∀ t, t < 5 → (kvs Cs ++ rest)[i * 5 + t]? = D.vs[t]? := fun t ht => hI.1.cells hD ht
          have c0 := hI.1.row.cell (cc 0 (by omega))
          rw [Nat.add_zero] at c0
          replace c0 : wc.cell? ⟨L, i * 5, none⟩ = some (.pointer (some ⟨xb2, 0, none⟩)) := by rw [← hDb]; exact c0
          have HAl := all_any D.X wc hO.ch
          have HSt := state_any D.X wc hO.ch
          rw [hDb] at HAl HSt
          obtain ⟨AB, hAB⟩ : ∃ AB, AB = allB D.X := ⟨_, rfl⟩
          rw [← hAB] at HAl
          have HAl : Hid (Calls _ _ _ _ _) := HAl
          have HSt : Hid (Calls _ _ _ _ _) := HSt
          have HIc : Hid (FI w w.heap.size mb g qb L rest n (j + 1) Cs xs A G wc ∧ Cs[i]? = some D ∧ D.X.b = xb2 ∧ AB = allB D.X) := ⟨hI, hD, hDb, hAB⟩
          clear hI hD hDb hAB hO cc
          go_wp2_with fail
          refine HAl.out.mono ?_
          rintro e wz ⟨rfl, hw⟩
          obtain rfl := hw.symm
          clear hw HAl
          go_wp2_with fail
          refine HSt.out.mono ?_
          rintro e w11 ⟨v', rfl, ho11, hf11, hk11⟩
          obtain ⟨a11, c11, rfl, -, -⟩ := owns_slice ho11
          have hI := HIc.out.1
          have hD := HIc.out.2.1
          have hO := hI.1.ok D (List.mem_of_getElem? hD)
          have hF11 := hI.1.grown hk11
          have hlen := hO.len
          obtain ⟨e1, e2, e3, e4, e5⟩ := hO.stand
          rw [e1, e2, e3]
          obtain ⟨al, cl2, hlv, -, -⟩ := owns_slice hO.row
          have hB11 := hF11.row
          have d0 := hB11.cell (hF11.cells hD (t := 0) (by omega))
          have d1 := hB11.cell (hF11.cells hD (t := 1) (by omega))
          have d2 := hB11.cell (hF11.cells hD (t := 2) (by omega))
          have d3 := hB11.cell (hF11.cells hD (t := 3) (by omega))
          obtain ⟨hd, hhd⟩ : ∃ hd, hd = D.held := ⟨_, rfl⟩
          obtain ⟨nl, hnl⟩ : ∃ nl, nl = D.lk.length := ⟨_, rfl⟩
          obtain ⟨aB, haB⟩ : ∃ aB, aB = D.ask := ⟨_, rfl⟩
          obtain ⟨np, hnp'⟩ : ∃ np, np = D.pl.length := ⟨_, rfl⟩
          replace d1 : w11.cell? ⟨L, i * 5 + 1, none⟩ = some D.lv := d1
          rw [hlv, ← hnl] at d1
          replace d2 : w11.cell? ⟨L, i * 5 + 2, none⟩ = some (.int .i64 (hd : Int)) := by rw [hhd]; exact d2
          replace d3 : w11.cell? ⟨L, i * 5 + 3, none⟩ = some (.bool aB) := by rw [haB]; exact d3
          have hBB : ((hd : Int) == (nl : Int)) = AB := by rw [HIc.out.2.2.2, e4, hhd, hnl]
          rw [← hhd, ← haB, ← hnp']
          rw [← hhd, ← haB, ← hnp'] at e5
          have HI11 : Hid (FI w w.heap.size mb g qb L rest n (j + 1) Cs xs A G w11 ∧ np = hd + (if aB then 1 else 0) ∧ hd ≤ 4294967296) := by
            refine ⟨⟨hF11, hI.2⟩, e5, ?_⟩
            have := hO.ch.small
            rw [hO.lk, lkI_len] at this
            have : hd ≤ D.pl.length := by rw [hhd]; unfold Ck.held; split <;> omega
            omega
          clear d0 ho11 hf11 hk11 hI hD hO hF11 hlen e1 e2 e3 e4 e5 hlv hB11 hhd hnl haB hnp' HIc HSt c0
          go_upto_if 122 with fail
          go_cut [19] from 61 to 125 (fun want wx => want = .int .i64 (np : Int) ∧ wx = w11)
          case first =>
            cases aB with
            | true =>
              have hw1 : IntKind.i64.wrap ((hd : Int) + 1) = (np : Int) := by rw [IntKind.wrap_i64]; have h1 := HI11.out.2.1; have h2 := HI11.out.2.2; simp at h1; omega
              go_wp2
              go_meet
              exact ⟨rfl, rfl⟩
            | false =>
              have hw1 : np = hd := by have h1 := HI11.out.2.1; simpa using h1
              subst hw1
              go_wp2
              go_meet
              exact ⟨rfl, rfl⟩
          case rest =>
            obtain ⟨rfl, hwc⟩ := hcut
            obtain rfl := hwc
            go_wp2_with fail
            go_quiet (fail)
            obtain ⟨w12, hw12⟩ : ∃ w12, w12 = wc.drewN nq := ⟨_, rfl⟩
            have HI12 : Hid (FI w w.heap.size mb g qb L rest n (j + 1) Cs xs A G w12) := by
              rw [hw12]
              exact ⟨HI11.out.1.1.grown ((Keeps.refl _ _).drewN _), HI11.out.1.2⟩
            rw [← hw12]
            clear hw12 HI11 d1 d2 d3 hBB
            go_wp2_with fail
            go_loopw [20] (fun i wr => ∃ r : Nat, r ≤ 5 ∧ i = .int .i64 r ∧ FI w w.heap.size mb g qb L rest n (j + 1) Cs xs A G wr) (fun i _ => 5 - (intOf i).toNat)
            case atStart => exact ⟨0, by omega, rfl, HI12.out⟩
            case round =>
              clear HI12
              obtain ⟨r, hr, rfl, hI⟩ := hrel
              have HI13 : Hid (FI w w.heap.size mb g qb L rest n (j + 1) Cs xs A G wr) := hI
              have hr' : (r : Int) ≤ 5 := by omega
              by_cases hr5 : r < 5
              · have hr5' : (r : Int) < 5 := by omega
                have hb : G r ≤ A r ∧ A r ≤ G r + 6 := by
                  by_cases h4 : r < 4
                  · have := hI.2.1.bound (by rw [hI.2.2.1]; exact HN5.out.1) h4; omega
                  · obtain rfl : r = 4 := by omega
                    have := hI.2.2.2.2; omega
                have HW := hI.1.wait hr5 hb.1 hb.2
                have hAs : A r ≤ 9223372036854775807 := by
                  by_cases h4 : r < 4
                  · have h1 := hI.2.2.2.1 r h4
                    have h2 := H.out.2.2.2.1
                    have h3 := H.out.2.2.2.2.2.2.2
                    unfold maxLen at h2
                    omega
                  · obtain rfl : r = 4 := by omega
                    have := hI.2.2.2.2; omega
                obtain ⟨a, ha⟩ : ∃ a : Int, a = (A r : Int) := ⟨_, rfl⟩
                obtain ⟨b, hb'⟩ : ∃ b : Int, b = (G r : Int) := ⟨_, rfl⟩
                rw [← ha, ← hb'] at HW
                have hab : IntKind.i64.wrap (a - b) = a - b := by rw [IntKind.wrap_i64]; omega
                have HW : Hid (Calls _ _ _ _ _) := HW
                have HAB : Hid (a = (A r : Int) ∧ b = (G r : Int)) := ⟨ha, hb'⟩
                clear hI hb hAs ha hb'
                go_wp2_with fail
                refine HW.out.mono ?_
                rintro e w13 ⟨rfl, hk13⟩
                have hI := HI13.out.1.grown hk13
                have cqa := hI.q.cell (i := r * 2) (v := .int .i64 a) (by rw [ivs_get _ _ (by show r * 2 < 10; omega), HAB.out.1, ← qOf_A A G hr5]; simp [List.getD, List.getElem?_eq_getElem (show r * 2 < (qOf A G).length by show r * 2 < 10; omega)])
                have cqb := hI.q.cell (i := r * 2 + 1) (v := .int .i64 b) (by rw [ivs_get _ _ (by show r * 2 + 1 < 10; omega), HAB.out.2, ← qOf_G A G hr5]; simp [List.getD, List.getElem?_eq_getElem (show r * 2 + 1 < (qOf A G).length by show r * 2 + 1 < 10; omega)])
                have HI14 : Hid (FI w w.heap.size mb g qb L rest n (j + 1) Cs xs A G w13) := ⟨hI, HI13.out.2⟩
                clear hI hk13 HW
                go_wp2_with fail
                go_quiet (fail)
                obtain ⟨w14, hw14⟩ : ∃ w14, w14 = w13.drewN nq := ⟨_, rfl⟩
                have HI15 : Hid (FI w w.heap.size mb g qb L rest n (j + 1) Cs xs A G w14) := by
                  rw [hw14]
                  exact ⟨HI14.out.1.grown ((Keeps.refl _ _).drewN _), HI14.out.2⟩
                rw [← hw14]
                clear hw14 HI14 cqa cqb
                go_wp2
                go_roundw
                case rel => exact ⟨r + 1, by omega, by go_num, HI15.out⟩
                case measure => simp [intOf]; omega
              · have hr5' : ¬ (r : Int) < 5 := by omega
                have HRd := ready_any Cs rest L cl qb (qOf A G) 5 wr (by intro e; have := hI.2.2.1; rw [e] at this; simp at this; have := HN5.out.2; omega) hI.1.row hI.1.q rfl hI.1.ok (fun C hC => by have := (hI.1.ok C hC).len; unfold Ck.held; split <;> omega) (hI.1.rdy hI.2.1 (by intro e; have := hI.2.2.1; rw [e] at this; simp at this; have := HN5.out.2; omega)) (by rw [hI.2.2.1]; exact HN5.out.1)
                rw [hI.2.2.1] at HRd
                have HRd : Hid (Calls _ _ _ _ _) := HRd
                clear hI
                go_wp2_with fail
                refine HRd.out.mono ?_
                rintro e w13 ⟨rfl, hk13⟩
                have HI14 : Hid (FI w w.heap.size mb g qb L rest n (j + 1) Cs xs A G w13) := ⟨HI13.out.1.grown hk13, HI13.out.2⟩
                clear hk13 HRd
                go_wp2
                go_roundw
                case rel => exact ⟨j + 1, Cs, xs, A, G, by omega, by go_num, HI14.out⟩
                case measure => simp [intOf]; omega
      · have hlt' : ¬ (j : Int) < n2 := by omega
        clear hI
        go_wp2
        go_ret
        exact ⟨rfl, HI.out.1.low.mono fun b hb e => by omega⟩

end Go.Proofs.Ytadhldpeklkcmaa
