import Derived.Test.YtfcgpjojjehkiaaRk
namespace Go.Proofs.Ytfcgpjojjehkiaa
open Go.RowKit
set_option linter.unusedVariables false
set_option linter.unusedSimpArgs false

theorem hV_seg {w : World} {h n G c : Nat} {l : List UInt32} {va : Option Addr} {vk vc : Nat} (hs : SegW w (some ⟨G, 0, none⟩) l) (hl : l.length = h + n) (hr : rightB h n l = true) (hv : .slice va vk vc = hV h l G c) : vk = (hM h l).length ∧ SegW w va (hM h l) ∧ (hM h l).length ≤ n ∧ (hT l = true → 1 ≤ (hM h l).length) ∧ (va = none ∨ va = some ⟨G, h, none⟩) := by
  unfold hV at hv
  unfold hM hT
  by_cases h0 : wd l 0 = 0
  · rw [if_pos h0] at hv ⊢
    injection hv with q1 q2 q3
    exact ⟨q2, .inl rfl, Nat.zero_le _, (fun e => by simp [h0] at e), .inl q1⟩
  · rw [if_neg h0] at hv ⊢
    injection hv with q1 q2 q3
    obtain ⟨-, k1, k2⟩ := right_len hr h0
    have hmm : ((l.drop h).take (wd l (h - 1)).toNat).length = (wd l (h - 1)).toNat := by simp; omega
    refine ⟨by rw [hmm]; exact q2, ?_, by rw [hmm]; exact k2, (fun _ => by rw [hmm]; exact k1), .inr q1⟩
    rw [q1]
    refine .inr ⟨G, h, rfl, fun i hi => ?_⟩
    rw [hmm] at hi
    have := hs.wd (j := h + i) (by omega)
    rw [Nat.zero_add] at this
    rw [this, wd_get (by omega)]
    simp

/-- What the stage held, while things are delivered. -/
structure Ds (w wr : World) (g Hb Gs : Nat) (T F : Bool) (sv : Value) (ls : List UInt32) : Prop where
  k : Keeps (· = g) w wr
  hb : Blk wr Hb [.bool T, .bool F, sv] 83
  sg : SegW wr (some ⟨Gs, 0, none⟩) ls
  n1 : Hb ≠ g
  n2 : Gs ≠ g
theorem Ds.kept {w wr w' : World} {g Hb Gs : Nat} {T F : Bool} {sv : Value} {ls : List UInt32} (h : Ds w wr g Hb Gs T F sv ls) (k : Keeps (· = g) wr w') : Ds w w' g Hb Gs T F sv ls :=
  ⟨h.k.trans k fun _ _ e => e, h.hb.kept k h.n1, h.sg.kept k (fun x e => by cases e; exact h.n2), h.n1, h.n2⟩
theorem keeps_g {w w' : World} {g : Nat} (k : Keeps (fun _ => False) w w') : Keeps (· = g) w w' := k.mono fun _ _ e => e.elim

/-- The words of port i, at first. -/
abbrev pl (xs : List UInt32) (n : Int) (ports : List Int) (i : Nat) : List UInt32 := wn xs (bxq n (ports.getD i 0))
/-- What the ports held. -/
structure Olds (wr : World) (g Ob : Nat) (xs : List UInt32) (n : Int) (ports : List Int) (j : Nat) : Prop where
  ne : Ob ≠ g
  row : ∃ cells, Blk wr Ob cells 83 ∧ cells.length = ports.length * 3 ∧ ∀ i, i < j → ∃ G c va vk vc, cells[i * 3]? = some (.bool (hT (pl xs n ports i))) ∧ cells[i * 3 + 1]? = some (.bool (hF 3 (pl xs n ports i))) ∧ cells[i * 3 + 2]? = some (.slice va vk vc) ∧ .slice va vk vc = hV 3 (pl xs n ports i) G c ∧ SegW wr (some ⟨G, 0, none⟩) (pl xs n ports i) ∧ G ≠ g ∧ G ≠ Ob
theorem Olds.kept {wr w' : World} {g Ob : Nat} {xs : List UInt32} {n : Int} {ports : List Int} {j : Nat} (h : Olds wr g Ob xs n ports j) (k : Keeps (· = g) wr w') : Olds w' g Ob xs n ports j := by
  obtain ⟨cells, h1, h2, h3⟩ := h.row
  refine ⟨h.ne, cells, h1.kept k h.ne, h2, fun i hi => ?_⟩
  obtain ⟨G, c, va, vk, vc, q1, q2, q3, q4, q5, q6, q7⟩ := h3 i hi
  exact ⟨G, c, va, vk, vc, q1, q2, q3, q4, q5.kept k (fun x e => by cases e; exact q6), q6, q7⟩
theorem Olds.put {wr : World} {g Ob : Nat} {xs : List UInt32} {n : Int} {ports : List Int} {j : Nat} (h : Olds wr g Ob xs n ports j) (hj : j < ports.length) {G c : Nat} {va : Option Addr} {vk vc : Nat} (hv : .slice va vk vc = hV 3 (pl xs n ports j) G c) (hs : SegW wr (some ⟨G, 0, none⟩) (pl xs n ports j)) (n1 : G ≠ g) (n2 : G ≠ Ob) :
    Olds (((wr.setCell ⟨Ob, j * 3, none⟩ (.bool (hT (pl xs n ports j)))).setCell ⟨Ob, j * 3 + 1, none⟩ (.bool (hF 3 (pl xs n ports j)))).setCell ⟨Ob, j * 3 + 2, none⟩ (.slice va vk vc)) g Ob xs n ports (j + 1) := by
  obtain ⟨cells, h1, h2, h3⟩ := h.row
  have hk : Keeps (· = Ob) wr (((wr.setCell ⟨Ob, j * 3, none⟩ (.bool (hT (pl xs n ports j)))).setCell ⟨Ob, j * 3 + 1, none⟩ (.bool (hF 3 (pl xs n ports j)))).setCell ⟨Ob, j * 3 + 2, none⟩ (.slice va vk vc)) := (((Keeps.refl (· = Ob) wr).setCell ⟨Ob, j * 3, none⟩ _ fun _ => rfl).setCell ⟨Ob, j * 3 + 1, none⟩ _ fun _ => rfl).setCell ⟨Ob, j * 3 + 2, none⟩ _ fun _ => rfl
  refine ⟨h.ne, ((cells.set (j * 3) (.bool (hT (pl xs n ports j)))).set (j * 3 + 1) (.bool (hF 3 (pl xs n ports j)))).set (j * 3 + 2) (.slice va vk vc), ((h1.setCell _ _).setCell _ _).setCell _ _, by simp [h2], fun i hi => ?_⟩
  by_cases e : i = j
  · subst e
    refine ⟨G, c, va, vk, vc, ?_, ?_, ?_, hv, hs.kept hk (fun x e => by cases e; exact n2), n1, n2⟩
    · rw [List.getElem?_set_ne (by omega), List.getElem?_set_ne (by omega), List.getElem?_set_self (by omega)]
    · rw [List.getElem?_set_ne (by omega), List.getElem?_set_self (by simp; omega)]
    · rw [List.getElem?_set_self (by simp; omega)]
  · obtain ⟨G', c', va', vk', vc', q1, q2, q3, q4, q5, q6, q7⟩ := h3 i (by omega)
    refine ⟨G', c', va', vk', vc', ?_, ?_, ?_, q4, q5.kept hk (fun x e => by cases e; exact q7), q6, q7⟩
    · rw [List.getElem?_set_ne (by omega), List.getElem?_set_ne (by omega), List.getElem?_set_ne (by omega)]; exact q1
    · rw [List.getElem?_set_ne (by omega), List.getElem?_set_ne (by omega), List.getElem?_set_ne (by omega)]; exact q2
    · rw [List.getElem?_set_ne (by omega), List.getElem?_set_ne (by omega), List.getElem?_set_ne (by omega)]; exact q3
theorem Olds.cells {wr : World} {g Ob : Nat} {xs : List UInt32} {n : Int} {ports : List Int} {j : Nat} (h : Olds wr g Ob xs n ports j) {i : Nat} (hi : i < ports.length) : ∀ r, r < 3 → (∃ v, wr.cell? ⟨Ob, i * 3 + r, none⟩ = some v) ∧ wr.frozen? ⟨Ob, i * 3 + r, none⟩ = false := by
  obtain ⟨cells, h1, h2, h3⟩ := h.row
  intro r hr
  exact ⟨⟨_, h1.cell (List.getElem?_eq_getElem (show i * 3 + r < cells.length by omega))⟩, h1.frozen _⟩

theorem Try.info83 : (Try.prog.info? 83).map (fun i => (i.zero, i.size, i.bytes)) = some (some (.agg #[.bool false, .bool false, .slice none 0 0]), 3, 32) := by kernel_rfl
theorem run_make_helds {w : World} (n : Nat) (hn : n ≤ 1000) :
    ∃ cells : List Value, cells.length = n * 3 ∧ (Instr.makeSlice 88 (.int .i64 n) (.int .i64 n)).run Try.prog w = .ok (.slice (some ⟨w.heap.size, 0, none⟩) n n) (w.alloc (.cells cells.toArray 83)) := by
  obtain ⟨i0, hi, hz0, hz1, hz2⟩ := info_parts Try.info83
  have h := run_make (P := Try.prog) w 88 83 i0 _ Try.underlying88 hi hz0 .i64 .i64 n n (by omega) (by omega) (by rw [hz2]; omega) (by omega)
  rw [hz1, Int.toNat_natCast] at h
  refine ⟨(madeCells (Value.agg #[.bool false, .bool false, .slice none 0 0]).cells (n * 3)).toList, by simp [madeCells], ?_⟩
  rw [Array.toArray_toList]
  exact h

set_option maxHeartbeats 400000 in
theorem rdl_stand (nil : Bool) (b : Nat) (p n : Int) (v : Value) (w : World) (he : sdE nil n ≠ 0) :
    Calls Try.prog 31 #[mpv nil b, .int .i64 p, .int .i64 n, v] w fun e w' => e = .returned (.int .i64 (sdE nil n)) ∧ w' = w := by
  have HS := stand_any nil b n w
  obtain ⟨E, hE⟩ : ∃ E, E = sdE nil n := ⟨_, rfl⟩
  rw [← hE] at HS he ⊢
  have hE2 : (E != 0) = true := bne_iff_ne.2 he
  unfold mpv at HS ⊢
  obtain ⟨pv, hpv⟩ : ∃ pv : Option Addr, pv = if nil then none else some ⟨b, 0, none⟩ := ⟨_, rfl⟩
  rw [← hpv] at HS ⊢
  have HS : Hid (Calls _ _ _ _ _) := HS
  clear he hE hpv
  go_enter Try.func31, Try.ntmps31
  go_wp2_with fail
  refine HS.out.mono ?_
  rintro e w1 ⟨rfl, hw⟩
  obtain rfl := hw.symm
  clear hw HS
  go_wp2
  go_ret
  exact ⟨rfl, rfl⟩

set_option maxHeartbeats 400000 in
theorem rdl_arg (b : Nat) (p n : Int) (a : Option Addr) (N c : Nat) (w : World) (h1 : 1 ≤ n) (h2 : n ≤ 16) (h : N < 1 ∨ 4 < N) :
    Calls Try.prog 31 #[.pointer (some ⟨b, 0, none⟩), .int .i64 p, .int .i64 n, .slice a N c] w fun e w' => e = .returned (.int .i64 1) ∧ w' = w := by
  have HS := stand_any false b n w
  rw [show sdE false n = 0 by unfold sdE; rw [if_neg (by simp), if_neg (by omega)]] at HS
  have HS : Hid (Calls _ _ _ _ _) := HS
  have hkk : (N : Int) < 1 ∨ (¬ (N : Int) < 1 ∧ 4 < (N : Int)) := by omega
  clear h h1 h2
  rcases hkk with g1 | ⟨g1, g2⟩
  all_goals
    go_enter Try.func31, Try.ntmps31
    go_wp2_with fail
    refine HS.out.mono ?_
    rintro e w1 ⟨rfl, hw⟩
    obtain rfl := hw.symm
    clear hw HS
    go_wp2
    go_ret
    exact ⟨rfl, rfl⟩

end Go.Proofs.Ytfcgpjojjehkiaa
