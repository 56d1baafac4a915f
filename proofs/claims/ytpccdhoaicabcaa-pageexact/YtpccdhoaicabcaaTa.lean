import Derived.Test.YtpccdhoaicabcaaP
import Derived.Test.YtpccdhoaicabcaaM
import Derived.Deep.CutBlock
import Derived.Deep.CutRange
namespace Go.Proofs.Ytpccdhoaicabcaa
open Go.RowKit Go.Shelf
attribute [local go_sem] Oper.semAt_some
set_option linter.unusedVariables false

/-- What Tables answers: a number, an error. -/
def TabP (rs : List Rgn) (m e : Nat) : Prop :=
  (8 < rs.length ∧ m = 0 ∧ e = 2) ∨ (rs.length ≤ 8 ∧ ¬ MayB rs ∧ m = 0 ∧ e = 95) ∨ (rs.length ≤ 8 ∧ MayB rs ∧ m = cnt (findL rs) 16 ∧ e = 0)

theorem OnT.kept {S : Nat → Prop} {B1 B : Nat} {a : Option Addr} {rs : List Rgn} {c : Nat} {W W' : World} (h : OnT B1 B a rs c W) (hK : Keeps S W W') (h1 : ¬ S B1) (hB : ¬ S B) (ha : ∀ x, a = some x → ¬ S x.block) : OnT B1 B a rs c W' :=
  ⟨cell_kept h.p1 hK h1, h.fd.kept hK hB ha⟩

/-- Where the count is. -/
structure TI (w : World) (M B1 B : Nat) (a : Option Addr) (rs : List Rgn) (c : Nat) (s : Nat) (W : World) : Prop where
  on : OnT B1 B a rs c W
  le : s ≤ 16
  m : Blk W M [.int .i64 (cnt (findL rs) s : Nat)] 3
  k : Keeps (fun _ => False) w W

theorem SegR.lt {w : World} {a : Option Addr} {rs : List Rgn} (h : SegR w a rs) (hr : rs ≠ []) : ∀ x, a = some x → x.block < w.heap.size := by
  intro x hx
  rcases h with h | ⟨g, o, ha, hc⟩
  · exact absurd h hr
  · obtain ⟨r, l, hl⟩ : ∃ r l, rs = r :: l := List.exists_cons_of_ne_nil hr
    have := (hc 0 r (by rw [hl]; rfl)).1
    rw [ha] at hx; cases hx
    exact World.block_lt_of_cell? w ⟨g, o + 0 * 4, none⟩ this

theorem SegR.kept2 {S : Nat → Prop} {w w' : World} {a : Option Addr} {rs : List Rgn} (h : SegR w a rs) (hK : Keeps S w w') (hn : ∀ x, a = some x → x.block < w.heap.size → ¬ S x.block) : SegR w' a rs := by
  rcases h with h | ⟨g, o, ha, hc⟩
  · exact .inl h
  · exact .inr ⟨g, o, ha, fun j l hj => (hc j l hj).kept hK (hn _ ha (World.block_lt_of_cell? w ⟨g, o + j * 4, none⟩ (hc j l hj).1))⟩

set_option maxHeartbeats 1000000 in
theorem tables_bad (a : Option Addr) (rs : List Rgn) (c : Nat) (w : World) (hl : rs.length ≤ c ∧ c ≤ maxLen) (hs : SegR w a rs) (hf : ∀ r, r ∈ rs → r.Fine) (hb : 8 < rs.length ∨ ¬ MayB rs) :
    Calls Try.prog 33 #[.slice a rs.length c] w fun e w' => (∃ m z : Nat, e = .returned (.tuple #[.int .i64 m, .int .i64 z]) ∧ TabP rs m z) ∧ Keeps (fun _ => False) w w' := by
  obtain ⟨L, hL⟩ : ∃ L, L = rs.length := ⟨_, rfl⟩
  have hc2 : (L : Int) ≤ c := by omega
  have hc3 : (c : Int) ≤ 9223372036854775807 := by unfold maxLen at hl; omega
  by_cases h8 : 8 < rs.length
  · have HH : Hid (TabP rs 0 2) := .inl ⟨h8, rfl, rfl⟩
    rw [← hL] at h8 ⊢
    have h8' : (8 : Int) < L := by omega
    clear hl hs hf hb hL
    refine (callsIn_wide (n := 8)).1 ?_
    refine callsIn_of_wp_marks Try.func33 rfl trivial ?_ rfl
    refine wpIn_wide.2 ?_
    simp only [Try.ntmps33, List.size_toArray, List.length_cons, List.length_nil, Nat.reduceAdd, Nat.reduceSub, Array.replicate_succ, Array.replicate_zero, List.push_toArray, List.append_toArray, List.nil_append, List.cons_append]
    go_wp2
    refine ⟨_, results_tmp2 rfl _ _ _, ⟨0, 2, rfl, HH.out⟩, Keeps.refl _ _⟩
  · have hb : ¬ MayB rs := by rcases hb with h | h; exact absurd h h8; exact h
    have HM : Hid (Calls _ _ _ _ _) := mayBe_any a rs c w hl hs hf
    have HB : Hid (¬ MayB rs) := hb
    have HH : Hid (TabP rs 0 95) := .inr (.inl ⟨by omega, hb, rfl, rfl⟩)
    rw [← hL] at h8 HM ⊢
    have h8' : ¬ (8 : Int) < L := by omega
    clear hl hs hf hb hL
    refine (callsIn_wide (n := 8)).1 ?_
    refine callsIn_of_wp_marks Try.func33 rfl trivial ?_ rfl
    refine wpIn_wide.2 ?_
    simp only [Try.ntmps33, List.size_toArray, List.length_cons, List.length_nil, Nat.reduceAdd, Nat.reduceSub, Array.replicate_succ, Array.replicate_zero, List.push_toArray, List.append_toArray, List.nil_append, List.cons_append]
    go_wp2_with fail
    refine HM.out.mono ?_
    rintro e w1 ⟨⟨b, rfl, hb⟩, hK⟩
    have HK : Hid (Keeps (fun _ => False) w w1) := hK
    have hbf : b = false := by
      cases b
      · rfl
      · exact absurd (hb.1 rfl) HB.out
    subst hbf
    clear hb hK HM
    go_wp2
    exact ⟨_, results_tmp2 rfl _ _ _, ⟨0, 95, rfl, HH.out⟩, HK.out⟩

set_option maxRecDepth 20000 in
set_option maxHeartbeats 2000000 in
theorem tables_good (a : Option Addr) (rs : List Rgn) (c : Nat) (w : World) (hl : rs.length ≤ c ∧ c ≤ maxLen) (hs : SegR w a rs) (hf : ∀ r, r ∈ rs → r.Fine) (h8 : rs.length ≤ 8) (hm : MayB rs) :
    Calls Try.prog 33 #[.slice a rs.length c] w fun e w' => (∃ m z : Nat, e = .returned (.tuple #[.int .i64 m, .int .i64 z]) ∧ TabP rs m z) ∧ Keeps (fun _ => False) w w' := by
  have HM : Hid (Calls _ _ _ _ _) := mayBe_any a rs c w hl hs hf
  have HB : Hid (MayB rs ∧ SegR w a rs ∧ (rs.length ≤ c ∧ c ≤ maxLen) ∧ rs.length ≤ 8) := ⟨hm, hs, hl, h8⟩
  obtain ⟨L, hL⟩ : ∃ L, L = rs.length := ⟨_, rfl⟩
  have HL : Hid (L = rs.length) := hL
  rw [← hL] at h8 HM ⊢
  have h8' : ¬ (8 : Int) < L := by omega
  have hc3 : (c : Int) ≤ 9223372036854775807 := by unfold maxLen at hl; omega
  clear hl hs hf hm hL h8
  refine (callsIn_wide (n := 8)).1 ?_
  refine callsIn_of_wp_marks Try.func33 rfl trivial ?_ rfl
  refine wpIn_wide.2 ?_
  simp only [Try.ntmps33, List.size_toArray, List.length_cons, List.length_nil, Nat.reduceAdd, Nat.reduceSub, Array.replicate_succ, Array.replicate_zero, List.push_toArray, List.append_toArray, List.nil_append, List.cons_append]
  go_wp2_with fail
  refine HM.out.mono ?_
  rintro e w1 ⟨⟨b, rfl, hb⟩, hK⟩
  obtain rfl : b = true := hb.2 HB.out.1
  have HK : Hid (Keeps (fun _ => False) w w1) := hK
  clear hb hK HM
  go_wp2_with fail
  have HS : Hid (∀ W', Calls _ _ _ W' _) := fun W' => standing_any a L c W'
  refine (HS.out _).mono ?_
  rintro e w2 ⟨rfl, hb2, hk2⟩
  obtain ⟨M, hM⟩ : ∃ M, M = w1.heap.size := ⟨_, rfl⟩
  have hbM : Blk w2 M [.int .i64 0] 3 := by rw [hM]; exact (Blk.new w1 _ 3).kept hk2 fun h => h
  have hkw2 : Keeps (fun _ => False) w w2 := (HK.out.alloc _).trans hk2 fun _ _ h => h
  obtain ⟨B, hB⟩ : ∃ B, B = (w1.alloc (.cells #[.int .i64 0] 3)).heap.size := ⟨_, rfl⟩
  have hB' : B = w1.heap.size + 1 := by rw [hB]; simp
  rw [← hB] at hb2 ⊢
  rw [← hM]
  rw [← hM] at hB'
  have H2 : Hid (Blk w2 M [.int .i64 0] 3 ∧ Blk w2 B [.slice a L c] 29 ∧ Keeps (fun _ => False) w w2 ∧ B = M + 1 ∧ w.heap.size ≤ M) := ⟨hbM, hb2, hkw2, hB', by rw [hM]; exact HK.out.size⟩
  clear hbM hb2 hkw2 hB hM hk2 hB' HS HK
  go_wp2_with fail
  have HN : Hid (∀ W' B, Calls _ _ _ W' _) := fun W' B => needed_any (.func (.func 63) #[] #[.pointer (some ⟨B, 0, none⟩)]) W' ⟨_, _, rfl⟩
  refine (HN.out _ _).mono ?_
  rintro e w3 ⟨rfl, hb3, hk3⟩
  obtain ⟨B1, hB1⟩ : ∃ B1, B1 = w2.heap.size := ⟨_, rfl⟩
  rw [← hB1] at hb3 ⊢
  have h0 : TI w M B1 B a rs c 0 w3 := by
    obtain ⟨x1, x2, x3, x4, x5⟩ := H2.out
    refine ⟨⟨hb3.cell rfl, ⟨?_, HB.out.2.2.1, (HB.out.2.1.grown x3).grown hk3, may_ok HB.out.1⟩⟩, by omega, x1.kept hk3 fun h => h, x3.trans hk3 fun _ _ h => h⟩
    have := (x2.kept hk3 fun h => h).cell (i := 0) rfl
    rw [HL.out] at this; exact this
  have HZ : Hid (M < w3.heap.size ∧ B < w3.heap.size ∧ B1 < w3.heap.size ∧ w.heap.size ≤ M ∧ w.heap.size ≤ w3.heap.size ∧ M ≠ B ∧ M ≠ B1 ∧ B = M + 1 ∧ B < B1) := by
    obtain ⟨x1, x2, x3, x4, x5⟩ := H2.out
    have y1 := h0.m.lt
    have y2 := World.block_lt_of_cell? w3 _ h0.on.fd.box
    have y3 := World.block_lt_of_cell? w3 _ h0.on.p1
    have y4 := x2.lt
    have y5 := x1.lt
    simp only at y2 y3
    refine ⟨y1, y2, y3, x5, h0.k.size, ?_, ?_, x4, ?_⟩ <;> omega
  have HI : Hid (TI w M B1 B a rs c 0 w3) := h0
  have kp : ∀ s W W', Keeps (fun k => k = w3.heap.size ∨ k = w3.heap.size + 1) W W' → TI w M B1 B a rs c s W → TI w M B1 B a rs c s W' := fun s W W' hK h => by
    obtain ⟨z1, z2, z3, z4, z5, z6, z7, z8, z9⟩ := HZ.out
    have hk' := h.k.trans hK (fun b hb e => by omega)
    exact ⟨⟨cell_kept h.on.p1 hK (by omega), ⟨cell_kept h.on.fd.box hK (by omega), h.on.fd.len, (HB.out.2.1.grown hk'), h.on.fd.ok⟩⟩, h.le, h.m.kept hK (by omega), hk'⟩
  clear hb3 hk3 h0 HN H2 hB1
  go_wp2_with fail
  refine (wpIn_wide (n := 8)).1 ?_
  refine range_live3 (σ := Nat) (α := Nat × Nat) rfl (by omega) (gf := 68) (lb := #[.pointer (some ⟨B1, 0, none⟩)]) rfl trivial (enters_of Try.func68 (by kernel_rfl) rfl)
    (needed_tells 7 (w3.heap.size + 2) B1 B a rs c) (fun _ => rfl) (TI w M B1 B a rs c) (fun _ _ => False) kp
    (fun s x W W' hK hi ht => ?tell) (fun _ _ _ _ h => h) (fun s W hz hi => ⟨hi.on, by omega⟩) (fun s s' W hi hs => ?skip) HI.out ?body ?done ?stop
  case stop =>
    rintro c W h _
    exact h.elim
  case tell => exact ⟨ht.1, ht.2.1, ht.2.2.1, ht.2.2.2.1, ht.2.2.2.2.kept hK (by have := ht.2.2.2.1; omega)⟩
  case skip =>
    obtain ⟨rfl, hlt, hn⟩ := hs
    refine ⟨hi.on, by omega, ?_, hi.k⟩
    have := hi.m
    rw [show cnt (findL rs) (s + 1) = cnt (findL rs) s by show cnt (findL rs) s + _ = _; rw [hn]; rfl]
    exact this
  case body =>
    intro l s x W0 _ _
    unfold encT
    gi_wp2
    refine ⟨Keeps.refl _ _, ?_⟩
    intro W hkA hlt hi ht
    have m0 := hi.m.cell (i := 0) rfl
    have mz := hi.m.frozen 0
    have hle : ((cnt (findL rs) s : Nat) : Int) ≤ 16 := by have := cnt_le (findL rs) s; have := hi.le; omega
    obtain ⟨C, hC⟩ : ∃ C, C = cnt (findL rs) s := ⟨_, rfl⟩
    have HC : Hid (C = cnt (findL rs) s) := hC
    rw [← hC] at m0 hle
    have HH : Hid (TI w M B1 B a rs c s W ∧ TellT (w3.heap.size + 2) rs s x W) := ⟨hi, ht⟩
    clear hC hi ht hkA
    gi_wp2
    obtain ⟨hi, ht⟩ := HH.out
    obtain ⟨z1, z2, z3, z4, z5, z6, z7, z8, z9⟩ := HZ.out
    have hKs : Keeps (fun k => k = M) W (W.setCell ⟨M, 0, none⟩ (.int .i64 ((C : Int) + 1))) := (Keeps.refl _ W).setCell _ _ fun _ => rfl
    have hk' := hi.k.trans hKs (fun b hb e => by omega)
    refine ⟨⟨hKs.block _ (by omega) (by omega), hKs.block _ (by omega) (by omega)⟩, ⟨⟨cell_kept hi.on.p1 hKs (by omega), ⟨cell_kept hi.on.fd.box hKs (by omega), hi.on.fd.len, HB.out.2.1.grown hk', hi.on.fd.ok⟩⟩, by have := ht.2.1; omega, ?_, hk'⟩⟩
    rw [show cnt (findL rs) (s + 1) = C + 1 by show cnt (findL rs) s + _ = _; rw [ht.2.2.1, HC.out]; rfl]
    have := hi.m.setCell 0 (.int .i64 ((C : Int) + 1))
    exact this
  case done =>
    rintro s W rfl hi hD
    have m0 := hi.m.cell (i := 0) rfl
    obtain ⟨C, hC⟩ : ∃ C, C = cnt (findL rs) 16 := ⟨_, rfl⟩
    have HC : Hid (C = cnt (findL rs) 16) := hC
    rw [← hC] at m0
    have HH : Hid (TI w M B1 B a rs c 16 W) := hi
    clear hC hi kp
    gi_wp2
    go_wp2
    have hKf : Keeps (· = w3.heap.size) W (W.putObj w3.heap.size (.deferred none)) := ⟨rfl, rfl, rfl, by simp, fun k _ hn => World.putObj_heap_other hn⟩
    refine ⟨by simp, .inl ⟨_, _, rfl, run_takeDeferred hD, ?_⟩⟩
    exact ⟨_, results_tmp2 rfl _ _ _, ⟨C, 0, rfl, .inr (.inr ⟨HB.out.2.2.2, HB.out.1, HC.out, rfl⟩)⟩, HH.out.k.trans hKf fun b hb e => by have := HZ.out; omega⟩

theorem tables_any (a : Option Addr) (rs : List Rgn) (c : Nat) (w : World) (hl : rs.length ≤ c ∧ c ≤ maxLen) (hs : SegR w a rs) (hf : ∀ r, r ∈ rs → r.Fine) :
    Calls Try.prog 33 #[.slice a rs.length c] w fun e w' => (∃ m z : Nat, e = .returned (.tuple #[.int .i64 m, .int .i64 z]) ∧ TabP rs m z) ∧ Keeps (fun _ => False) w w' := by
  by_cases h8 : rs.length ≤ 8
  · by_cases hm : MayB rs
    · exact tables_good a rs c w hl hs hf h8 hm
    · exact tables_bad a rs c w hl hs hf (.inr hm)
  · exact tables_bad a rs c w hl hs hf (.inl (by omega))

end Go.Proofs.Ytpccdhoaicabcaa
