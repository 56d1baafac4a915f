import Derived.Test.YtekijhhpldnmnaaN
namespace Go.Proofs.Ytekijhhpldnmnaa
open Go.RowKit
set_option linter.unusedVariables false
set_option linter.unusedSimpArgs false

def lkE (nil : Bool) (xs : List UInt32) (p : Int) (h : Nat) (n d : Int) : Int :=
  if tkE nil xs.length p h n d ≠ 0 then tkE nil xs.length p h n d else if rightB h n.toNat d.toNat (win xs p.toNat (rsz h n d)) = true then 0 else 201

theorem row_facts {w : World} {O : Nat} (h : Blk w O zc5.toList 75) : (w.cell? ⟨O, 0, none⟩ = some (.int .i64 0) ∧ w.cell? ⟨O, 1, none⟩ = some (.int .i64 0) ∧ w.cell? ⟨O, 2, none⟩ = some (.int .i64 0) ∧ w.cell? ⟨O, 3, none⟩ = some (.int .i64 0) ∧ w.cell? ⟨O, 4, none⟩ = some (.slice none 0 0)) ∧ (w.frozen? ⟨O, 0, none⟩ = false ∧ w.frozen? ⟨O, 1, none⟩ = false ∧ w.frozen? ⟨O, 2, none⟩ = false ∧ w.frozen? ⟨O, 3, none⟩ = false ∧ w.frozen? ⟨O, 4, none⟩ = false) :=
  ⟨⟨h.cell rfl, h.cell rfl, h.cell rfl, h.cell rfl, h.cell rfl⟩, h.frozen 0, h.frozen 1, h.frozen 2, h.frozen 3, h.frozen 4⟩

set_option maxRecDepth 20000 in
set_option maxHeartbeats 2000000 in
theorem look_away (nil : Bool) (b g : Nat) (xs : List UInt32) (p : Int) (h : Nat) (n d : Int) (w : World) (hm : nil = false → Mm w b g xs) (hh : h ≤ 3) (hp : p ≤ 9223372036854775807) (he : tkE nil xs.length p h n d ≠ 0) :
    Calls Try.prog 39 #[mpv nil b, .int .i64 p, .int .i64 h, .int .i64 n, .int .i64 d] w fun e w' => e = .returned (.tuple #[rw0, .int .i64 (tkE nil xs.length p h n d)]) ∧ Keeps (fun _ => False) w w' := by
  obtain ⟨W, hW, hK, hB⟩ := zrow_new w
  have HC : Hid (Calls _ _ _ _ _) := take_no nil b g xs p h n d W (fun e => (hm e).kept hK (fun e => e) (fun e => e)) hh hp he
  obtain ⟨E, hE⟩ : ∃ E, E = tkE nil xs.length p h n d := ⟨_, rfl⟩
  rw [← hE] at HC he ⊢
  have hE0 : (E != 0) = true := bne_iff_ne.2 he
  obtain ⟨v, hv⟩ : ∃ v, v = (if nil then (none : Option Addr) else some ⟨b, 0, none⟩) := ⟨_, rfl⟩
  unfold mpv at HC ⊢
  rw [← hv] at HC ⊢
  obtain ⟨O, hO⟩ : ∃ O, O = w.heap.size := ⟨_, rfl⟩
  have HS : Hid (∀ w2, Keeps (fun _ => False) W w2 → Blk (w2.alloc (.cells zc5 75)) O zc5.toList 75) := fun w2 k => by rw [hO]; exact (hB.kept k fun e => e).alloc _
  have HW : Hid (W = _ ∧ Keeps (fun _ => False) w W ∧ O = w.heap.size) := ⟨hW, hK, hO⟩
  clear hE he hv hK hW hO hB hm hh hp
  go_enter Try.func39, Try.ntmps39
  go_wp2_with fail
  rw [← HW.out.1, ← HW.out.2.2]
  refine HC.out.mono ?_
  rintro e w2 ⟨rfl, hk2⟩
  have hq := HS.out w2 hk2
  obtain ⟨⟨c0, c1, c2, c3, c4⟩, z0, z1, z2, z3, z4⟩ := row_facts hq
  have HQ : Hid (Blk _ _ _ _) := hq
  have HK2 : Hid (Keeps _ _ _) := hk2
  clear hq hk2 HC HS
  go_wp2
  obtain ⟨W6, hW6, hB6, hk6⟩ := row_set5 HQ.out (.int .i64 0) (.int .i64 0) (.int .i64 0) (.int .i64 0) (.slice none 0 0)
  rw [← hW6]
  have d0 := hB6.cell (i := 0) rfl
  have d1 := hB6.cell (i := 1) rfl
  have d2 := hB6.cell (i := 2) rfl
  have d3 := hB6.cell (i := 3) rfl
  have d4 := hB6.cell (i := 4) rfl
  refine bodyPost_ret (by simp [results, Try.results39, go_sem, d0, d1, d2, d3, d4]; try rfl) rfl ?_
  exact ⟨rfl, (((HW.out.2.1.trans HK2.out fun _ _ e => e).alloc _).trans hk6 fun b hb e => by have := HW.out.2.2; omega)⟩

/-- Behind a look at a row that is there. -/
def LkP (w : World) (p h n d : Nat) (l : List UInt32) (M : Nat) (e : Ending) (w' : World) : Prop :=
  (rightB h n d l = true ∧ ∃ G, w.heap.size ≤ G ∧ e = .returned (.tuple #[rwv p h n d G M, .int .i64 0]) ∧ Rb w' G h n d l ∧ Keeps (fun _ => False) w w') ∨
  (rightB h n d l = false ∧ e = .returned (.tuple #[rw0, .int .i64 201]) ∧ Keeps (fun _ => False) w w')

set_option maxRecDepth 20000 in
set_option maxHeartbeats 2000000 in
theorem look_in (b g : Nat) (xs : List UInt32) (p : Nat) (h n d : Nat) (w : World) (hm : Mm w b g xs) (hh : h = 1 ∨ h = 3) (he : fitE false n d = 0) (ho : p + rsz h n d ≤ xs.length) :
    Calls Try.prog 39 #[.pointer (some ⟨b, 0, none⟩), .int .i64 p, .int .i64 h, .int .i64 n, .int .i64 d] w fun e w' =>
      LkP w p h n d (win xs p (rsz h n d)) (rsz h n d) e w' := by
  obtain ⟨W, hW, hK, hB⟩ := zrow_new w
  have HC : Hid (Calls _ _ _ _ _) := take_ok b g xs p h n d W (hm.kept hK (fun e => e) (fun e => e)) hh he ho
  have hwl := win_length _ _ _ ho
  obtain ⟨l, hl⟩ : ∃ l, l = win xs p (rsz h n d) := ⟨_, rfl⟩
  obtain ⟨M, hM⟩ : ∃ M, M = rsz h n d := ⟨_, rfl⟩
  rw [← hl] at HC hwl ⊢
  rw [← hM] at HC hwl ⊢
  have HL : Hid (M = l.length) := hwl.symm
  obtain ⟨O, hO⟩ : ∃ O, O = w.heap.size := ⟨_, rfl⟩
  have HS : Hid (∀ w2, Keeps (fun _ => False) W w2 → Blk w2 O zc5.toList 75) := fun w2 k => by rw [hO]; exact hB.kept k fun e => e
  have HW : Hid (W = _ ∧ Keeps (fun _ => False) w W ∧ O = w.heap.size) := ⟨hW, hK, hO⟩
  clear hK hW hO hB hm hh he ho hl hM hwl
  go_enter Try.func39, Try.ntmps39
  go_wp2_with fail
  rw [← HW.out.1, ← HW.out.2.2]
  refine HC.out.mono ?_
  rintro e w2 ⟨G, hG, rfl, hR, hk2⟩
  -- the row's own block
  obtain ⟨W3, hW3⟩ : ∃ W3, W3 = w2.alloc (.cells (rwc p h n d G M) 75) := ⟨_, rfl⟩
  have hk3 : Keeps (fun _ => False) w2 W3 := by rw [hW3]; exact (Keeps.refl _ w2).alloc _
  have hR3 := hR.grown hk3
  have HRT := right_any p G h n d M l W3 hR3 HL.out
  have HRT : Hid (Calls _ _ _ _ _) := HRT
  have HQ3 : Hid (W3 = w2.alloc (.cells (rwc p h n d G M) 75) ∧ Keeps (fun _ => False) w W3 ∧ Rb W3 G h n d l ∧ w.heap.size ≤ G ∧ Keeps (fun _ => False) W W3 ∧ O ≠ G ∧ Blk W3 w2.heap.size (rwc p h n d G M).toList 75) := by
    refine ⟨hW3, (HW.out.2.1.trans hk2 fun _ _ e => e).trans hk3 fun _ _ e => e, hR3, by have := HW.out.2.1.size; omega, hk2.trans hk3 fun _ _ e => e, ?_, ?_⟩
    · have h1 : W.heap.size = w.heap.size + 1 := by rw [HW.out.1]; simp
      have := HW.out.2.2; omega
    · rw [hW3]; exact Blk.new w2 _ 75
  clear hk2 hk3 hR hR3 hW3 hG HC
  go_wp2_with fail
  rw [← HQ3.out.1]
  refine HRT.out.mono ?_
  rintro e w4 ⟨rfl, hk4⟩
  have hq := HS.out w4 (HQ3.out.2.2.2.2.1.trans hk4 fun _ _ e => e)
  obtain ⟨⟨c0, c1, c2, c3, c4⟩, z0, z1, z2, z3, z4⟩ := row_facts hq
  have HQ : Hid (Blk _ _ _ _) := hq
  obtain ⟨Q, hQe⟩ : ∃ Q, Q = w2.heap.size := ⟨_, rfl⟩
  have hb := HQ3.out.2.2.2.2.2.2.kept hk4 fun e => e
  rw [← hQe] at hb ⊢
  have e0 : w4.cell? ⟨Q, 0, none⟩ = some (.int .i64 p) := hb.cell rfl
  have e1 : w4.cell? ⟨Q, 1, none⟩ = some (.int .i64 h) := hb.cell rfl
  have e2 : w4.cell? ⟨Q, 2, none⟩ = some (.int .i64 n) := hb.cell rfl
  have e3 : w4.cell? ⟨Q, 3, none⟩ = some (.int .i64 d) := hb.cell rfl
  have e4 : w4.cell? ⟨Q, 4, none⟩ = some (.slice (some ⟨G, 0, none⟩) M M) := hb.cell rfl
  have HK4 : Hid (Keeps _ _ _) := hk4
  clear hq hk4 HRT HS hb hQe
  obtain ⟨B, hr⟩ : ∃ B, B = rightB h n d l := ⟨_, rfl⟩
  rw [← hr]
  have HB : Hid (B = rightB h n d l) := hr
  clear hr
  cases B with
  | true =>
    go_wp2
    obtain ⟨W6, hW6, hB6, hk6⟩ := row_set5 HQ.out (.int .i64 p) (.int .i64 h) (.int .i64 n) (.int .i64 d) (.slice (some ⟨G, 0, none⟩) M M)
    rw [← hW6]
    have d0 := hB6.cell (i := 0) rfl
    have d1 := hB6.cell (i := 1) rfl
    have d2 := hB6.cell (i := 2) rfl
    have d3 := hB6.cell (i := 3) rfl
    have d4 := hB6.cell (i := 4) rfl
    refine bodyPost_ret (by simp [results, Try.results39, go_sem, d0, d1, d2, d3, d4]; try rfl) rfl ?_
    refine .inl ⟨HB.out.symm, G, HQ3.out.2.2.2.1, rfl, (HQ3.out.2.2.1.grown HK4.out).kept hk6 fun e => HQ3.out.2.2.2.2.2.1 e.symm, ?_⟩
    exact (HQ3.out.2.1.trans HK4.out fun _ _ e => e).trans hk6 fun b hb e => by have := HW.out.2.2; omega
  | false =>
    go_wp2
    obtain ⟨W6, hW6, hB6, hk6⟩ := row_set5 HQ.out (.int .i64 0) (.int .i64 0) (.int .i64 0) (.int .i64 0) (.slice none 0 0)
    rw [← hW6]
    have d0 := hB6.cell (i := 0) rfl
    have d1 := hB6.cell (i := 1) rfl
    have d2 := hB6.cell (i := 2) rfl
    have d3 := hB6.cell (i := 3) rfl
    have d4 := hB6.cell (i := 4) rfl
    refine bodyPost_ret (by simp [results, Try.results39, go_sem, d0, d1, d2, d3, d4]; try rfl) rfl ?_
    refine .inr ⟨HB.out.symm, rfl, ?_⟩
    exact (HQ3.out.2.1.trans HK4.out fun _ _ e => e).trans hk6 fun b hb e => by have := HW.out.2.2; omega

end Go.Proofs.Ytekijhhpldnmnaa
