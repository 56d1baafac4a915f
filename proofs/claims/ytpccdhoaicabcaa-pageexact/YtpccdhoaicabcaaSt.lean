import Derived.Test.YtpccdhoaicabcaaBa
import Derived.Test.YtpccdhoaicabcaaRf
import Derived.Test.YtpccdhoaicabcaaRg
namespace Go.Proofs.Ytpccdhoaicabcaa
open Go.RowKit
set_option linter.unusedVariables false
set_option linter.unusedSimpArgs false

theorem bldP_one {n : Nat} {root : Int} {ts : List Int} {rs : List Rgn} {z z' : Nat} (h : BldP n root ts rs z) (h' : BldP n root ts rs z') : z = z' := by
  rcases h with ⟨a, hz⟩ | ⟨a, b, hz⟩ | ⟨a, b, c, hz⟩ | ⟨a, b, c, d, hz⟩ | ⟨a, b, c, d, hz⟩ <;> rcases h' with ⟨a', hz'⟩ | ⟨a', b', hz'⟩ | ⟨a', b', c', hz'⟩ | ⟨a', b', c', d', hz'⟩ | ⟨a', b', c', d', hz'⟩ <;>
    first
      | exact hz.trans hz'.symm
      | (exfalso; omega)
      | (exfalso; rcases b with b | b; exact b b'.1; exact b'.2 b)
      | (exfalso; rcases b' with b' | b'; exact b' b.1; exact b.2 b')
      | (exfalso; exact c c')
      | (exfalso; exact c' c)
      | (exfalso; exact d d')
      | (exfalso; exact d' d)

/-- The program's memory and the document's, alike. -/
structure Pr (w : World) (P b g rb rg n : Nat) (xs : List UInt32) : Prop where
  p : Blk w P [.pointer (some ⟨b, 0, none⟩), .pointer (some ⟨rb, 0, none⟩)] 37
  m : Mn w b g n xs
  r : Rn w rb rg n xs
  n1 : P ≠ g
  n2 : P ≠ rg
  n3 : b ≠ rg
  n4 : rb ≠ g
  n5 : g ≠ rg
theorem Pr.kept {S : Nat → Prop} {w w' : World} {P b g rb rg n : Nat} {xs : List UInt32} (h : Pr w P b g rb rg n xs) (hK : Keeps S w w') (h1 : ¬ S P) (h2 : ¬ S b) (h3 : ¬ S g) (h4 : ¬ S rb) (h5 : ¬ S rg) : Pr w' P b g rb rg n xs :=
  ⟨h.p.kept hK h1, h.m.kept hK h2 h3, h.r.kept hK h4 h5, h.n1, h.n2, h.n3, h.n4, h.n5⟩
theorem Pr.grown {w w' : World} {P b g rb rg n : Nat} {xs : List UInt32} (h : Pr w P b g rb rg n xs) (hK : Keeps (fun _ => False) w w') : Pr w' P b g rb rg n xs := h.kept hK (fun e => e) (fun e => e) (fun e => e) (fun e => e) fun e => e
theorem Pr.above {S : Nat → Prop} {w w' : World} {P b g rb rg n : Nat} {xs : List UInt32} (h : Pr w P b g rb rg n xs) (hK : Keeps S w w') (hS : ∀ k, S k → w.heap.size ≤ k) : Pr w' P b g rb rg n xs :=
  h.kept hK (fun e => by have := hS _ e; have := h.p.lt; omega) (fun e => by have := hS _ e; have := h.m.mm.blk.lt; omega) (fun e => by have := hS _ e; have := h.m.mm.row.lt; omega) (fun e => by have := hS _ e; have := h.r.blk.lt; omega) (fun e => by have := hS _ e; have := h.r.row.lt; omega)

set_option maxRecDepth 40000 in
set_option maxHeartbeats 8000000 in
theorem step_build (P b g rb rg n : Nat) (xs : List UInt32) (A B C : Int) (W : Nat) (a2 : Option Addr) (ts : List Int) (c2 : Nat) (a : Option Addr) (rs : List Rgn) (c : Nat) (w : World) (h : Pr w P b g rb rg n xs)
    (hl2 : ts.length ≤ c2 ∧ c2 ≤ maxLen) (hs2 : SegI w a2 ts) (hl : rs.length ≤ c ∧ c ≤ maxLen) (hs : SegR w a rs) (hb : ts.length + rs.length ≤ 2147483647) (hf : ∀ r, r ∈ rs → r.Fine)
    (ha2 : ∀ x, a2 = some x → x.block ≠ g ∧ x.block ≠ rg ∧ x.block < w.heap.size) (ha : ∀ x, a = some x → x.block ≠ g ∧ x.block ≠ rg ∧ x.block < w.heap.size) :
    Calls Try.prog 9 #[.pointer (some ⟨P, 0, none⟩), opV 6 A B C W (.slice a2 ts.length c2) (.slice a rs.length c)] w fun e w' => e = .returned (.bool true) ∧ ∃ z, BldP n A ts rs z ∧ Pr w' P b g rb rg n (BldX A ts rs xs z) ∧ Keeps (fun k => k = g ∨ k = rg) w w' := by
  obtain ⟨w0, hw0⟩ : ∃ w0, w0 = w.alloc (.cells #[.int .i64 6, .int .i64 A, .int .i64 B, .int .i64 C, .int .u32 W, .slice a2 ts.length c2, .slice a rs.length c] 31) := ⟨_, rfl⟩
  have k0 : Keeps (fun _ => False) w w0 := by rw [hw0]; exact (Keeps.refl _ w).alloc _
  have b0 : Blk w0 w.heap.size [.int .i64 6, .int .i64 A, .int .i64 B, .int .i64 C, .int .u32 W, .slice a2 ts.length c2, .slice a rs.length c] 31 := by rw [hw0]; exact Blk.new w _ 31
  have z0 : w0.heap.size = w.heap.size + 1 := by rw [hw0]; simp
  have H1 := lent_any 6 A B C W a2 ts c2 a rs c w0 hl2 (hs2.grown k0) hl (hs.grown k0) hb
  obtain ⟨H, hH⟩ : ∃ H, H = w.heap.size := ⟨_, rfl⟩
  have HP : Hid (Pr w P b g rb rg n xs ∧ SegI w a2 ts ∧ SegR w a rs ∧ (∀ x, a2 = some x → x.block ≠ g ∧ x.block ≠ rg ∧ x.block < w.heap.size) ∧ (∀ x, a = some x → x.block ≠ g ∧ x.block ≠ rg ∧ x.block < w.heap.size)) := ⟨h, hs2, hs, ha2, ha⟩
  have HQ : Hid ((ts.length ≤ c2 ∧ c2 ≤ maxLen) ∧ (rs.length ≤ c ∧ c ≤ maxLen) ∧ ts.length + rs.length ≤ 2147483647 ∧ ∀ r, r ∈ rs → r.Fine) := ⟨hl2, hl, hb, hf⟩
  obtain ⟨L2, hL2⟩ : ∃ L, L = ts.length := ⟨_, rfl⟩
  obtain ⟨L, hL⟩ : ∃ L, L = rs.length := ⟨_, rfl⟩
  rw [← hL2, ← hL] at H1 hw0 b0 ⊢
  rw [← hH] at b0 z0
  have H1 : Hid (Calls _ _ _ _ _) := H1
  have HH : Hid (w0 = w.alloc (.cells #[.int .i64 6, .int .i64 A, .int .i64 B, .int .i64 C, .int .u32 W, .slice a2 L2 c2, .slice a L c] 31) ∧ H = w.heap.size ∧ L2 = ts.length ∧ L = rs.length ∧ Keeps (fun _ => False) w w0 ∧ Blk w0 H [.int .i64 6, .int .i64 A, .int .i64 B, .int .i64 C, .int .u32 W, .slice a2 L2 c2, .slice a L c] 31 ∧ w0.heap.size = H + 1) := ⟨hw0, hH, hL2, hL, k0, b0, z0⟩
  clear hw0 k0 b0 z0 hH hL2 hL h hs2 hs ha2 ha hl2 hl hb hf
  go_enter Try.func9, Try.ntmps9
  go_wp2_with fail
  rw [← HH.out.1, ← HH.out.2.1]
  refine H1.out.mono ?_
  rintro e w1 ⟨gt, gr, rfl, hLe⟩
  obtain ⟨hh0, hhH, hhL2, hhL, hk0, hb0, hz0⟩ := HH.out
  obtain ⟨hp, hp2, hp3, hp4, hp5⟩ := HP.out
  have hk1 := hk0.trans hLe.k fun _ _ h => h
  have pr1 := hp.grown hk1
  have b1 := hb0.kept hLe.k fun h => h
  have u1 := hLe.gt1
  have u2 := hLe.gr1
  have v1 := hp.m.mm.row.lt
  have v2 := hp.r.row.lt
  have v3 := hp.p.lt
  have HB := build_any b g n xs A (some ⟨gt, 0, none⟩) ts (ts.length + 9) (some ⟨gr, 0, none⟩) rs (rs.length + 9) w1.drew (pr1.m.grown ((Keeps.refl _ w1).drew)) ⟨by omega, by have := HQ.out.2.2.1; unfold maxLen; omega⟩ (hLe.t.segI) ⟨by omega, by have := HQ.out.2.2.1; unfold maxLen; omega⟩ (hLe.r.segR) HQ.out.2.2.2
    (fun x hx => by cases hx; simp only; omega) (fun x hx => by cases hx; simp only; omega)
  rw [← hhL2, ← hhL] at HB
  have HB : Hid (Calls _ _ _ _ _) := HB
  have H2 : Hid (Keeps (fun _ => False) w w1 ∧ Pr w1 P b g rb rg n xs ∧ Blk w1 H [.int .i64 6, .int .i64 A, .int .i64 B, .int .i64 C, .int .u32 W, .slice a2 L2 c2, .slice a L c] 31 ∧ Lent w0 w1 gt gr ts rs 9) := ⟨hk1, pr1, b1, hLe⟩
  have cP0 := pr1.p.cell (i := 0) rfl
  have cH1 := b1.cell (i := 1) rfl
  have HN : Hid (P ≠ g ∧ P ≠ rg ∧ H ≠ g ∧ H ≠ rg ∧ gt ≠ g ∧ gr ≠ g ∧ gt ≠ rg ∧ gr ≠ rg ∧ gt ≠ gr ∧ P < H ∧ H < gt ∧ H < gr ∧ g < H ∧ rg < H) := ⟨hp.n1, hp.n2, by omega, by omega, by omega, by omega, by omega, by omega, hLe.ne, by omega, by omega, by omega, by omega, by omega⟩
  have hS : w1.cell? ⟨P, 0, none⟩ = some (.pointer (some ⟨b, 0, none⟩)) ∧ w1.cell? ⟨H, 1, none⟩ = some (.int .i64 A) := ⟨cP0, cH1⟩
  clear hh0 hhH hhL2 hhL hk0 hb0 hz0 hp hp2 hp3 hp4 hp5 hk1 pr1 b1 u1 u2 v1 v2 v3 hLe H1
  go_wp2_with fail
  go_region_held3 (fun w' => w'.cell? ⟨P, 0, none⟩ = some (.pointer (some ⟨b, 0, none⟩)) ∧ w'.cell? ⟨H, 1, none⟩ = some (.int .i64 A)) (first | exact hS | exact hS2)
    (first | (go_at_call 12; refine HB.out.mono ?_; rintro e w2 ⟨z, rfl, hz, hM2, hK2⟩; have hS2 : w2.cell? ⟨P, 0, none⟩ = some (.pointer (some ⟨b, 0, none⟩)) ∧ w2.cell? ⟨H, 1, none⟩ = some (.int .i64 A) := ⟨cell_kept cP0 (((Keeps.refl (· = g) w1).drew).trans hK2 fun _ _ h => h) HN.out.1, cell_kept cH1 (((Keeps.refl (· = g) w1).drew).trans hK2 fun _ _ h => h) HN.out.2.2.1⟩; have H3 : Hid (BldP n A ts rs z ∧ Mn w2 b g n (BldX A ts rs xs z) ∧ Keeps (· = g) w1 w2) := ⟨hz, hM2, ((Keeps.refl (· = g) w1).drew).trans hK2 fun _ _ h => h⟩; clear hz hM2 hK2))
  clear hS hS2 cP0 cH1 HB
  obtain ⟨hz, hM2, hK2⟩ := H3.out
  obtain ⟨hk1, pr1, b1, hLe⟩ := H2.out
  obtain ⟨hh0, hhH, hhL2, hhL, hk0, hb0, hz0⟩ := HH.out
  obtain ⟨hp, hp2, hp3, hp4, hp5⟩ := HP.out
  obtain ⟨x1, x2, x3, x4, x5, x6, x7, x8, x9, x10, x11, x12, x13, x14⟩ := HN.out
  have b2 := b1.kept hK2 x3
  have hKw2 : Keeps (· = g) w w2 := (hk1.mono fun _ _ h => h.elim).trans hK2 fun _ _ h => h
  have HBk := back_any 6 A B C W a2 ts c2 a rs c gt gr w2 HQ.out.1 (hp2.kept hKw2 fun x hx => (hp4 x hx).1) HQ.out.2.1 (hp3.kept hKw2 fun x hx => (hp5 x hx).1) HQ.out.2.2.1 (hLe.t.kept hK2 x5) (hLe.r.kept hK2 x6) x9
    (fun x hx => by have := (hp4 x hx).2.2; exact ⟨by omega, by omega⟩) (fun x hx => by have := (hp5 x hx).2.2; exact ⟨by omega, by omega⟩)
  rw [← hhL2, ← hhL] at HBk
  have HBk : Hid (Calls _ _ _ _ _) := HBk
  have c0 := b2.cell (i := 0) rfl
  have c1 := b2.cell (i := 1) rfl
  have c2' := b2.cell (i := 2) rfl
  have c3 := b2.cell (i := 3) rfl
  have c4 := b2.cell (i := 4) rfl
  have c5 := b2.cell (i := 5) rfl
  have c6 := b2.cell (i := 6) rfl
  have H4 : Hid (Keeps (· = g) w w2 ∧ Blk w2 H [.int .i64 6, .int .i64 A, .int .i64 B, .int .i64 C, .int .u32 W, .slice a2 L2 c2, .slice a L c] 31) := ⟨hKw2, b2⟩
  clear hz hM2 hK2 hk1 pr1 b1 hLe hh0 hhH hhL2 hhL hk0 hb0 hz0 hp hp2 hp3 hp4 hp5 x1 x2 x3 x4 x5 x6 x7 x8 x9 x10 x11 x12 x13 x14 b2 hKw2
  go_wp2_with fail
  refine HBk.out.mono ?_
  rintro e w3 ⟨rfl, hbk⟩
  obtain ⟨hz, hM2, hK2⟩ := H3.out
  obtain ⟨hk1, pr1, b1, hLe⟩ := H2.out
  obtain ⟨hh0, hhH, hhL2, hhL, hk0, hb0, hz0⟩ := HH.out
  obtain ⟨hp, hp2, hp3, hp4, hp5⟩ := HP.out
  obtain ⟨x1, x2, x3, x4, x5, x6, x7, x8, x9, x10, x11, x12, x13, x14⟩ := HN.out
  have v4 := hp.r.blk.lt
  have v5 := hp.m.mm.blk.lt
  have hK3 := hbk.k
  have hKw3 : Keeps (· = g) w w3 := H4.out.1.trans hK3 fun k hk h => by omega
  have r3 := hp.r.kept hKw3 hp.n4 (fun e => hp.n5 e.symm)
  have b3 := H4.out.2.kept hK3 (by omega)
  have p3 := hp.p.kept hKw3 x1
  have HRB := rbuild_any rb rg n xs A a2 ts c2 a rs c w3.drew (r3.grown ((Keeps.refl _ w3).drew)) HQ.out.1 ((hp2.kept hKw3 fun x hx => (hp4 x hx).1).grown ((Keeps.refl _ w3).drew)) HQ.out.2.1 ((hp3.kept hKw3 fun x hx => (hp5 x hx).1).grown ((Keeps.refl _ w3).drew)) HQ.out.2.2.2 (fun x hx => (hp4 x hx).2.1) (fun x hx => (hp5 x hx).2.1)
  rw [← hhL2, ← hhL] at HRB
  have HRB : Hid (Calls _ _ _ _ _) := HRB
  have d0 := p3.cell (i := 1) rfl
  have d1 := b3.cell (i := 1) rfl
  have d5 := b3.cell (i := 5) rfl
  have d6 := b3.cell (i := 6) rfl
  have hm3 := hM2.kept hK3 (by omega) (by omega)
  have H5 : Hid (Keeps (· = g) w w3 ∧ Mn w3 b g n (BldX A ts rs xs z) ∧ Blk w3 P [.pointer (some ⟨b, 0, none⟩), .pointer (some ⟨rb, 0, none⟩)] 37) := ⟨hKw3, hm3, p3⟩
  have hS : w3.cell? ⟨P, 1, none⟩ = some (.pointer (some ⟨rb, 0, none⟩)) ∧ w3.cell? ⟨H, 1, none⟩ = some (.int .i64 A) ∧ w3.cell? ⟨H, 5, none⟩ = some (.slice a2 L2 c2) ∧ w3.cell? ⟨H, 6, none⟩ = some (.slice a L c) := ⟨d0, d1, d5, d6⟩
  clear hz hM2 hK2 hk1 pr1 b1 hLe hh0 hhH hhL2 hhL hk0 hb0 hz0 hp hp2 hp3 hp4 hp5 x1 x2 x3 x4 x5 x6 x7 x8 x9 x10 x11 x12 x13 x14 v4 v5 hK3 hKw3 r3 b3 p3 hm3 hbk c0 c1 c2' c3 c4 c5 c6 HBk
  go_wp2_with fail
  go_region_held3 (fun w' => w'.cell? ⟨P, 1, none⟩ = some (.pointer (some ⟨rb, 0, none⟩)) ∧ w'.cell? ⟨H, 1, none⟩ = some (.int .i64 A) ∧ w'.cell? ⟨H, 5, none⟩ = some (.slice a2 L2 c2) ∧ w'.cell? ⟨H, 6, none⟩ = some (.slice a L c)) (first | exact hS | exact hS2)
    (first | (go_at_call 27; refine HRB.out.mono ?_; rintro e w4 ⟨z', rfl, hz', hM4, hK4⟩; have hK4' : Keeps (· = rg) w3 w4 := ((Keeps.refl (· = rg) w3).drew).trans hK4 fun _ _ h => h; have hS2 : w4.cell? ⟨P, 1, none⟩ = some (.pointer (some ⟨rb, 0, none⟩)) ∧ w4.cell? ⟨H, 1, none⟩ = some (.int .i64 A) ∧ w4.cell? ⟨H, 5, none⟩ = some (.slice a2 L2 c2) ∧ w4.cell? ⟨H, 6, none⟩ = some (.slice a L c) := ⟨cell_kept d0 hK4' HN.out.2.1, cell_kept d1 hK4' HN.out.2.2.2.1, cell_kept d5 hK4' HN.out.2.2.2.1, cell_kept d6 hK4' HN.out.2.2.2.1⟩; have H6 : Hid (BldP n A ts rs z' ∧ Rn w4 rb rg n (BldX A ts rs xs z') ∧ Keeps (· = rg) w3 w4) := ⟨hz', hM4, hK4'⟩; clear hz' hM4 hK4 hK4'))
  obtain rfl : z = z' := bldP_one H3.out.1 H6.out.1
  clear hS hS2 d0 d1 d5 d6 HRB
  go_wp2
  go_ret
  obtain ⟨hp, hp2, hp3, hp4, hp5⟩ := HP.out
  refine ⟨rfl, z, H3.out.1, ⟨H5.out.2.2.kept H6.out.2.2 hp.n2, H5.out.2.1.kept H6.out.2.2 hp.n3 hp.n5, H6.out.2.1, hp.n1, hp.n2, hp.n3, hp.n4, hp.n5⟩, (H5.out.1.mono fun _ _ h => .inl h).trans H6.out.2.2 fun _ _ h => .inr h⟩

end Go.Proofs.Ytpccdhoaicabcaa
