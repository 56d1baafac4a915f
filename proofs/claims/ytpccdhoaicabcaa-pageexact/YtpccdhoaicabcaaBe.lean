import Derived.Test.YtpccdhoaicabcaaBm
namespace Go.Proofs.Ytpccdhoaicabcaa
open Go.RowKit
set_option linter.unusedVariables false
set_option linter.unusedSimpArgs false

def xs0 (n : Nat) : List UInt32 := builtL (findL rs0) ts0 12 (List.replicate (n * 16) 0)
theorem addr0 (n : Nat) (h : 20 ≤ n) (h2 : n ≤ 1024) : addrE n (xs0 n) 12 257 3 = 0 ∧ addrV n (xs0 n) 12 257 3 = 65 ∧ addrE n (xs0 n) 12 257 4 = 93 := by
  obtain ⟨q1, q2⟩ := walk0 (List.replicate (n * 16) 0) h h2 (by simp)
  have e : (257 : Int) / 16 = 16 := by decide
  have hE : addrE n (xs0 n) 12 257 3 = 0 := by
    unfold addrE
    rw [if_neg (by omega), if_neg (by omega), if_neg (by omega), e]
    unfold xs0
    rw [q1, if_neg (by omega), q2]; rfl
  refine ⟨hE, ?_, ?_⟩
  · unfold addrV
    rw [hE, if_pos rfl, e]
    unfold xs0
    rw [q2]; rfl
  · unfold addrE
    rw [if_neg (by omega), if_neg (by omega), if_neg (by omega), e]
    unfold xs0
    rw [q1, if_neg (by omega), q2]; rfl

/-- What begun gives. -/
structure Beg (w w' : World) (P b g rb rg n : Nat) (xs : List UInt32) : Prop where
  pr : Pr w' P b g rb rg n xs
  p1 : w.heap.size ≤ P
  b1 : w.heap.size ≤ b
  g1 : w.heap.size ≤ g
  r1 : w.heap.size ≤ rb
  s1 : w.heap.size ≤ rg
  k : Keeps (fun _ => False) w w'

set_option maxRecDepth 40000 in
set_option maxHeartbeats 8000000 in
theorem begun_any (n : Nat) (w : World) (h1 : 20 ≤ n) (h2 : n ≤ 1024) :
    Calls Try.prog 7 #[.int .i64 n] w fun e w' => ∃ P b g rb rg, e = .returned (.tuple #[.pointer (some ⟨P, 0, none⟩), .bool true]) ∧ Beg w w' P b g rb rg n (xs0 n) := by
  have H1 : Hid (Calls _ _ _ _ _) := new_in n w (by omega) h2
  have HN : Hid (∀ W, Calls _ _ _ W _) := fun W => rnew_in n W (by omega) h2
  have HS : Hid (20 ≤ n ∧ n ≤ 1024) := ⟨h1, h2⟩
  clear h1 h2
  go_enter Try.func7, Try.ntmps7
  go_wp2_with fail
  refine H1.out.mono ?_
  rintro e w1 ⟨rfl, hM1, hK1⟩
  obtain ⟨g, hg⟩ : ∃ g, g = w.heap.size := ⟨_, rfl⟩
  rw [← hg] at hM1 ⊢
  have A1 : Hid (Mm w1 (g + 1) g (List.replicate (n * 16) 0) ∧ Keeps (fun _ => False) w w1 ∧ g = w.heap.size) := ⟨hM1, hK1, hg⟩
  clear hM1 hK1 hg H1
  go_wp2_with fail
  refine (HN.out _).mono ?_
  rintro e w2 ⟨rfl, hR2, hK2⟩
  obtain ⟨rg, hrg⟩ : ∃ g, g = w1.heap.size := ⟨_, rfl⟩
  rw [← hrg] at hR2 ⊢
  have A2 : Hid (Rn w2 (rg + 1) rg n (List.replicate (n * 16) 0) ∧ Keeps (fun _ => False) w1 w2 ∧ rg = w1.heap.size) := ⟨hR2, hK2, hrg⟩
  clear hR2 hK2 hrg HN
  obtain ⟨P, hP⟩ : ∃ P, P = w2.heap.size := ⟨_, rfl⟩
  obtain ⟨w3, hw3⟩ : ∃ w3, w3 = ((w2.alloc (.cells #[.pointer (some ⟨g + 1, 0, none⟩), .pointer (some ⟨rg + 1, 0, none⟩)] 37)).alloc (.cells #[.int .i64 14, .int .i64 4, .int .i64 2, .int .i64 3, .int .i64 255, .int .i64 1, .int .i64 9, .int .i64 4] 54)).alloc (.cells #[.int .i64 13, .int .i64 14, .int .i64 15] 3) := ⟨_, rfl⟩
  have A3 : Hid (w3 = ((w2.alloc (.cells #[.pointer (some ⟨g + 1, 0, none⟩), .pointer (some ⟨rg + 1, 0, none⟩)] 37)).alloc (.cells #[.int .i64 14, .int .i64 4, .int .i64 2, .int .i64 3, .int .i64 255, .int .i64 1, .int .i64 9, .int .i64 4] 54)).alloc (.cells #[.int .i64 13, .int .i64 14, .int .i64 15] 3) ∧ P = w2.heap.size) := ⟨hw3, hP⟩
  clear hw3 hP
  go_wp2_with fail
  rw [← A3.out.1, ← A3.out.2]
  have hall : ∃ hp : Pr w3 P (g + 1) g (rg + 1) rg n (List.replicate (n * 16) 0), Blk w3 (P + 1) (flatR (rs0 ++ [])) 54 ∧ Blk w3 (P + 1 + 1) (ivs (ts0 ++ [])) 3 ∧ Keeps (fun _ => False) w w3 ∧ g < rg ∧ rg < P ∧ w.heap.size = g ∧ P + 1 + 1 < w3.heap.size ∧ g + 1 < rg ∧ rg + 1 < P := by
    obtain ⟨a1, a2, a3⟩ := A1.out
    obtain ⟨b1, b2, b3⟩ := A2.out
    obtain ⟨c1, c2⟩ := A3.out
    have hK : Keeps (fun _ => False) w2 w3 := by rw [c1]; exact (((Keeps.refl _ w2).alloc _).alloc _).alloc _
    have hKw := (a2.trans b2 fun _ _ h => h).trans hK fun _ _ h => h
    have l1 := a1.blk.lt
    have l2 := b1.blk.lt
    have hp : Blk w3 P [.pointer (some ⟨g + 1, 0, none⟩), .pointer (some ⟨rg + 1, 0, none⟩)] 37 := by rw [c1, c2]; exact ((Blk.new w2 _ 37).alloc _).alloc _
    have hr : Blk w3 (P + 1) (flatR (rs0 ++ [])) 54 := by
      have := (Blk.new (w2.alloc (.cells #[.pointer (some ⟨g + 1, 0, none⟩), .pointer (some ⟨rg + 1, 0, none⟩)] 37)) #[.int .i64 14, .int .i64 4, .int .i64 2, .int .i64 3, .int .i64 255, .int .i64 1, .int .i64 9, .int .i64 4] 54).alloc (.cells #[.int .i64 13, .int .i64 14, .int .i64 15] 3)
      rw [World.size_alloc, ← c1, ← c2] at this
      exact this
    have ht : Blk w3 (P + 1 + 1) (ivs (ts0 ++ [])) 3 := by
      have := Blk.new ((w2.alloc (.cells #[.pointer (some ⟨g + 1, 0, none⟩), .pointer (some ⟨rg + 1, 0, none⟩)] 37)).alloc (.cells #[.int .i64 14, .int .i64 4, .int .i64 2, .int .i64 3, .int .i64 255, .int .i64 1, .int .i64 9, .int .i64 4] 54)) #[.int .i64 13, .int .i64 14, .int .i64 15] 3
      rw [World.size_alloc, World.size_alloc, ← c1, ← c2] at this
      exact this
    refine ⟨⟨hp, ⟨(a1.kept b2 (fun h => h) fun h => h).kept hK (fun h => h) fun h => h, by simp⟩, b1.grown hK, by omega, by omega, by omega, by omega, by omega⟩, hr, ht, hKw, by omega, by omega, by omega, ht.lt, by omega, by omega⟩
  obtain ⟨hp, hr, ht, hKw, o1, o2, o3, o4, o5, o6⟩ := hall
  have HST := step_build P (g + 1) g (rg + 1) rg n (List.replicate (n * 16) 0) 12 0 0 0 (some ⟨P + 1 + 1, 0, none⟩) ts0 3 (some ⟨P + 1, 0, none⟩) rs0 2 w3 hp ⟨by decide, by unfold maxLen; omega⟩ ht.segI ⟨by decide, by unfold maxLen; omega⟩ hr.segR (by decide) (fun r hr => by
      simp [rs0] at hr
      rcases hr with rfl | rfl <;> exact ⟨by constructor <;> decide, by constructor <;> decide, by constructor <;> decide, by constructor <;> decide⟩)
    (fun x hx => by cases hx; simp only; omega) (fun x hx => by cases hx; simp only; omega)
  have HST : Hid (Calls _ _ _ _ _) := HST
  have A4 : Hid (Keeps (fun _ => False) w w3 ∧ w.heap.size = g ∧ g < rg ∧ rg < P) := ⟨hKw, o3, o1, o2⟩
  clear hp hr ht hKw o1 o2 o3 o4 o5 o6
  refine HST.out.mono ?_
  rintro e w4 ⟨rfl, z, hz, hp4, hK4⟩
  obtain rfl := bld0 HS.out.1 hz
  have hp4 : Pr w4 P (g + 1) g (rg + 1) rg n (xs0 n) := hp4
  obtain ⟨ad1, ad2, ad3⟩ := addr0 n HS.out.1 HS.out.2
  have B1 := address_any (g + 1) g n (xs0 n) 12 257 3 w4 hp4.m
  rw [ad1, ad2] at B1
  have B1 : Hid (Calls _ _ _ _ _) := B1
  have A5 : Hid (Pr w4 P (g + 1) g (rg + 1) rg n (xs0 n) ∧ Keeps (fun _ => False) w w4) := ⟨hp4, A4.out.1.trans hK4 fun k hk h => by have := A4.out; omega⟩
  clear hz hp4 hK4 HST
  go_wp2_with fail
  refine B1.out.mono ?_
  rintro e w5 ⟨rfl, hK5⟩
  have B2 := address_any (g + 1) g n (xs0 n) 12 257 4 w5 (A5.out.1.m.grown hK5)
  rw [ad3] at B2
  have B2 : Hid (Calls _ _ _ _ _) := B2
  have A6 : Hid (Keeps (fun _ => False) w4 w5) := hK5
  clear hK5 B1 ad1 ad2 ad3
  go_wp2_with fail
  refine B2.out.mono ?_
  rintro e w6 ⟨rfl, hK6⟩
  have A7 : Hid (Keeps (fun _ => False) w4 w6) := A6.out.trans hK6 fun _ _ h => h
  clear hK6 B2
  go_wp2
  go_ret2
  have a4 := A4.out
  exact ⟨P, g + 1, g, rg + 1, rg, rfl, A5.out.1.grown A7.out, by omega, by omega, by omega, by omega, by omega, A5.out.2.trans A7.out fun _ _ h => h⟩

end Go.Proofs.Ytpccdhoaicabcaa
