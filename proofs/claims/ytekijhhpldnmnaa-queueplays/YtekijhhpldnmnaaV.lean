import Derived.Test.YtekijhhpldnmnaaT
namespace Go.Proofs.Ytekijhhpldnmnaa
open Go.RowKit
set_option linter.unusedVariables false
set_option linter.unusedSimpArgs false

/-- A row that was taken out of the memory: its place, how many words stand ahead, its block, its words. -/
structure Rr where
  p : Nat
  h : Nat
  G : Nat
  l : List UInt32
instance : Inhabited Rr := ⟨⟨0, 0, 0, []⟩⟩
abbrev Rr.v (n d : Nat) (r : Rr) : Value := rwv r.p r.h n d r.G r.l.length
def Rr.vs (n d : Nat) (r : Rr) : List Value := [.int .i64 r.p, .int .i64 r.h, .int .i64 n, .int .i64 d, .slice (some ⟨r.G, 0, none⟩) r.l.length r.l.length]
def RrAt (w : World) (g o n d : Nat) (r : Rr) : Prop :=
  w.cell? ⟨g, o, none⟩ = some (.int .i64 r.p) ∧ w.cell? ⟨g, o + 1, none⟩ = some (.int .i64 r.h) ∧ w.cell? ⟨g, o + 2, none⟩ = some (.int .i64 n) ∧ w.cell? ⟨g, o + 3, none⟩ = some (.int .i64 d) ∧ w.cell? ⟨g, o + 4, none⟩ = some (.slice (some ⟨r.G, 0, none⟩) r.l.length r.l.length)
def SegR (w : World) (a : Option Addr) (n d : Nat) (rs : List Rr) : Prop :=
  rs = [] ∨ ∃ g o, a = some ⟨g, o, none⟩ ∧ ∀ j r, rs[j]? = some r → RrAt w g (o + j * 5) n d r

theorem RrAt.kept {S : Nat → Prop} {w w' : World} {g o n d : Nat} {r : Rr} (h : RrAt w g o n d r) (hK : Keeps S w w') (hn : ¬ S g) : RrAt w' g o n d r := by
  have hlt : g < w.heap.size := World.block_lt_of_cell? w ⟨g, o, none⟩ h.1
  have e : ∀ i, w'.cell? ⟨g, i, none⟩ = w.cell? ⟨g, i, none⟩ := fun i => World.cell?_of_block (w := w) (hK.block g hlt hn)
  exact ⟨(e _).trans h.1, (e _).trans h.2.1, (e _).trans h.2.2.1, (e _).trans h.2.2.2.1, (e _).trans h.2.2.2.2⟩
theorem SegR.kept {S : Nat → Prop} {w w' : World} {a : Option Addr} {n d : Nat} {rs : List Rr} (h : SegR w a n d rs) (hK : Keeps S w w') (hn : ∀ x, a = some x → ¬ S x.block) : SegR w' a n d rs := by
  rcases h with h | ⟨g, o, ha, hc⟩
  · exact .inl h
  · exact .inr ⟨g, o, ha, fun j r hj => (hc j r hj).kept hK (hn _ ha)⟩
theorem SegR.grown {w w' : World} {a : Option Addr} {n d : Nat} {rs : List Rr} (h : SegR w a n d rs) (hK : Keeps (fun _ => False) w w') : SegR w' a n d rs := h.kept hK fun _ _ e => e
theorem SegR.at {w : World} {a : Option Addr} {n d : Nat} {rs : List Rr} (h : SegR w a n d rs) {j : Nat} {r : Rr} (hj : rs[j]? = some r) : ∃ g o, a = some ⟨g, o, none⟩ ∧ RrAt w g (o + j * 5) n d r := by
  rcases h with h | ⟨g, o, ha, hc⟩
  · rw [h] at hj; simp at hj
  · exact ⟨g, o, ha, hc j r hj⟩

set_option maxRecDepth 20000 in
set_option maxHeartbeats 1000000 in
theorem allRight_any (a : Option Addr) (c n d : Nat) (rs : List Rr) (w : World) (hs : SegR w a n d rs) (hr : ∀ r ∈ rs, Rb w r.G r.h n d r.l) (hl : rs.length ≤ 100) :
    Calls Try.prog 46 #[.slice a rs.length c] w fun e w' => e = .returned (.bool (rs.all fun r => rightB r.h n d r.l)) ∧ Keeps (fun _ => False) w w' := by
  obtain ⟨L, hL⟩ : ∃ L, L = rs.length := ⟨_, rfl⟩
  have HS : Hid (SegR w a n d rs ∧ L = rs.length ∧ ∀ r ∈ rs, Rb w r.G r.h n d r.l) := ⟨hs, hL, hr⟩
  have HF2 : Hid (∀ (j : Nat) (r : Rr), rs[j]? = some r → rightB r.h n d r.l = false → (rs.all fun r => rightB r.h n d r.l) = false) := fun j r hj hx => List.all_eq_false.2 ⟨r, List.mem_of_getElem? hj, by simp [hx]⟩
  have HT2 : Hid ((∀ j, j < L → ∀ r : Rr, rs[j]? = some r → rightB r.h n d r.l = true) → (rs.all fun r => rightB r.h n d r.l) = true) := fun hx => List.all_eq_true.2 fun r hr => by
    obtain ⟨j, hj, rfl⟩ := List.getElem_of_mem hr
    exact hx j (by omega) _ (List.getElem?_eq_getElem hj)
  obtain ⟨B, hB⟩ : ∃ B, B = (rs.all fun r => rightB r.h n d r.l) := ⟨_, rfl⟩
  rw [← hB] at HF2 HT2 ⊢
  rw [← hL] at hl ⊢
  have hl2 : (L : Int) ≤ 100 := by omega
  clear hs hL hr hB
  go_enter Try.func46, Try.ntmps46
  go_wp2
  go_loopw [7] (fun i wr => ∃ j : Nat, j ≤ L ∧ i = .int .i64 j ∧ (∀ i, i < j → ∀ r : Rr, rs[i]? = some r → rightB r.h n d r.l = true) ∧ Keeps (fun _ => False) w wr) (fun i _ => L - (intOf i).toNat)
  case atStart => exact ⟨0, by omega, rfl, fun i hi => absurd hi (by omega), Keeps.refl _ _⟩
  case round =>
    obtain ⟨j, hj, rfl, hall, hk⟩ := hrel
    have HA : Hid (∀ i, i < j → ∀ r : Rr, rs[i]? = some r → rightB r.h n d r.l = true) := hall
    have HK : Hid (Keeps (fun _ => False) w wr) := hk
    clear hall
    by_cases hlt : j < L
    · have hjx : j < rs.length := by rw [← HS.out.2.1]; exact hlt
      have hlt' : (j : Int) < L := by omega
      obtain ⟨r, hr⟩ : ∃ r, rs[j]? = some r := ⟨_, List.getElem?_eq_getElem hjx⟩
      obtain ⟨g, o, rfl, c0, c1, c2, c3, c4⟩ := (HS.out.1.grown hk).at hr
      obtain ⟨W3, hW3⟩ : ∃ W3, W3 = wr.alloc (.cells (rwc r.p r.h n d r.G r.l.length) 75) := ⟨_, rfl⟩
      have hk3 : Keeps (fun _ => False) wr W3 := by rw [hW3]; exact (Keeps.refl _ wr).alloc _
      have HC : Hid (Calls _ _ _ _ _) := right_any r.p r.G r.h n d r.l.length r.l W3 ((HS.out.2.2 r (List.mem_of_getElem? hr)).grown (hk.trans hk3 fun _ _ e => e)) rfl
      have HW : Hid (W3 = wr.alloc (.cells (rwc r.p r.h n d r.G r.l.length) 75) ∧ Keeps (fun _ => False) w W3 ∧ rs[j]? = some r) := ⟨hW3, hk.trans hk3 fun _ _ e => e, hr⟩
      clear hk hk3 hW3 hr hjx hj
      obtain ⟨b, hb⟩ : ∃ b, b = rightB r.h n d r.l := ⟨_, rfl⟩
      rw [← hb] at HC
      have HB : Hid (rightB r.h n d r.l = b) := hb.symm
      obtain ⟨p, hp⟩ : ∃ p, p = r.p := ⟨_, rfl⟩
      obtain ⟨h, hh⟩ : ∃ p, p = r.h := ⟨_, rfl⟩
      obtain ⟨G, hG⟩ : ∃ p, p = r.G := ⟨_, rfl⟩
      obtain ⟨N, hN⟩ : ∃ p, p = r.l.length := ⟨_, rfl⟩
      rw [← hp, ← hh, ← hG, ← hN] at HC
      rw [← hp] at c0
      rw [← hh] at c1
      rw [← hG, ← hN] at c4
      have HW1 : Hid (W3 = wr.alloc (.cells (rwc p h n d G N) 75)) := by rw [hp, hh, hG, hN]; exact HW.out.1
      clear hb hp hh hG hN
      cases b with
      | true =>
        go_wp2_with fail
        rw [← HW1.out]
        refine HC.out.mono ?_
        rintro e w4 ⟨rfl, hk4⟩
        have HK4 : Hid (Keeps _ _ _) := hk4
        clear hk4 HC
        go_wp2
        go_roundw
        case rel => exact ⟨j + 1, by omega, by go_num, all_step HA.out (fun r' hr' => by rw [HW.out.2.2] at hr'; cases hr'; exact HB.out), HW.out.2.1.trans HK4.out fun _ _ e => e⟩
        case measure => simp [intOf]; omega
      | false =>
        go_wp2_with fail
        rw [← HW1.out]
        refine HC.out.mono ?_
        rintro e w4 ⟨rfl, hk4⟩
        have HK4 : Hid (Keeps _ _ _) := hk4
        clear hk4 HC
        go_wp2
        go_ret
        exact ⟨ret_bool (HF2.out j r HW.out.2.2 HB.out).symm, HW.out.2.1.trans HK4.out fun _ _ e => e⟩
    · obtain rfl : j = L := by omega
      clear hk
      go_wp2
      go_ret
      exact ⟨ret_bool (HT2.out HA.out).symm, HK.out⟩

end Go.Proofs.Ytekijhhpldnmnaa
