import Derived.Test.YthepajjbflmchaaG
namespace Go.Proofs.Ythepajjbflmchaa
open Go.RowKit
set_option linter.unusedVariables false

def lkE (xs : List UInt32) (p : Int) : Int := if BrOk xs p then 0 else 51
def lkC (xs : List UInt32) (p : Int) : Nat := if BrOk xs p then (cm xs p).toNat else 0
def lkP (xs : List UInt32) (p : Int) : Nat := if BrOk xs p then (ep xs p).toNat else 0
def coE (xs : List UInt32) (p c : Int) : Int := if BrOk xs p then (if 1 ≤ c ∧ c ≤ 4 then (if c ≤ ((cm xs p).toNat : Int) then 181 else 0) else 180) else 51
def coB (xs : List UInt32) (p c : Int) : Bool := coE xs p c == 0 && (((cm xs p).toNat : Int) + 1 == c)
def coX (xs : List UInt32) (p c : Int) : List UInt32 := if coE xs p c = 0 then lay xs p.toNat [cm xs p + 1] else xs
def opE (xs : List UInt32) (p c : Int) : Int := if BrOk xs p then (if 1 ≤ c ∧ c ≤ 4 then (if ((cm xs p).toNat : Int) < c then 182 else if c < ((cm xs p).toNat : Int) then 181 else 0) else 180) else 51
def opX (xs : List UInt32) (p c : Int) : List UInt32 := if opE xs p c = 0 then lay xs p.toNat [0, ep xs p + 1] else xs

theorem lf_in {b g : Nat} {xs : List UInt32} {p c : Int} {w : World} (h : Mm w b g xs) (hf : BrOk xs p) (hc : 1 ≤ c ∧ c ≤ 4) : LF (.pointer (some ⟨b, 0, none⟩)) p c w (cm xs p).toNat (ep xs p).toNat 0 :=
  lookFor_good _ p c w _ _ (looks_in h hf) hc.1 hc.2
theorem lf_cores {b g : Nat} {xs : List UInt32} {p c : Int} {w : World} (h : Mm w b g xs) (hf : BrOk xs p) (hc : ¬ (1 ≤ c ∧ c ≤ 4)) : LF (.pointer (some ⟨b, 0, none⟩)) p c w 0 0 180 :=
  lookFor_cores _ p c w _ _ (looks_in h hf) hc
theorem lf_out {b g : Nat} {xs : List UInt32} {p c : Int} {w : World} (h : Mm w b g xs) (hf : ¬ BrOk xs p) (hp : p ≤ 9223372036854775807) : LF (.pointer (some ⟨b, 0, none⟩)) p c w 0 0 51 :=
  lookFor_no _ p c w 51 (looks_out h hf hp) (by omega)
theorem lf_nil {p c : Int} {w : World} : LF (.pointer none) p c w 0 0 3 := lookFor_no _ p c w 3 looks_nil (by omega)

theorem look_any (b g : Nat) (xs : List UInt32) (p : Int) (w : World) (h : Mm w b g xs) (hp : p ≤ 9223372036854775807) :
    Calls Try.prog 13 #[.pointer (some ⟨b, 0, none⟩), .int .i64 p] w fun e w' => e = .returned (.tuple #[.agg #[.int .i64 (lkC xs p : Int), .int .i64 (lkP xs p : Int)], .int .i64 (lkE xs p)]) ∧ Keeps (fun _ => False) w w' := by
  unfold lkC lkP lkE
  by_cases hf : BrOk xs p
  · rw [if_pos hf, if_pos hf, if_pos hf]; exact look_in b g xs p w h hf
  · rw [if_neg hf, if_neg hf, if_neg hf]; exact look_out b g xs p w h hf hp

/-- A refused call. -/
theorem come_ref {m : Value} {b g : Nat} {xs : List UInt32} {p c E : Int} {w : World} (hm : Mm w b g xs) (hE : coE xs p c = E) (h0 : ¬ E = 0)
    (h : Calls Try.prog 14 #[m, .int .i64 p, .int .i64 c] w fun e w' => e = .returned (.tuple #[.bool false, .int .i64 E]) ∧ Keeps (fun _ => False) w w') :
    Calls Try.prog 14 #[m, .int .i64 p, .int .i64 c] w fun e w' => e = .returned (.tuple #[.bool (coB xs p c), .int .i64 (coE xs p c)]) ∧ Mm w' b g (coX xs p c) ∧ Keeps (· = g) w w' := by
  have e1 : coB xs p c = false := by unfold coB; rw [hE]; simp [h0]
  have e2 : coX xs p c = xs := by unfold coX; rw [hE, if_neg h0]
  rw [e1, e2, hE]
  refine h.mono ?_
  rintro e w' ⟨rfl, k⟩
  exact ⟨rfl, hm.kept k (fun e => e) (fun e => e), k.mono (fun _ _ e => e.elim)⟩

theorem come_any (b g : Nat) (xs : List UInt32) (p c : Int) (w : World) (h : Mm w b g xs) (hp : p ≤ 9223372036854775807) :
    Calls Try.prog 14 #[.pointer (some ⟨b, 0, none⟩), .int .i64 p, .int .i64 c] w fun e w' => e = .returned (.tuple #[.bool (coB xs p c), .int .i64 (coE xs p c)]) ∧ Mm w' b g (coX xs p c) ∧ Keeps (· = g) w w' := by
  by_cases hf : BrOk xs p
  · by_cases hc : 1 ≤ c ∧ c ≤ 4
    · by_cases hx : c ≤ ((cm xs p).toNat : Int)
      · exact come_ref h (show _ = 181 by unfold coE; rw [if_pos hf, if_pos hc, if_pos hx]) (by omega) (come_full _ p c _ _ w (lf_in h hf hc) hx)
      · have e0 : coE xs p c = 0 := by unfold coE; rw [if_pos hf, if_pos hc, if_neg hx]
        have e1 : coB xs p c = (((cm xs p).toNat : Int) + 1 == c) := by unfold coB; rw [e0]; rfl
        have e2 : coX xs p c = lay xs p.toNat [cm xs p + 1] := by unfold coX; rw [if_pos e0]
        rw [e0, e1, e2]
        exact come_in b g xs p c w h hf hc.2 hc.1 (by omega)
    · exact come_ref h (show _ = 180 by unfold coE; rw [if_pos hf, if_neg hc]) (by omega) (come_no _ p c 180 w (lf_cores h hf hc) (by omega))
  · exact come_ref h (show _ = 51 by unfold coE; rw [if_neg hf]) (by omega) (come_no _ p c 51 w (lf_out h hf hp) (by omega))

theorem open_ref {m : Value} {b g : Nat} {xs : List UInt32} {p c E : Int} {w : World} (hm : Mm w b g xs) (hE : opE xs p c = E) (h0 : ¬ E = 0)
    (h : Calls Try.prog 15 #[m, .int .i64 p, .int .i64 c] w fun e w' => e = .returned (.int .i64 E) ∧ Keeps (fun _ => False) w w') :
    Calls Try.prog 15 #[m, .int .i64 p, .int .i64 c] w fun e w' => e = .returned (.int .i64 (opE xs p c)) ∧ Mm w' b g (opX xs p c) ∧ Keeps (· = g) w w' := by
  have e2 : opX xs p c = xs := by unfold opX; rw [hE, if_neg h0]
  rw [e2, hE]
  refine h.mono ?_
  rintro e w' ⟨rfl, k⟩
  exact ⟨rfl, hm.kept k (fun e => e) (fun e => e), k.mono (fun _ _ e => e.elim)⟩

theorem open_any (b g : Nat) (xs : List UInt32) (p c : Int) (w : World) (h : Mm w b g xs) (hp : p ≤ 9223372036854775807) :
    Calls Try.prog 15 #[.pointer (some ⟨b, 0, none⟩), .int .i64 p, .int .i64 c] w fun e w' => e = .returned (.int .i64 (opE xs p c)) ∧ Mm w' b g (opX xs p c) ∧ Keeps (· = g) w w' := by
  by_cases hf : BrOk xs p
  · by_cases hc : 1 ≤ c ∧ c ≤ 4
    · by_cases hx : ((cm xs p).toNat : Int) < c
      · exact open_ref h (show _ = 182 by unfold opE; rw [if_pos hf, if_pos hc, if_pos hx]) (by omega) (open_short _ p c _ _ w (lf_in h hf hc) hx)
      · by_cases hy : c < ((cm xs p).toNat : Int)
        · exact open_ref h (show _ = 181 by unfold opE; rw [if_pos hf, if_pos hc, if_neg hx, if_pos hy]) (by omega) (open_full _ p c _ _ w (lf_in h hf hc) hy)
        · have e0 : opE xs p c = 0 := by unfold opE; rw [if_pos hf, if_pos hc, if_neg hx, if_neg hy]
          have e2 : opX xs p c = lay xs p.toNat [0, ep xs p + 1] := by unfold opX; rw [if_pos e0]
          rw [e0, e2]
          exact open_in b g xs p c w h hf hc.2 hc.1 (by omega)
    · exact open_ref h (show _ = 180 by unfold opE; rw [if_pos hf, if_neg hc]) (by omega) (open_no _ p c 180 w (lf_cores h hf hc) (by omega))
  · exact open_ref h (show _ = 51 by unfold opE; rw [if_neg hf]) (by omega) (open_no _ p c 51 w (lf_out h hf hp) (by omega))

theorem come_nil (p c : Int) (w : World) : Calls Try.prog 14 #[.pointer none, .int .i64 p, .int .i64 c] w fun e w' => e = .returned (.tuple #[.bool false, .int .i64 3]) ∧ Keeps (fun _ => False) w w' :=
  come_no _ p c 3 w lf_nil (by omega)
theorem open_nil (p c : Int) (w : World) : Calls Try.prog 15 #[.pointer none, .int .i64 p, .int .i64 c] w fun e w' => e = .returned (.int .i64 3) ∧ Keeps (fun _ => False) w w' :=
  open_no _ p c 3 w lf_nil (by omega)

end Go.Proofs.Ythepajjbflmchaa
