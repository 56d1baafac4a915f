import Derived.Test.YtfcgpjojjehkiaaRd
import Derived.Test.YtfcgpjojjehkiaaX
namespace Go.Proofs.Ytfcgpjojjehkiaa
open Go.RowKit
set_option linter.unusedVariables false

/-- What words say. -/
def hT (l : List UInt32) : Bool := decide (wd l 0 ≠ 0)
def hF (h : Nat) (l : List UInt32) : Bool := hT l && (decide (h = 3) && decide (wd l 1 = 1))
def hM (h : Nat) (l : List UInt32) : List UInt32 := if wd l 0 = 0 then [] else (l.drop h).take (wd l (h - 1)).toNat
def hV (h : Nat) (l : List UInt32) (G c : Nat) : Value := if wd l 0 = 0 then .slice none 0 0 else .slice (some ⟨G, h, none⟩) (wd l (h - 1)).toNat (c - h)

theorem zeroB_iff (l : List UInt32) : zeroB l = true ↔ l = List.replicate l.length 0 := by
  unfold zeroB
  rw [List.all_eq_true]
  constructor
  · intro h
    exact List.eq_replicate_iff.2 ⟨rfl, fun x hx => by simpa using h x hx⟩
  · intro h x hx
    rw [h] at hx
    simp [List.eq_of_mem_replicate hx]
theorem zeroB_eq (l : List UInt32) : zeroB l = decide (List.replicate l.length 0 = l) := by
  rw [Bool.eq_iff_iff, zeroB_iff, decide_eq_true_iff]
  exact ⟨fun h => h.symm, fun h => h.symm⟩
theorem take_zeros {r : List UInt32} {k n : Nat} (hr : r.length = n) (hk : k ≤ n) : (r.take k ++ List.replicate (n - k) 0 = r) ↔ zeroB (r.drop k) = true := by
  rw [zeroB_iff, List.length_drop, hr]
  constructor
  · intro h
    have := congrArg (List.drop k) h
    rw [List.drop_append, List.drop_of_length_le (by simp; omega), List.nil_append, List.length_take] at this
    rw [← this, Nat.min_eq_left (by omega), Nat.sub_self]; simp
  · intro h
    rw [← h, List.take_append_drop]
theorem ofNat_toNat (c : UInt32) : UInt32.ofNat c.toNat = c := by simp

theorem right_eq2 {n : Nat} {l : List UInt32} (hl : l.length = 2 + n) (h0 : wd l 0 ≠ 0) (h1 : 1 ≤ (wd l 1).toNat) (h2 : (wd l 1).toNat ≤ n) (F : Bool) : rightB 2 n l = decide (hdW 2 n true F (hM 2 l) = l) := by
  match l, hl with
  | a :: c :: r, hl =>
    have hr : r.length = n := by simp at hl; omega
    have ea : wd (a :: c :: r) 0 = a := rfl
    have ec : wd (a :: c :: r) 1 = c := rfl
    have ec' : wd (a :: c :: r) (2 - 1) = c := rfl
    rw [ea] at h0
    rw [ec] at h1 h2
    have hml : (r.take c.toNat).length = c.toNat := by simp; omega
    unfold hM
    rw [ea, ec', if_neg h0]
    unfold rightB
    rw [ea, ec', if_neg h0, if_neg (by omega)]
    show _ = decide (1 :: UInt32.ofNat (r.take c.toNat).length :: (r.take c.toNat ++ List.replicate (n - (r.take c.toNat).length) 0) = a :: c :: r)
    rw [hml, ofNat_toNat, Bool.eq_iff_iff, decide_eq_true_iff]
    have e1 : (a :: c :: r).drop (2 + c.toNat) = r.drop c.toNat := by rw [Nat.add_comm]; rfl
    rw [e1]
    by_cases ha : a = 1
    · subst ha
      rw [if_neg (by rintro (h | h | h) <;> first | exact h rfl | omega), ← take_zeros hr h2]
      simp
    · rw [if_pos (.inl ha)]
      constructor
      · intro h; cases h
      · intro h; injection h with h _; exact absurd h.symm ha

theorem right_eq3 {n : Nat} {l : List UInt32} (hl : l.length = 3 + n) (h0 : wd l 0 ≠ 0) (h1 : 1 ≤ (wd l 2).toNat) (h2 : (wd l 2).toNat ≤ n) : rightB 3 n l = decide (hdW 3 n true (decide (wd l 1 = 1)) (hM 3 l) = l) := by
  match l, hl with
  | a :: b :: c :: r, hl =>
    have hr : r.length = n := by simp at hl; omega
    have ea : wd (a :: b :: c :: r) 0 = a := rfl
    have eb : wd (a :: b :: c :: r) 1 = b := rfl
    have ec : wd (a :: b :: c :: r) 2 = c := rfl
    have ec' : wd (a :: b :: c :: r) (3 - 1) = c := rfl
    rw [ea] at h0
    rw [ec] at h1 h2
    have hml : (r.take c.toNat).length = c.toNat := by simp; omega
    unfold hM
    rw [ea, ec', if_neg h0]
    unfold rightB
    rw [ea, eb, ec', if_neg h0]
    show _ = decide (1 :: (if decide (b = 1) then 1 else 0) :: UInt32.ofNat (r.take c.toNat).length :: (r.take c.toNat ++ List.replicate (n - (r.take c.toNat).length) 0) = a :: b :: c :: r)
    rw [hml, ofNat_toNat, Bool.eq_iff_iff, decide_eq_true_iff]
    have e1 : (a :: b :: c :: r).drop (3 + c.toNat) = r.drop c.toNat := by rw [Nat.add_comm]; rfl
    rw [e1]
    by_cases hb : 1 < b.toNat
    · rw [if_pos ⟨rfl, hb⟩]
      constructor
      · intro h; cases h
      · intro h
        injection h with _ h
        injection h with h _
        exfalso
        by_cases hb1 : b = 1
        · rw [hb1] at hb; exact absurd hb (by decide)
        · rw [if_neg (by simpa using hb1)] at h
          rw [← h] at hb; exact absurd hb (by decide)
    · have hb2 : (if decide (b = 1) then (1 : UInt32) else 0) = b := by
        by_cases hb1 : b = 1
        · rw [hb1]; rfl
        · rw [if_neg (by simpa using hb1)]
          have hb3 : b.toNat ≠ 1 := fun e => hb1 (UInt32.toNat_inj.1 (by simpa using e))
          exact (UInt32.toNat_inj.1 (by show 0 = b.toNat; omega))
      rw [if_neg (by omega), hb2]
      by_cases ha : a = 1
      · subst ha
        rw [if_neg (by rintro (h | h | h) <;> first | exact h rfl | omega), ← take_zeros hr h2]
        simp
      · rw [if_pos (.inl ha)]
        constructor
        · intro h; cases h
        · intro h; injection h with h _; exact absurd h.symm ha

theorem right_bad {h n : Nat} {l : List UInt32} (h0 : wd l 0 ≠ 0) (hk : (wd l (h - 1)).toNat < 1 ∨ n < (wd l (h - 1)).toNat) : rightB h n l = false := by
  unfold rightB
  rw [if_neg h0]
  by_cases h1 : h = 3 ∧ 1 < (wd l 1).toNat
  · rw [if_pos h1]
  · rw [if_neg h1, if_pos (.inr hk)]

/-- Behind read. -/
def RdR (w : World) (h n : Nat) (l : List UInt32) (G c : Nat) (e : Ending) (w' : World) : Prop :=
  ∃ T F va vk vc, e = .returned (.tuple #[hldv T F (.slice va vk vc), .bool (rightB h n l)]) ∧ (rightB h n l = true → T = hT l ∧ F = hF h l ∧ .slice va vk vc = hV h l G c) ∧ Keeps (fun _ => False) w w'

set_option maxHeartbeats 1000000 in
theorem hread_bad (h n G c : Nat) (l : List UInt32) (w : World) (hs : SegW w (some ⟨G, 0, none⟩) l) (hl : l.length = h + n) (hh : h = 2 ∨ h = 3) (hn1 : 1 ≤ n) (hn : n ≤ 16) (h0 : wd l 0 ≠ 0) (hk : (wd l (h - 1)).toNat < 1 ∨ n < (wd l (h - 1)).toNat) :
    Calls Try.prog 49 #[.slice (some ⟨G, 0, none⟩) l.length c, .int .i64 h] w (RdR w h n l G c) := by
  have hK : Keeps (fun _ => False) w ((w.alloc (.cells #[.bool false, .bool false, .slice none 0 0] 83)).alloc (.cells #[.bool false, .bool false, .slice none 0 0] 83)) := ((Keeps.refl _ w).alloc _).alloc _
  have hs2 := hs.kept hK (fun _ _ e => e)
  have c0 := hs2.wd (j := 0) (by omega)
  have cl := hs2.wd (j := h - 1) (by omega)
  rw [Nat.zero_add] at c0 cl
  have HR : Hid (rightB h n l = false ∧ Keeps (fun _ => False) w ((w.alloc (.cells #[.bool false, .bool false, .slice none 0 0] 83)).alloc (.cells #[.bool false, .bool false, .slice none 0 0] 83))) := ⟨right_bad h0 hk, hK⟩
  have hv0 : (((wd l 0).toNat : Int) != 0) = true := by
    have : (wd l 0).toNat ≠ 0 := fun e => h0 (UInt32.toNat_inj.1 (by simpa using e))
    exact bne_iff_ne.2 (by omega)
  obtain ⟨v0, hv⟩ : ∃ v : Nat, v = (wd l 0).toNat := ⟨_, rfl⟩
  obtain ⟨k, hkk⟩ : ∃ v : Nat, v = (wd l (h - 1)).toNat := ⟨_, rfl⟩
  rw [← hv] at c0 hv0
  rw [← hkk] at cl hk
  have hk9 : (k : Int) ≤ 9223372036854775807 := by have := (wd l (h - 1)).toNat_lt; omega
  obtain ⟨L, hL⟩ : ∃ L, L = l.length := ⟨_, rfl⟩
  rw [← hL] at hl ⊢
  have e1 : ((h - 1 : Nat) : Int) = (h : Int) - 1 := by omega
  have ex : ((h : Int) - 1).toNat = h - 1 := by omega
  have g0 : 0 < (L : Int) := by omega
  have g1 : (h : Int) - 1 < (L : Int) := by omega
  have g2 : 2 ≤ (h : Int) := by omega
  have g3 : (h : Int) ≤ 3 := by omega
  have g4 : (L : Int) - (h : Int) = (n : Int) := by omega
  have hkk2 : (k : Int) < 1 ∨ (¬ (k : Int) < 1 ∧ (n : Int) < (k : Int)) := by omega
  have g5 : (n : Int) ≤ 16 := by omega
  clear hs hs2 hl hh hn1 hn h0 hk hK hv hkk hL
  rcases hkk2 with z1 | ⟨z1, z2⟩
  all_goals
    go_enter Try.func49, Try.ntmps49
    go_wp2
    go_returns
    exact ⟨_, _, _, _, _, by rw [HR.out.1], (fun e => by rw [HR.out.1] at e; cases e), HR.out.2⟩

end Go.Proofs.Ytfcgpjojjehkiaa
