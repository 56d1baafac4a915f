import Derived.Test.YtljhdijledclhaaE
namespace Go.Proofs.Ytljhdijledclhaa
open Go.RowKit
set_option linter.unusedVariables false

/-- How many words an act may change. -/
def actN (K : Nat) (b c : Int) (m : Nat) : Int := match K with | 0 => 1 | 1 => m | 2 => b | _ => c

/-- A good act: its own run has what it should, nothing else has changed. -/
structure Good (K : Nat) (a b n : Int) (x : UInt32) (ys xs zs : List UInt32) : Prop where
  a0 : 0 ≤ a
  n0 : 0 ≤ n
  fit : a + n ≤ xs.length
  len : zs.length = xs.length
  out : ∀ j : Nat, ¬ (a ≤ j ∧ (j : Int) < a + n) → zs[j]? = xs[j]?
  low : K = 0 ∨ K = 2 → ∀ i : Nat, (i : Int) < n → zs[a.toNat + i]? = some x
  one : K = 1 → n = ys.length ∧ ∀ i : Nat, (i : Int) < n → zs[a.toNat + i]? = ys[i]?
  thr : K = 3 → 0 ≤ b ∧ b + n ≤ xs.length ∧ ∀ i : Nat, (i : Int) < n → zs[a.toNat + i]? = xs[b.toNat + i]?

theorem lay_out_get (xs ys : List UInt32) (p j : Nat) (h : p + ys.length ≤ xs.length) (hj : ¬ (p ≤ j ∧ j < p + ys.length)) : (lay xs p ys)[j]? = xs[j]? := by
  have hl : (List.take p xs).length = p := by simp; omega
  unfold lay
  by_cases h1 : j < p
  · rw [List.append_assoc, List.getElem?_append_left (by omega), List.getElem?_take, if_pos h1]
  · rw [List.getElem?_append_right (by simp; omega), List.getElem?_drop]
    congr 1
    simp; omega
theorem lay_in_get (xs ys : List UInt32) (p i : Nat) (h : p + ys.length ≤ xs.length) (hi : i < ys.length) : (lay xs p ys)[p + i]? = ys[i]? := by
  have hl : (List.take p xs).length = p := by simp; omega
  unfold lay
  rw [List.getElem?_append_left (by simp; omega), List.getElem?_append_right (by omega), hl, Nat.add_sub_cancel_left]

theorem good_of {K p n : Nat} {b : Int} {x : UInt32} {ys xs ws : List UInt32} (hn : ws.length = n) (hf : p + n ≤ xs.length) (h02 : K = 0 ∨ K = 2 → ws = List.replicate n x)
    (h1 : K = 1 → ws = ys) (h3 : K = 3 → 0 ≤ b ∧ b + n ≤ xs.length ∧ ws = (xs.drop b.toNat).take n) : Good K p b n x ys xs (lay xs p ws) where
  a0 := by omega
  n0 := by omega
  fit := by omega
  len := lay_length _ _ _ (by omega)
  out := fun j hj => lay_out_get xs ws p j (by omega) (by omega)
  low := fun h i hi => by
    have e := h02 h
    rw [Int.toNat_natCast, lay_in_get xs ws p i (by omega) (by omega), e, List.getElem?_replicate, if_pos (by omega)]
  one := fun h => ⟨by rw [← h1 h, hn], fun i hi => by rw [Int.toNat_natCast, lay_in_get xs ws p i (by omega) (by omega), h1 h]⟩
  thr := fun h => ⟨(h3 h).1, (h3 h).2.1, fun i hi => by
    rw [Int.toNat_natCast, lay_in_get xs ws p i (by omega) (by omega), (h3 h).2.2, List.getElem?_take, if_pos (by omega), List.getElem?_drop]⟩

theorem does_any (b g : Nat) (xs : List UInt32) (k a bb c : Int) (x : UInt32) (ad : Option Addr) (ys : List UInt32) (cap : Nat) (w : World) (h : Mm w b g xs) (hy : SegW w ad ys)
    (hk1 : -9223372036854775808 ≤ k) (hk2 : k ≤ 9223372036854775807) (ha : a ≤ 9223372036854775807) (hb : bb ≤ 9223372036854775807) :
    Calls Try.prog 19 #[.pointer (some ⟨b, 0, none⟩), actV k a bb c x.toNat ad ys.length cap] w fun e w' => ∃ er zs, e = .returned (.tuple #[.int .i64 a, .int .i64 (actN (pk k 4) bb c ys.length), .int .i64 er]) ∧ Mm w' b g zs ∧ Keeps (· = g) w w' ∧
      ((er = 0 ∧ Good (pk k 4) a bb (actN (pk k 4) bb c ys.length) x ys xs zs) ∨
       (er = 51 ∧ zs = xs ∧ (pk k 4 < 3 → ¬ (0 ≤ a ∧ 0 ≤ actN (pk k 4) bb c ys.length ∧ a + actN (pk k 4) bb c ys.length ≤ xs.length)))) := by
  have hP := fun w => pick_any k 4 w (by omega) (by omega) hk1 hk2
  have hlt := pk_lt k 4 (by omega)
  have hT : ∀ w w', SegW w ad ys → Keeps (fun _ => False) w w' → SegW w' ad ys := fun w w' h k => h.kept k fun _ _ e => e
  revert hP hlt
  generalize pk k 4 = K
  intro hP hlt
  have kr : ∀ w, Keeps (· = g) w w := Keeps.refl _
  obtain rfl | rfl | rfl | rfl : K = 0 ∨ K = 1 ∨ K = 2 ∨ K = 3 := by omega
  · by_cases hin : 0 ≤ a ∧ a < xs.length
    · obtain ⟨p, rfl⟩ : ∃ p : Nat, a = p := ⟨a.toNat, by omega⟩
      refine (does_zero b g xs (lay xs p [x]) k p bb c x.toNat ad ys.length cap 0 w (SegW · ad ys) hT hP (fun w _ hM => write_in b g xs p x w hM (by omega)) h hy).mono ?_
      rintro e w' ⟨rfl, hM, hK⟩
      exact ⟨0, _, rfl, hM, hK, .inl ⟨rfl, good_of (n := 1) rfl (by omega) (fun _ => rfl) (fun e => by omega) (fun e => by omega)⟩⟩
    · refine (does_zero b g xs xs k a bb c x.toNat ad ys.length cap 51 w (SegW · ad ys) hT hP (fun w _ hM => (write_out b g xs a x.toNat w hM hin ha).mono fun e w' he => ⟨he.1, he.2 ▸ hM, he.2 ▸ kr _⟩) h hy).mono ?_
      rintro e w' ⟨rfl, hM, hK⟩
      exact ⟨51, _, rfl, hM, hK, .inr ⟨rfl, rfl, fun _ e => hin ⟨e.1, by have := e.2.2; simp only [actN] at this; omega⟩⟩⟩
  · by_cases hin : 0 ≤ a ∧ a + ys.length ≤ xs.length
    · obtain ⟨p, rfl⟩ : ∃ p : Nat, a = p := ⟨a.toNat, by omega⟩
      refine (does_one b g xs (lay xs p ys) k p bb c x.toNat ad ys.length cap 0 w (SegW · ad ys) hT hP (fun w hS hM => lay_in b g xs p ad cap ys w hM hS (by omega)) h hy).mono ?_
      rintro e w' ⟨rfl, hM, hK⟩
      exact ⟨0, _, rfl, hM, hK, .inl ⟨rfl, good_of (n := ys.length) rfl (by omega) (fun e => by omega) (fun _ => rfl) (fun e => by omega)⟩⟩
    · refine (does_one b g xs xs k a bb c x.toNat ad ys.length cap 51 w (SegW · ad ys) hT hP (fun w _ hM => (lay_out b g xs a ad ys.length cap w hM hin ha).mono fun e w' he => ⟨he.1, he.2 ▸ hM, he.2 ▸ kr _⟩) h hy).mono ?_
      rintro e w' ⟨rfl, hM, hK⟩
      exact ⟨51, _, rfl, hM, hK, .inr ⟨rfl, rfl, fun _ e => hin ⟨e.1, e.2.2⟩⟩⟩
  · by_cases hin : 0 ≤ a ∧ 0 ≤ bb ∧ a + bb ≤ xs.length
    · obtain ⟨p, rfl⟩ : ∃ p : Nat, a = p := ⟨a.toNat, by omega⟩
      obtain ⟨n, rfl⟩ : ∃ n : Nat, bb = n := ⟨bb.toNat, by omega⟩
      refine (does_two b g xs (lay xs p (List.replicate n x)) k p n c x.toNat ad ys.length cap 0 w (SegW · ad ys) hT hP (fun w hS hM => ?_) h hy).mono ?_
      · by_cases h0 : x.toNat = 0
        · have hx : x = 0 := UInt32.toNat_inj.1 h0
          subst hx
          exact fill_zero b g xs p n w hM (by omega)
        · exact fill_some b g xs p n x w hM (by omega) (by omega)
      · rintro e w' ⟨rfl, hM, hK⟩
        exact ⟨0, _, rfl, hM, hK, .inl ⟨rfl, good_of (n := n) (List.length_replicate) (by omega) (fun _ => rfl) (fun e => by omega) (fun e => by omega)⟩⟩
    · refine (does_two b g xs xs k a bb c x.toNat ad ys.length cap 51 w (SegW · ad ys) hT hP (fun w _ hM => (fill_out b g xs a bb x.toNat w hM hin ha).mono fun e w' he => ⟨he.1, he.2 ▸ hM, he.2 ▸ kr _⟩) h hy).mono ?_
      rintro e w' ⟨rfl, hM, hK⟩
      exact ⟨51, _, rfl, hM, hK, .inr ⟨rfl, rfl, fun _ e => hin e⟩⟩
  · by_cases hin : 0 ≤ a ∧ 0 ≤ c ∧ a + c ≤ xs.length
    · obtain ⟨p, rfl⟩ : ∃ p : Nat, a = p := ⟨a.toNat, by omega⟩
      obtain ⟨n, rfl⟩ : ∃ n : Nat, c = n := ⟨c.toNat, by omega⟩
      by_cases hin2 : 0 ≤ bb ∧ 0 ≤ (n : Int) ∧ bb + n ≤ xs.length
      · obtain ⟨q, rfl⟩ : ∃ q : Nat, bb = q := ⟨bb.toNat, by omega⟩
        refine (does_three b g xs (lay xs p ((xs.drop q).take n)) k p q n x.toNat ad ys.length cap 0 w (SegW · ad ys) hT hP (fun w hS hM => move_in b g xs p q n w hM (by omega) (by omega)) h hy).mono ?_
        rintro e w' ⟨rfl, hM, hK⟩
        exact ⟨0, _, rfl, hM, hK, .inl ⟨rfl, good_of (n := n) (by simp; omega) (by omega) (fun e => by omega) (fun e => by omega) (fun _ => ⟨hin2.1, hin2.2.2, rfl⟩)⟩⟩
      · refine (does_three b g xs xs k p bb n x.toNat ad ys.length cap 51 w (SegW · ad ys) hT hP (fun w _ hM => (move_out2 b g xs p n bb w hM (by omega) hin2 hb).mono fun e w' he => ⟨he.1, he.2 ▸ hM, he.2 ▸ kr _⟩) h hy).mono ?_
        rintro e w' ⟨rfl, hM, hK⟩
        exact ⟨51, _, rfl, hM, hK, .inr ⟨rfl, rfl, fun e => by omega⟩⟩
    · refine (does_three b g xs xs k a bb c x.toNat ad ys.length cap 51 w (SegW · ad ys) hT hP (fun w _ hM => (move_out b g xs a bb c w hM hin ha).mono fun e w' he => ⟨he.1, he.2 ▸ hM, he.2 ▸ kr _⟩) h hy).mono ?_
      rintro e w' ⟨rfl, hM, hK⟩
      exact ⟨51, _, rfl, hM, hK, .inr ⟨rfl, rfl, fun e => by omega⟩⟩

end Go.Proofs.Ytljhdijledclhaa
