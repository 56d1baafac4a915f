import Derived.Test.YtbddahdbadkobaaDoorRe
namespace Go.Proofs.YtbddahdbadkobaaDoor
open Go.RowKit Go.Shelf
set_option linter.unusedVariables false
set_option linter.unusedSimpArgs false
set_option maxRecDepth 6000

/-- Both shelves, apart; K: blocks that are neither's. -/
structure Bo (Z : Nat) (K : Nat → Prop) (w : World) (s b room : Nat) (kv : List (Int × Value)) (ks vs : List ByteArray) (F G : Nat → Prop) : Prop where
  sf : Sf w s room kv F
  rf : ∃ u v, Rf w b room ks vs u v G
  ap : ∀ k, F k → ¬ G k
  tb : Tb w
  lo : ∀ k, F k ∨ G k → Z ≤ k
  z : 1 ≤ Z ∧ Z ≤ w.heap.size
  nk : ∀ k, K k → k < w.heap.size ∧ ¬ F k ∧ ¬ G k

theorem Bo.kept {Z : Nat} {K : Nat → Prop} {w w' : World} {s b room : Nat} {kv : List (Int × Value)} {ks vs : List ByteArray} {F G : Nat → Prop} (h : Bo Z K w s b room kv ks vs F G) (hK : Keeps (fun _ => False) w w') : Bo Z K w' s b room kv ks vs F G := by
  obtain ⟨u, v, hr⟩ := h.rf
  exact { h with sf := h.sf.kept hK fun _ _ h => h, rf := ⟨u, v, hr.kept hK fun _ _ h => h⟩, tb := h.tb.kept hK fun h => h, z := ⟨h.z.1, Nat.le_trans h.z.2 hK.size⟩, nk := fun k hk => ⟨Nat.lt_of_lt_of_le (h.nk k hk).1 hK.size, (h.nk k hk).2⟩ }

theorem Bo.left {Z : Nat} {K : Nat → Prop} {w w' : World} {s b room : Nat} {kv kv' : List (Int × Value)} {ks vs : List ByteArray} {F G : Nat → Prop} (h : Bo Z K w s b room kv ks vs F G) (hN : Now w w' s room kv' F) :
    (∃ F', Bo Z K w' s b room kv' ks vs F' G) ∧ Keeps (fun k => Z ≤ k ∧ ¬ K k) w w' := by
  obtain ⟨⟨F', hS, hF⟩, hK⟩ := hN
  obtain ⟨u, v, hr⟩ := h.rf
  have h1 : ∀ k, F' k → Z ≤ k := fun k e => by
    rcases hF k e with e | e
    · exact h.lo k (.inl e)
    · exact Nat.le_trans h.z.2 e
  refine ⟨⟨F', hS, ⟨u, v, hr.kept hK fun k hg hf => h.ap k hf hg⟩, fun k hf hg => ?_, h.tb.kept hK fun h0 => ?_, fun k e => e.elim (h1 k) fun e => h.lo k (.inr e), ⟨h.z.1, Nat.le_trans h.z.2 hK.size⟩, fun k hk => ⟨Nat.lt_of_lt_of_le (h.nk k hk).1 hK.size, fun e => ?_, (h.nk k hk).2.2⟩⟩, hK.mono fun k _ e => ⟨h.lo k (.inl e), fun e' => (h.nk k e').2.1 e⟩⟩
  · rcases hF k hf with e | e
    · exact h.ap k e hg
    · have := hr.lt k hg; omega
  · have h2 := h.lo 0 (.inl h0); have h3 := h.z.1; omega
  · rcases hF k e with e | e
    · exact (h.nk k hk).2.1 e
    · have := (h.nk k hk).1; omega

theorem Bo.right {Z : Nat} {K : Nat → Prop} {w w' : World} {s b room : Nat} {kv : List (Int × Value)} {ks vs ks' vs' : List ByteArray} {F G : Nat → Prop} (h : Bo Z K w s b room kv ks vs F G) (hN : NowR w w' b room ks' vs' G) :
    (∃ G', Bo Z K w' s b room kv ks' vs' F G') ∧ Keeps (fun k => Z ≤ k ∧ ¬ K k) w w' := by
  obtain ⟨⟨u, v, G', hR, hG⟩, hK⟩ := hN
  have h1 : ∀ k, G' k → Z ≤ k := fun k e => by
    rcases hG k e with e | e
    · exact h.lo k (.inr e)
    · exact Nat.le_trans h.z.2 e
  have hlt : ∀ k, F k → k < w.heap.size := h.sf.lt
  refine ⟨⟨G', h.sf.kept hK fun k hf hg => h.ap k hf hg, ⟨u, v, hR⟩, fun k hf hg => ?_, h.tb.kept hK fun h0 => ?_, fun k e => e.elim (fun e => h.lo k (.inl e)) (h1 k), ⟨h.z.1, Nat.le_trans h.z.2 hK.size⟩, fun k hk => ⟨Nat.lt_of_lt_of_le (h.nk k hk).1 hK.size, (h.nk k hk).2.1, fun e => ?_⟩⟩, hK.mono fun k _ e => ⟨h.lo k (.inr e), fun e' => (h.nk k e').2.2 e⟩⟩
  · rcases hG k hg with e | e
    · exact h.ap k hf e
    · have := hlt k hf; omega
  · have h2 := h.lo 0 (.inr h0); have h3 := h.z.1; omega
  · rcases hG k e with e | e
    · exact (h.nk k hk).2.2 e
    · have := (h.nk k hk).1; omega

def kvP (P : List (Int × ByteArray)) : List (Int × Value) := P.map fun p => (p.1, .string p.2)
def ksP (P : List (Int × ByteArray)) : List ByteArray := P.map fun p => tx p.1
def vsP (P : List (Int × ByteArray)) : List ByteArray := P.map (·.2)
theorem kvP_append (A C : List (Int × ByteArray)) : kvP (A ++ C) = kvP A ++ kvP C := by simp [kvP]

/-- A key that is there. -/
structure Hit (P : List (Int × ByteArray)) (k : Int) (y : ByteArray) (j : Nat) (Q : List (Int × ByteArray)) : Prop where
  look : look k (kvP P) = some (.string y)
  del : del k (kvP P) = kvP Q
  ks : (ksP P)[j]? = some (tx k)
  first : ∀ i, i < j → (ksP P)[i]? ≠ some (tx k)
  vs : (vsP P)[j]? = some y
  ek : (ksP P).eraseIdx j = ksP Q
  ev : (vsP P).eraseIdx j = vsP Q
theorem split_any (P : List (Int × ByteArray)) (k : Int) (h : ((kvP P).map Prod.fst).Nodup) : (∃ y j Q, Hit P k y j Q) ∨ ((look k (kvP P) = none ∧ del k (kvP P) = kvP P) ∧ ∀ x ∈ ksP P, x ≠ tx k) := by
  by_cases hk : ∃ p ∈ P, p.1 = k
  · left
    have : ∃ A y C, P = A ++ (k, y) :: C ∧ ∀ p ∈ A, p.1 ≠ k := by
      clear h
      induction P with
      | nil => obtain ⟨p, hp, _⟩ := hk; cases hp
      | cons q r ih =>
        by_cases e : q.1 = k
        · exact ⟨[], q.2, r, by simp [← e], fun p hp => by cases hp⟩
        · obtain ⟨A, y, C, e1, e2⟩ := ih (by
            obtain ⟨p, hp, hpk⟩ := hk
            rcases List.mem_cons.1 hp with e' | e'
            · exact absurd (e' ▸ hpk) e
            · exact ⟨p, e', hpk⟩)
          exact ⟨q :: A, y, C, by rw [e1]; rfl, fun p hp => by
            rcases List.mem_cons.1 hp with e' | e'
            · rw [e']; exact e
            · exact e2 p e'⟩
    obtain ⟨A, y, C, rfl, hA⟩ := this
    have e0 : kvP (A ++ (k, y) :: C) = kvP A ++ (k, .string y) :: kvP C := by simp [kvP]
    rw [e0] at h
    have hl : (ksP A).length = A.length ∧ (vsP A).length = A.length := by simp [ksP, vsP]
    have ek : ksP (A ++ (k, y) :: C) = ksP A ++ tx k :: ksP C := by simp [ksP]
    have ev : vsP (A ++ (k, y) :: C) = vsP A ++ y :: vsP C := by simp [vsP]
    refine ⟨y, A.length, A ++ C, ⟨by rw [e0]; exact look_split _ h, by rw [e0, del_split _ h, kvP_append], ?_, fun i hi => ?_, ?_, ?_, ?_⟩⟩
    · rw [ek, List.getElem?_append_right (by omega), hl.1, Nat.sub_self]; rfl
    · rw [ek, List.getElem?_append_left (by omega)]
      intro e
      obtain ⟨p, hp, e'⟩ := List.mem_map.1 (List.mem_of_getElem? e)
      exact hA p hp (tx_inj e')
    · rw [ev, List.getElem?_append_right (by omega), hl.2, Nat.sub_self]; rfl
    · rw [ek, List.eraseIdx_append_of_length_le (by omega), hl.1, Nat.sub_self]; simp [ksP]
    · rw [ev, List.eraseIdx_append_of_length_le (by omega), hl.2, Nat.sub_self]; simp [vsP]
  · right
    have hn : ∀ p ∈ kvP P, p.1 ≠ k := fun p hp e => by
      obtain ⟨q, hq, rfl⟩ := List.mem_map.1 hp
      exact hk ⟨q, hq, e⟩
    refine ⟨⟨look_none k hn, del_none k hn⟩, fun x hx e => ?_⟩
    obtain ⟨q, hq, rfl⟩ := List.mem_map.1 hx
    exact hk ⟨q, hq, tx_inj e⟩

/-- Both hold the same. -/
def Es (Z : Nat) (K : Nat → Prop) (w : World) (s b room : Nat) (P : List (Int × ByteArray)) : Prop := ∃ F G, Bo Z K w s b room (kvP P) (ksP P) (vsP P) F G

end Go.Proofs.YtbddahdbadkobaaDoor
