import Derived.Test.YtomjodoimjiceaaDoorRe
namespace Go.Proofs.YtomjodoimjiceaaDoor
open Go.RowKit Go.Shelf
set_option linter.unusedVariables false
set_option linter.unusedSimpArgs false
set_option maxRecDepth 6000

/-- Both shelves, apart; K: blocks that are neither's. -/
structure Bo (Z : Nat) (K : Nat → Prop) (w : World) (s b room : Nat) (kv : List (ByteArray × S.Lf)) (ks vs : List ByteArray) (F G : Nat → Prop) : Prop where
  sf : S.Sf w s room kv F
  rf : ∃ u v, Rf w b room ks vs u v G
  ap : ∀ k, F k → ¬ G k
  tb : Tb w
  lo : ∀ k, F k ∨ G k → Z ≤ k
  z : 1 ≤ Z ∧ Z ≤ w.heap.size
  nk : ∀ k, K k → k < w.heap.size ∧ ¬ F k ∧ ¬ G k

section
variable {Z : Nat} {K : Nat → Prop} {w w' : World} {s b room : Nat} {kv kv' : List (ByteArray × S.Lf)} {ks vs ks' vs' : List ByteArray} {F G : Nat → Prop}
theorem Bo.kept (h : Bo Z K w s b room kv ks vs F G) (hK : Keeps (fun _ => False) w w') : Bo Z K w' s b room kv ks vs F G := by
  obtain ⟨u, v, hr⟩ := h.rf
  exact { h with sf := h.sf.kept hK fun _ _ h => h, rf := ⟨u, v, hr.kept hK fun _ _ h => h⟩, tb := h.tb.kept hK fun h => h, z := ⟨h.z.1, Nat.le_trans h.z.2 hK.size⟩, nk := fun k hk => ⟨Nat.lt_of_lt_of_le (h.nk k hk).1 hK.size, (h.nk k hk).2⟩ }

theorem Bo.left (h : Bo Z K w s b room kv ks vs F G) (hN : S.Now w w' s room kv' F) :
    (∃ F', Bo Z K w' s b room kv' ks vs F' G) ∧ Keeps (fun k => Z ≤ k ∧ ¬ K k) w w' := by
  obtain ⟨⟨F', hS, hF⟩, hK⟩ := hN
  obtain ⟨u, v, hr⟩ := h.rf
  have h1 : ∀ k, F' k → Z ≤ k := fun k e => by
    rcases hF k e with e | e
    · exact h.lo k (.inl e)
    · exact Nat.le_trans h.z.2 e
  refine ⟨⟨F', hS, ⟨u, v, hr.kept hK fun k hg hf => h.ap k hf hg⟩, fun k hf hg => ?_, h.tb.kept hK fun h0 => ?_, fun k e => e.elim (h1 k) fun e => h.lo k (.inr e), ⟨h.z.1, Nat.le_trans h.z.2 hK.size⟩, fun k hk => ⟨Nat.lt_of_lt_of_le (h.nk k hk).1 hK.size, fun e => ?_, (h.nk k hk).2.2⟩⟩, hK.mono fun k _ e => ⟨h.lo k (.inl e), fun e' => (h.nk k e').2.1 e⟩⟩
  · rcases hF k hf with e | e
    · exact h.ap k e hg
    · have := hr.lt k hg; omega
  · have h2 := h.lo 0 (.inl h0); have h3 := h.z.1; omega
  · rcases hF k e with e | e
    · exact (h.nk k hk).2.1 e
    · have := (h.nk k hk).1; omega

theorem Bo.right (h : Bo Z K w s b room kv ks vs F G) (hN : NowR w w' b room ks' vs' G) :
    (∃ G', Bo Z K w' s b room kv ks' vs' F G') ∧ Keeps (fun k => Z ≤ k ∧ ¬ K k) w w' := by
  obtain ⟨⟨u, v, G', hR, hG⟩, hK⟩ := hN
  have h1 : ∀ k, G' k → Z ≤ k := fun k e => by
    rcases hG k e with e | e
    · exact h.lo k (.inr e)
    · exact Nat.le_trans h.z.2 e
  have hlt : ∀ k, F k → k < w.heap.size := h.sf.lt
  refine ⟨⟨G', h.sf.kept hK fun k hf hg => h.ap k hf hg, ⟨u, v, hR⟩, fun k hf hg => ?_, h.tb.kept hK fun h0 => ?_, fun k e => e.elim (fun e => h.lo k (.inl e)) (h1 k), ⟨h.z.1, Nat.le_trans h.z.2 hK.size⟩, fun k hk => ⟨Nat.lt_of_lt_of_le (h.nk k hk).1 hK.size, (h.nk k hk).2.1, fun e => ?_⟩⟩, hK.mono fun k _ e => ⟨h.lo k (.inr e), fun e' => (h.nk k e').2.2 e⟩⟩
  · rcases hG k hg with e | e
    · exact h.ap k hf e
    · have := hlt k hf; omega
  · have h2 := h.lo 0 (.inr h0); have h3 := h.z.1; omega
  · rcases hG k e with e | e
    · exact (h.nk k hk).2.2 e
    · have := (h.nk k hk).1; omega

/-- What was done to blocks that are neither's; new ones are neither's too. -/
theorem Bo.third {S : Nat → Prop} (h : Bo Z K w s b room kv ks vs F G) (hK : Keeps S w w') (hS : ∀ k, S k → K k ∧ Z ≤ k) : Bo Z (fun k => K k ∨ (w.heap.size ≤ k ∧ k < w'.heap.size)) w' s b room kv ks vs F G := by
  obtain ⟨u, v, hr⟩ := h.rf
  refine ⟨h.sf.kept hK fun k hf e => (h.nk k (hS k e).1).2.1 hf, ⟨u, v, hr.kept hK fun k hg e => (h.nk k (hS k e).1).2.2 hg⟩, h.ap, h.tb.kept hK fun e => by have := (hS 0 e).2; have := h.z.1; omega, h.lo, ⟨h.z.1, Nat.le_trans h.z.2 hK.size⟩, fun k e => ?_⟩
  rcases e with e | e
  · exact ⟨Nat.lt_of_lt_of_le (h.nk k e).1 hK.size, (h.nk k e).2⟩
  · exact ⟨e.2, fun hf => by have := h.sf.lt k hf; omega, fun hg => by have := hr.lt k hg; omega⟩
end

/-- What is told of a pair. -/
def tol (l : S.Lf) : ByteArray := tx l.p ++ ⟨#[44]⟩ ++ tx l.f
def ksP (P : List (ByteArray × S.Lf)) : List ByteArray := P.map Prod.fst
def vsP (P : List (ByteArray × S.Lf)) : List ByteArray := P.map fun p => tol p.2

/-- A key that is there. -/
structure Hit (P : List (ByteArray × S.Lf)) (k : ByteArray) (y : S.Lf) (j : Nat) (Q : List (ByteArray × S.Lf)) : Prop where
  look : S.look k P = some y
  del : S.del k P = Q
  ks : (ksP P)[j]? = some k
  first : ∀ i, i < j → (ksP P)[i]? ≠ some k
  vs : (vsP P)[j]? = some (tol y)
  ek : (ksP P).eraseIdx j = ksP Q
  ev : (vsP P).eraseIdx j = vsP Q
  mem : (k, y) ∈ P
  sub : ∀ p ∈ Q, p ∈ P
theorem split_any (P : List (ByteArray × S.Lf)) (k : ByteArray) (h : (P.map Prod.fst).Nodup) : (∃ y j Q, Hit P k y j Q) ∨ ((S.look k P = none ∧ S.del k P = P) ∧ ∀ x ∈ ksP P, x ≠ k) := by
  by_cases hk : ∃ p ∈ P, p.1 = k
  · left
    have : ∃ A y C, P = A ++ (k, y) :: C ∧ ∀ p ∈ A, p.1 ≠ k := by
      clear h
      induction P with
      | nil => obtain ⟨p, hp, _⟩ := hk; cases hp
      | cons q r ih =>
        by_cases e : q.1 = k
        · exact ⟨[], q.2, r, by simp [← e], fun p hp => by cases hp⟩
        · obtain ⟨A, y, C, e1, e2⟩ := ih (by
            obtain ⟨p, hp, hpk⟩ := hk
            rcases List.mem_cons.1 hp with e' | e'
            · exact absurd (e' ▸ hpk) e
            · exact ⟨p, e', hpk⟩)
          exact ⟨q :: A, y, C, by rw [e1]; rfl, fun p hp => by
            rcases List.mem_cons.1 hp with e' | e'
            · rw [e']; exact e
            · exact e2 p e'⟩
    obtain ⟨A, y, C, rfl, hA⟩ := this
    have hl : (ksP A).length = A.length ∧ (vsP A).length = A.length := by simp [ksP, vsP]
    have ek : ksP (A ++ (k, y) :: C) = ksP A ++ k :: ksP C := by simp [ksP]
    have ev : vsP (A ++ (k, y) :: C) = vsP A ++ tol y :: vsP C := by simp [vsP]
    refine ⟨y, A.length, A ++ C, ⟨S.look_split _ h, S.del_split _ h, ?_, fun i hi => ?_, ?_, ?_, ?_, by simp, fun p hp => by simp at hp ⊢; rcases hp with h | h <;> simp [h]⟩⟩
    · rw [ek, List.getElem?_append_right (by omega), hl.1, Nat.sub_self]; rfl
    · rw [ek, List.getElem?_append_left (by omega)]
      intro e
      obtain ⟨p, hp, e'⟩ := List.mem_map.1 (List.mem_of_getElem? e)
      exact hA p hp e'
    · rw [ev, List.getElem?_append_right (by omega), hl.2, Nat.sub_self]; rfl
    · rw [ek, List.eraseIdx_append_of_length_le (by omega), hl.1, Nat.sub_self]; simp [ksP]
    · rw [ev, List.eraseIdx_append_of_length_le (by omega), hl.2, Nat.sub_self]; simp [vsP]
  · right
    have hn : ∀ p ∈ P, p.1 ≠ k := fun p hp e => hk ⟨p, hp, e⟩
    refine ⟨⟨S.look_none k hn, S.del_none k hn⟩, fun x hx e => ?_⟩
    obtain ⟨q, hq, rfl⟩ := List.mem_map.1 hx
    exact hk ⟨q, hq, e⟩

def LfOk (l : S.Lf) : Prop := I.I64 l.p ∧ I.I64 l.f
/-- Both hold the same. -/
def Es (Z : Nat) (K : Nat → Prop) (w : World) (s b room : Nat) (P : List (ByteArray × S.Lf)) : Prop := (∃ F G, Bo Z K w s b room P (ksP P) (vsP P) F G) ∧ ∀ p ∈ P, LfOk p.2

theorem Bo.toEs {Z : Nat} {K : Nat → Prop} {w : World} {s b room : Nat} {kv : List (ByteArray × S.Lf)} {ks vs : List ByteArray} {F G : Nat → Prop} (h : Bo Z K w s b room kv ks vs F G) (P : List (ByteArray × S.Lf)) (e1 : kv = P) (e2 : ks = ksP P) (e3 : vs = vsP P) (hP : ∀ p ∈ P, LfOk p.2) : Es Z K w s b room P := by
  subst e1 e2 e3; exact ⟨⟨F, G, h⟩, hP⟩

section
variable (Z : Nat) (K : Nat → Prop) (w : World) (s b room : Nat) (P : List (ByteArray × S.Lf)) (k : ByteArray)
theorem put_stepP (t : S.Lf) (h : Es Z K w s b room P) (hk : S.I64 k) :
    Calls Tryd.prog 20 #[ptr s, .string k, t.v] w fun r w' => r = .returned (.tuple #[.string (S.goneL room k P).1, .bool (S.goneL room k P).2]) ∧ (∃ F' G', Bo Z K w' s b room (S.putL room k t P) (ksP P) (vsP P) F' G') ∧ Keeps (fun k => Z ≤ k ∧ ¬ K k) w w' := by
  obtain ⟨⟨F, G, hB⟩, _⟩ := h
  refine (S.put_any s room P F k t w hB.sf hk).mono fun r w' ⟨q1, q2⟩ => ?_
  obtain ⟨⟨F', h1⟩, h2⟩ := hB.left q2
  exact ⟨q1, ⟨F', G, h1⟩, h2⟩
theorem get_stepP (h : Es Z K w s b room P) (hk : S.I64 k) :
    Calls Tryd.prog 22 #[ptr s, .string k] w fun r w' => r = .returned (.tuple #[((S.look k P).getD S.Lf.none).v, .bool (S.look k P).isSome]) ∧ (∃ F' G', Bo Z K w' s b room (S.touch k P) (ksP P) (vsP P) F' G') ∧ Keeps (fun k => Z ≤ k ∧ ¬ K k) w w' := by
  obtain ⟨⟨F, G, hB⟩, _⟩ := h
  refine (S.get_any s room P F k w hB.sf hk).mono fun r w' ⟨q1, q2⟩ => ?_
  obtain ⟨⟨F', h1⟩, h2⟩ := hB.left q2
  exact ⟨q1, ⟨F', G, h1⟩, h2⟩
theorem drop_stepP (h : Es Z K w s b room P) (hk : S.I64 k) :
    Calls Tryd.prog 26 #[ptr s, .string k] w fun r w' => r = .returned (.bool (S.look k P).isSome) ∧ (∃ F' G', Bo Z K w' s b room (S.del k P) (ksP P) (vsP P) F' G') ∧ Keeps (fun k => Z ≤ k ∧ ¬ K k) w w' := by
  obtain ⟨⟨F, G, hB⟩, _⟩ := h
  refine (S.drop_any s room P F k w hB.sf hk).mono fun r w' ⟨q1, q2⟩ => ?_
  obtain ⟨⟨F', h1⟩, h2⟩ := hB.left q2
  exact ⟨q1, ⟨F', G, h1⟩, h2⟩

theorem rput_step (t : S.Lf) (ht : LfOk t) (hP : ∀ p ∈ P, LfOk p.2) (F G : Nat → Prop) (h : Bo Z K w s b room (S.putL room k t P) (ksP P) (vsP P) F G) (hnd : (P.map Prod.fst).Nodup) (hfit : P.length ≤ room) :
    Calls Tryd.prog 21 #[ptr b, .string k, .string (tol t)] w fun r w' => r = .returned (.tuple #[.string (S.goneL room k P).1, .bool (S.goneL room k P).2]) ∧ (∃ P', Es Z K w' s b room P') ∧ Keeps (fun k => Z ≤ k ∧ ¬ K k) w w' := by
  obtain ⟨u, v, hr⟩ := h.rf
  have hroom := h.sf.bounds
  have hok : ∀ Q : List (ByteArray × S.Lf), (∀ p ∈ Q, p ∈ P) → ∀ p ∈ Q ++ [(k, t)], LfOk p.2 := fun Q hQ p hp => by
    rcases List.mem_append.1 hp with e | e
    · exact hP p (hQ p e)
    · simp at e; rw [e]; exact ht
  rcases split_any P k hnd with ⟨y, j, Q, hH⟩ | ⟨⟨hl, hd⟩, hm⟩
  · have hg : S.goneL room k P = (⟨#[]⟩, false) := by unfold S.goneL; rw [hH.look]; rfl
    have hp : S.putL room k t P = Q ++ [(k, t)] := by unfold S.putL; rw [hH.look, hH.del]; rfl
    rw [hg]
    refine (rput_in b room (ksP P) (vsP P) u v G k (tol t) j w hr hH.ks hH.first).mono fun r w' ⟨q1, q2⟩ => ?_
    obtain ⟨⟨G', hB⟩, hK⟩ := h.right q2
    exact ⟨q1, ⟨Q ++ [(k, t)], hB.toEs _ hp (by rw [hH.ek]; simp [ksP]) (by rw [hH.ev]; simp [vsP]) (hok Q hH.sub)⟩, hK⟩
  · have hlen : (ksP P).length = P.length ∧ (vsP P).length = P.length := by simp [ksP, vsP]
    by_cases hf : P.length < room
    · have hg : S.goneL room k P = (⟨#[]⟩, false) := by unfold S.goneL; rw [hl, if_pos hf]; rfl
      have hp : S.putL room k t P = P ++ [(k, t)] := by unfold S.putL; rw [hl, if_pos hf]; rfl
      rw [hg]
      refine (rput_new b room (ksP P) (vsP P) u v G k (tol t) w hr hm (by omega)).mono fun r w' ⟨q1, q2⟩ => ?_
      obtain ⟨⟨G', hB⟩, hK⟩ := h.right q2
      exact ⟨q1, ⟨P ++ [(k, t)], hB.toEs _ hp (by simp [ksP]) (by simp [vsP]) (hok P fun _ h => h)⟩, hK⟩
    · cases P with
      | nil => simp at hf; omega
      | cons p R =>
        have hg : S.goneL room k (p :: R) = (p.1, true) := by unfold S.goneL; rw [hl, if_neg hf]; rfl
        have hp : S.putL room k t (p :: R) = R ++ [(k, t)] := by unfold S.putL; rw [hl, if_neg hf]; rfl
        rw [hg]
        refine (rput_full b room (ksP (p :: R)) (vsP (p :: R)) u v G k (tol t) p.1 w hr hm (by omega) rfl).mono fun r w' ⟨q1, q2⟩ => ?_
        obtain ⟨⟨G', hB⟩, hK⟩ := h.right q2
        exact ⟨q1, ⟨R ++ [(k, t)], hB.toEs _ hp (by simp [ksP]) (by simp [vsP]) (hok R fun q h => by simp [h])⟩, hK⟩

/-- What the document tells of a key. -/
def tel (o : Option S.Lf) : ByteArray := match o with | some l => tol l | none => ⟨#[]⟩
theorem rget_step (hP : ∀ p ∈ P, LfOk p.2) (F G : Nat → Prop) (h : Bo Z K w s b room (S.touch k P) (ksP P) (vsP P) F G) (hnd : (P.map Prod.fst).Nodup) :
    Calls Tryd.prog 23 #[ptr b, .string k] w fun r w' => r = .returned (.tuple #[.string (tel (S.look k P)), .bool (S.look k P).isSome]) ∧ (∃ P', Es Z K w' s b room P') ∧ Keeps (fun k => Z ≤ k ∧ ¬ K k) w w' := by
  obtain ⟨u, v, hr⟩ := h.rf
  rcases split_any P k hnd with ⟨y, j, Q, hH⟩ | ⟨⟨hl, hd⟩, hm⟩
  · have hp : S.touch k P = Q ++ [(k, y)] := by unfold S.touch; rw [hH.look]; dsimp only; rw [hH.del]
    rw [hH.look]
    refine (rget_in b room (ksP P) (vsP P) u v G k (tol y) j w hr hH.ks hH.first hH.vs).mono fun r w' ⟨q1, q2⟩ => ?_
    obtain ⟨⟨G', hB⟩, hK⟩ := h.right q2
    exact ⟨q1, ⟨Q ++ [(k, y)], hB.toEs _ hp (by rw [hH.ek]; simp [ksP]) (by rw [hH.ev]; simp [vsP]) fun p hp => by
      rcases List.mem_append.1 hp with e | e
      · exact hP p (hH.sub p e)
      · simp at e; rw [e]; exact hP _ hH.mem⟩, hK⟩
  · have hp : S.touch k P = P := by unfold S.touch; rw [hl]
    rw [hl]
    refine (rget_out b room (ksP P) (vsP P) u v G k w hr hm).mono fun r w' ⟨q1, q2⟩ => ?_
    subst q2
    exact ⟨q1, ⟨P, h.toEs _ hp rfl rfl hP⟩, Keeps.refl _ _⟩

theorem peek_stepP (h : Es Z K w s b room P) (hk : S.I64 k) :
    Calls Tryd.prog 24 #[ptr s, .string k] w fun r w' => r = .returned (.tuple #[((S.look k P).getD S.Lf.none).v, .bool (S.look k P).isSome]) ∧ Keeps (fun _ => False) w w' := by
  obtain ⟨⟨F, G, hB⟩, _⟩ := h
  exact S.peek_any s room P F k w hB.sf hk
theorem rpeek_step (h : Es Z K w s b room P) :
    Calls Tryd.prog 25 #[ptr b, .string k] w fun r w' => r = .returned (.tuple #[.string (tel (S.look k P)), .bool (S.look k P).isSome]) ∧ Keeps (fun _ => False) w w' := by
  obtain ⟨⟨F, G, h⟩, _⟩ := h
  obtain ⟨u, v, hr⟩ := h.rf
  rcases split_any P k h.sf.keys with ⟨y, j, Q, hH⟩ | ⟨⟨hl, hd⟩, hm⟩
  · rw [hH.look]
    exact rpeek_in b room (ksP P) (vsP P) u v G k (tol y) j w hr hH.ks hH.first hH.vs
  · rw [hl]
    refine (rpeek_out b room (ksP P) (vsP P) u v G k w hr hm).mono fun r w' ⟨q1, q2⟩ => ?_
    subst q2
    exact ⟨q1, Keeps.refl _ _⟩

theorem rdrop_step (hP : ∀ p ∈ P, LfOk p.2) (F G : Nat → Prop) (h : Bo Z K w s b room (S.del k P) (ksP P) (vsP P) F G) (hnd : (P.map Prod.fst).Nodup) :
    Calls Tryd.prog 27 #[ptr b, .string k] w fun r w' => r = .returned (.bool (S.look k P).isSome) ∧ (∃ P', Es Z K w' s b room P') ∧ Keeps (fun k => Z ≤ k ∧ ¬ K k) w w' := by
  obtain ⟨u, v, hr⟩ := h.rf
  rcases split_any P k hnd with ⟨y, j, Q, hH⟩ | ⟨⟨hl, hd⟩, hm⟩
  · rw [hH.look]
    refine (rdrop_in b room (ksP P) (vsP P) u v G k j w hr hH.ks hH.first).mono fun r w' ⟨q1, q2⟩ => ?_
    obtain ⟨⟨G', hB⟩, hK⟩ := h.right q2
    exact ⟨q1, ⟨Q, hB.toEs _ hH.del hH.ek hH.ev fun p hp => hP p (hH.sub p hp)⟩, hK⟩
  · rw [hl]
    refine (rdrop_out b room (ksP P) (vsP P) u v G k w hr hm).mono fun r w' ⟨q1, q2⟩ => ?_
    subst q2
    exact ⟨q1, ⟨P, h.toEs _ hd rfl rfl hP⟩, Keeps.refl _ _⟩

theorem clear_stepP (h : Es Z K w s b room P) :
    Calls Tryd.prog 13 #[ptr s] w fun r w' => r = .returned (.tuple #[]) ∧ (∃ F' G', Bo Z K w' s b room [] (ksP P) (vsP P) F' G') ∧ Keeps (fun k => Z ≤ k ∧ ¬ K k) w w' := by
  obtain ⟨⟨F, G, hB⟩, _⟩ := h
  refine (S.clear_all s room P F w hB.sf).mono fun r w' ⟨q1, q2⟩ => ?_
  obtain ⟨⟨F', h1⟩, h2⟩ := hB.left q2
  exact ⟨q1, ⟨F', G, h1⟩, h2⟩
theorem rclear_step (F G : Nat → Prop) (h : Bo Z K w s b room [] (ksP P) (vsP P) F G) :
    Calls Tryd.prog 28 #[ptr b] w fun r w' => r = .returned (.tuple #[]) ∧ (∃ P', Es Z K w' s b room P') ∧ Keeps (fun k => Z ≤ k ∧ ¬ K k) w w' := by
  obtain ⟨u, v, hr⟩ := h.rf
  refine (rclear_any b room (ksP P) (vsP P) u v G w hr).mono fun r w' ⟨q1, q2⟩ => ?_
  obtain ⟨⟨G', hB⟩, hK⟩ := h.right q2
  exact ⟨q1, ⟨[], hB.toEs [] rfl rfl rfl fun p hp => by cases hp⟩, hK⟩
end

section
variable {Z : Nat} {K K' : Nat → Prop} {w w' : World} {s b room : Nat} {P : List (ByteArray × S.Lf)}
/-- Without the blocks that are neither's. -/
theorem Es.less (h : Es Z K w s b room P) (hk : ∀ k, K' k → K k) : Es Z K' w s b room P := by
  obtain ⟨⟨F, G, h⟩, hP⟩ := h
  exact ⟨⟨F, G, { h with nk := fun k e => h.nk k (hk k e) }⟩, hP⟩
theorem Es.kept (h : Es Z K w s b room P) (hK : Keeps (fun _ => False) w w') : Es Z K w' s b room P := by
  obtain ⟨⟨F, G, h⟩, hP⟩ := h
  exact ⟨⟨F, G, h.kept hK⟩, hP⟩
theorem Es.third {S : Nat → Prop} (h : Es Z K w s b room P) (hK : Keeps S w w') (hS : ∀ k, S k → K k ∧ Z ≤ k) : Es Z (fun k => K k ∨ (w.heap.size ≤ k ∧ k < w'.heap.size)) w' s b room P := by
  obtain ⟨⟨F, G, h⟩, hP⟩ := h
  exact ⟨⟨F, G, h.third hK hS⟩, hP⟩
theorem Es.tb (h : Es Z K w s b room P) : Tb w := by obtain ⟨⟨F, G, h⟩, hP⟩ := h; exact h.tb
theorem Es.nodup (h : Es Z K w s b room P) : (P.map Prod.fst).Nodup ∧ P.length ≤ room := by obtain ⟨⟨F, G, h⟩, hP⟩ := h; exact ⟨h.sf.keys, h.sf.fits⟩
end
end Go.Proofs.YtomjodoimjiceaaDoor
