import Derived.Test.YtbddahdbadkobaaDoorRg
namespace Go.Proofs.YtbddahdbadkobaaDoor
open Go.RowKit Go.Shelf
set_option linter.unusedVariables false
set_option linter.unusedSimpArgs false
set_option maxRecDepth 6000

theorem Bo.toEs {Z : Nat} {K : Nat → Prop} {w : World} {s b room : Nat} {kv : List (Int × Value)} {ks vs : List ByteArray} {F G : Nat → Prop} (h : Bo Z K w s b room kv ks vs F G) (P : List (Int × ByteArray)) (e1 : kv = kvP P) (e2 : ks = ksP P) (e3 : vs = vsP P) : Es Z K w s b room P := by
  subst e1 e2 e3; exact ⟨F, G, h⟩

theorem rput_step (Z : Nat) (K : Nat → Prop) (w : World) (s b room : Nat) (P : List (Int × ByteArray)) (k : Int) (t : ByteArray) (F G : Nat → Prop) (h : Bo Z K w s b room (putL room k (.string t) (kvP P)) (ksP P) (vsP P) F G) (hnd : ((kvP P).map Prod.fst).Nodup) (hfit : P.length ≤ room) :
    Calls Tryd.prog 19 #[ptr b, .string (tx k), .string t] w fun r w' => r = .returned (.tuple #[.string (if (goneL room k (kvP P)).2 then tx (goneL room k (kvP P)).1 else ⟨#[]⟩), .bool (goneL room k (kvP P)).2]) ∧ (∃ P', Es Z K w' s b room P') ∧ Keeps (fun k => Z ≤ k ∧ ¬ K k) w w' := by
  obtain ⟨u, v, hr⟩ := h.rf
  have hroom := h.sf.bounds
  rcases split_any P k hnd with ⟨y, j, Q, hH⟩ | ⟨⟨hl, hd⟩, hm⟩
  · have hg : goneL room k (kvP P) = (0, false) := by unfold goneL; rw [hH.look]; rfl
    have hp : putL room k (.string t) (kvP P) = kvP (Q ++ [(k, t)]) := by unfold putL; rw [hH.look, hH.del, kvP_append]; rfl
    rw [hg]
    refine (rput_in b room (ksP P) (vsP P) u v G (tx k) t j w hr hH.ks hH.first).mono fun r w' ⟨q1, q2⟩ => ?_
    obtain ⟨⟨G', hB⟩, hK⟩ := h.right q2
    exact ⟨q1, ⟨Q ++ [(k, t)], hB.toEs _ hp (by rw [hH.ek]; simp [ksP]) (by rw [hH.ev]; simp [vsP])⟩, hK⟩
  · have hlen : (kvP P).length = P.length ∧ (ksP P).length = P.length ∧ (vsP P).length = P.length := by simp [kvP, ksP, vsP]
    by_cases hf : P.length < room
    · have hg : goneL room k (kvP P) = (0, false) := by unfold goneL; rw [hl, hlen.1, if_pos hf]; rfl
      have hp : putL room k (.string t) (kvP P) = kvP (P ++ [(k, t)]) := by unfold putL; rw [hl, hlen.1, if_pos hf, kvP_append]; rfl
      rw [hg]
      refine (rput_new b room (ksP P) (vsP P) u v G (tx k) t w hr hm (by omega)).mono fun r w' ⟨q1, q2⟩ => ?_
      obtain ⟨⟨G', hB⟩, hK⟩ := h.right q2
      exact ⟨q1, ⟨P ++ [(k, t)], hB.toEs _ hp (by simp [ksP]) (by simp [vsP])⟩, hK⟩
    · cases P with
      | nil => simp at hf; omega
      | cons p R =>
        have hg : goneL room k (kvP (p :: R)) = (p.1, true) := by unfold goneL; rw [hl, hlen.1, if_neg hf]; rfl
        have hp : putL room k (.string t) (kvP (p :: R)) = kvP (R ++ [(k, t)]) := by unfold putL; rw [hl, hlen.1, if_neg hf, kvP_append]; rfl
        rw [hg]
        refine (rput_full b room (ksP (p :: R)) (vsP (p :: R)) u v G (tx k) t (tx p.1) w hr hm (by omega) rfl).mono fun r w' ⟨q1, q2⟩ => ?_
        obtain ⟨⟨G', hB⟩, hK⟩ := h.right q2
        exact ⟨q1, ⟨R ++ [(k, t)], hB.toEs _ hp (by simp [ksP]) (by simp [vsP])⟩, hK⟩

theorem gone_zero (room : Nat) (k : Int) (kv : List (Int × Value)) (h : (goneL room k kv).2 = false) : (goneL room k kv).1 = 0 := by
  unfold goneL at h ⊢
  by_cases h1 : (look k kv).isSome = true
  · rw [if_pos h1]
  · rw [if_neg h1] at h ⊢
    by_cases h2 : kv.length < room
    · rw [if_pos h2]
    · rw [if_neg h2] at h; simp at h
theorem gone_ok {w : World} {s room : Nat} {kv : List (Int × Value)} {F : Nat → Prop} (h : Sf w s room kv F) (k : Int) : I64 (goneL room k kv).1 := by
  have h0 : I64 0 := ⟨by decide, by decide⟩
  unfold goneL
  by_cases h1 : (look k kv).isSome = true
  · rw [if_pos h1]; exact h0
  · rw [if_neg h1]
    by_cases h2 : kv.length < room
    · rw [if_pos h2]; exact h0
    · rw [if_neg h2]
      cases hk : kv with
      | nil => exact h0
      | cons p r => exact sf_key_ok h p (by rw [hk]; simp)

theorem look_txt (P : List (Int × ByteArray)) (k : Int) : ∃ y : ByteArray, (look k (kvP P)).getD (.string ⟨#[]⟩) = .string y := by
  cases h : look k (kvP P) with
  | none => exact ⟨⟨#[]⟩, rfl⟩
  | some v =>
    unfold look at h
    obtain ⟨p, hp, rfl⟩ := Option.map_eq_some_iff.1 h
    obtain ⟨q, hq, rfl⟩ := List.mem_map.1 (List.mem_of_find?_eq_some hp)
    exact ⟨q.2, rfl⟩

theorem rget_step (Z : Nat) (K : Nat → Prop) (w : World) (s b room : Nat) (P : List (Int × ByteArray)) (k : Int) (F G : Nat → Prop) (h : Bo Z K w s b room (touch k (kvP P)) (ksP P) (vsP P) F G) (hnd : ((kvP P).map Prod.fst).Nodup) :
    Calls Tryd.prog 22 #[ptr b, .string (tx k)] w fun r w' => r = .returned (.tuple #[(look k (kvP P)).getD (.string ⟨#[]⟩), .bool (look k (kvP P)).isSome]) ∧ (∃ P', Es Z K w' s b room P') ∧ Keeps (fun k => Z ≤ k ∧ ¬ K k) w w' := by
  obtain ⟨u, v, hr⟩ := h.rf
  rcases split_any P k hnd with ⟨y, j, Q, hH⟩ | ⟨⟨hl, hd⟩, hm⟩
  · have hp : touch k (kvP P) = kvP (Q ++ [(k, y)]) := by unfold touch; rw [hH.look]; dsimp only; rw [hH.del, kvP_append]; rfl
    rw [hH.look]
    refine (rget_in b room (ksP P) (vsP P) u v G (tx k) y j w hr hH.ks hH.first hH.vs).mono fun r w' ⟨q1, q2⟩ => ?_
    obtain ⟨⟨G', hB⟩, hK⟩ := h.right q2
    exact ⟨q1, ⟨Q ++ [(k, y)], hB.toEs _ hp (by rw [hH.ek]; simp [ksP]) (by rw [hH.ev]; simp [vsP])⟩, hK⟩
  · have hp : touch k (kvP P) = kvP P := by unfold touch; rw [hl]
    rw [hl]
    refine (rget_out b room (ksP P) (vsP P) u v G (tx k) w hr hm).mono fun r w' ⟨q1, q2⟩ => ?_
    subst q2
    exact ⟨q1, ⟨P, h.toEs _ hp rfl rfl⟩, Keeps.refl _ _⟩

theorem rpeek_step (Z : Nat) (K : Nat → Prop) (w : World) (s b room : Nat) (P : List (Int × ByteArray)) (k : Int) (h : Es Z K w s b room P) :
    Calls Tryd.prog 24 #[ptr b, .string (tx k)] w fun r w' => r = .returned (.tuple #[(look k (kvP P)).getD (.string ⟨#[]⟩), .bool (look k (kvP P)).isSome]) ∧ Keeps (fun _ => False) w w' := by
  obtain ⟨F, G, h⟩ := h
  obtain ⟨u, v, hr⟩ := h.rf
  rcases split_any P k h.sf.keys with ⟨y, j, Q, hH⟩ | ⟨⟨hl, hd⟩, hm⟩
  · rw [hH.look]
    exact rpeek_in b room (ksP P) (vsP P) u v G (tx k) y j w hr hH.ks hH.first hH.vs
  · rw [hl]
    refine (rpeek_out b room (ksP P) (vsP P) u v G (tx k) w hr hm).mono fun r w' ⟨q1, q2⟩ => ?_
    subst q2
    exact ⟨q1, Keeps.refl _ _⟩

theorem rdrop_step (Z : Nat) (K : Nat → Prop) (w : World) (s b room : Nat) (P : List (Int × ByteArray)) (k : Int) (F G : Nat → Prop) (h : Bo Z K w s b room (del k (kvP P)) (ksP P) (vsP P) F G) (hnd : ((kvP P).map Prod.fst).Nodup) :
    Calls Tryd.prog 26 #[ptr b, .string (tx k)] w fun r w' => r = .returned (.bool (look k (kvP P)).isSome) ∧ (∃ P', Es Z K w' s b room P') ∧ Keeps (fun k => Z ≤ k ∧ ¬ K k) w w' := by
  obtain ⟨u, v, hr⟩ := h.rf
  rcases split_any P k hnd with ⟨y, j, Q, hH⟩ | ⟨⟨hl, hd⟩, hm⟩
  · rw [hH.look]
    refine (rdrop_in b room (ksP P) (vsP P) u v G (tx k) j w hr hH.ks hH.first).mono fun r w' ⟨q1, q2⟩ => ?_
    obtain ⟨⟨G', hB⟩, hK⟩ := h.right q2
    exact ⟨q1, ⟨Q, hB.toEs _ hH.del hH.ek hH.ev⟩, hK⟩
  · rw [hl]
    refine (rdrop_out b room (ksP P) (vsP P) u v G (tx k) w hr hm).mono fun r w' ⟨q1, q2⟩ => ?_
    subst q2
    exact ⟨q1, ⟨P, h.toEs _ hd rfl rfl⟩, Keeps.refl _ _⟩

/-- Without the blocks that are neither's. -/
theorem Es.less {Z : Nat} {K K' : Nat → Prop} {w : World} {s b room : Nat} {P : List (Int × ByteArray)} (h : Es Z K w s b room P) (hk : ∀ k, K' k → K k) : Es Z K' w s b room P := by
  obtain ⟨F, G, h⟩ := h
  exact ⟨F, G, { h with nk := fun k e => h.nk k (hk k e) }⟩
theorem Es.kept {Z : Nat} {K : Nat → Prop} {w w' : World} {s b room : Nat} {P : List (Int × ByteArray)} (h : Es Z K w s b room P) (hK : Keeps (fun _ => False) w w') : Es Z K w' s b room P := by
  obtain ⟨F, G, h⟩ := h
  exact ⟨F, G, h.kept hK⟩
/-- Two new blocks are neither's. -/
theorem Es.two {Z : Nat} {K0 : Nat → Prop} {w W : World} {s b room : Nat} {P : List (Int × ByteArray)} (h : Es Z K0 w s b room P) (hK : Keeps (fun _ => False) w W) (X Y : Nat) (hX : w.heap.size ≤ X ∧ X < W.heap.size) (hY : w.heap.size ≤ Y ∧ Y < W.heap.size) : Es Z (fun k => K0 k ∨ k = X ∨ k = Y) W s b room P := by
  obtain ⟨F, G, h⟩ := h
  have h' := h.kept hK
  obtain ⟨u, v, hr⟩ := h.rf
  refine ⟨F, G, { h' with nk := fun k e => ?_ }⟩
  rcases e with e | e
  · exact h'.nk k e
  have h1 : w.heap.size ≤ k ∧ k < W.heap.size := by rcases e with e | e <;> (rw [e]; assumption)
  exact ⟨h1.2, fun e => by have := h.sf.lt k e; omega, fun e => by have := hr.lt k e; omega⟩

end Go.Proofs.YtbddahdbadkobaaDoor
