import Derived.Test.YtomjodoimjiceaaDoorGc
namespace Go.Proofs.YtomjodoimjiceaaDoor
open Go.RowKit Go.Shelf
set_option linter.unusedVariables false
set_option linter.unusedSimpArgs false
set_option maxRecDepth 6000

/-- The shelf whose keys are pairs: its blocks. -/
def Qs (w : World) (t room : Nat) (H : Nat → Prop) (kq : List (Q.Pr × Value)) : Prop := Q.Sf w t room kq H ∧ ∀ p ∈ kq, Q.I64 p.1
theorem Qs.kept {S : Nat → Prop} {w w' : World} {t room : Nat} {H : Nat → Prop} {kq : List (Q.Pr × Value)} (h : Qs w t room H kq) (hK : Keeps S w w') (hn : ∀ k, H k → ¬ S k) : Qs w' t room H kq := ⟨h.1.kept hK hn, h.2⟩
/-- What a call leaves of it. -/
def Qn (w w' : World) (t room : Nat) (H : Nat → Prop) : Prop := ∃ kq' H', Qs w' t room H' kq' ∧ (∀ k, H' k → H k ∨ w.heap.size ≤ k) ∧ Keeps H w w'

section
variable {room : Nat} {k : Q.Pr} {v : Value} {kq : List (Q.Pr × Value)}
theorem put_end (room : Nat) (k : Q.Pr) (v : Value) (kq : List (Q.Pr × Value)) : ∃ A, Q.putL room k v kq = A ++ [(k, v)] ∧ ∀ p ∈ A, p ∈ kq := by
  unfold Q.putL
  split
  · exact ⟨_, rfl, fun p hp => by unfold Q.del at hp; exact (List.mem_filter.1 hp).1⟩
  split
  · exact ⟨_, rfl, fun p hp => hp⟩
  · exact ⟨_, rfl, fun p hp => List.mem_of_mem_tail hp⟩
theorem put_look (h : ((Q.putL room k v kq).map Prod.fst).Nodup) : Q.look k (Q.putL room k v kq) = some v := by
  obtain ⟨A, e, _⟩ := put_end room k v kq
  rw [e] at h ⊢
  exact Q.look_split k h
theorem put_ok (hk : Q.I64 k) (h : ∀ p ∈ kq, Q.I64 p.1) : ∀ p ∈ Q.putL room k v kq, Q.I64 p.1 := by
  obtain ⟨A, e, hA⟩ := put_end room k v kq
  rw [e]
  intro p hp
  rcases List.mem_append.1 hp with h' | h'
  · exact h p (hA p h')
  · simp at h'; rw [h']; exact hk
theorem touch_ok (hk : Q.I64 k) (h : ∀ p ∈ kq, Q.I64 p.1) : ∀ p ∈ Q.touch k kq, Q.I64 p.1 := by
  unfold Q.touch
  split
  · intro p hp
    rcases List.mem_append.1 hp with h' | h'
    · unfold Q.del at h'; exact h p (List.mem_filter.1 h').1
    · simp at h'; rw [h']; exact hk
  · exact h
theorem del_ok (h : ∀ p ∈ kq, Q.I64 p.1) : ∀ p ∈ Q.del k kq, Q.I64 p.1 := fun p hp => by unfold Q.del at hp; exact h p (List.mem_filter.1 hp).1
theorem del_look : Q.look k (Q.del k kq) = none := Q.look_none k fun p hp => by
  unfold Q.del at hp
  simpa using (List.mem_filter.1 hp).2
end

theorem Qn.of {w w' : World} {t room : Nat} {H : Nat → Prop} {kq : List (Q.Pr × Value)} (h : Q.Now w w' t room kq H) (hok : ∀ p ∈ kq, Q.I64 p.1) : Qn w w' t room H := by
  obtain ⟨⟨H', hS, hH⟩, hK⟩ := h
  exact ⟨kq, H', ⟨hS, hok⟩, hH, hK⟩

theorem pa_head (t room : Nat) (H : Nat → Prop) (kq : List (Q.Pr × Value)) (kind key : Int) (s : ByteArray) (p : Q.Pr) (w : World) (h : Qs w t room H kq) :
    ∃ A B W, Hid ((w.alloc (.cells #[.int .i64 kind, .int .i64 key, .string s] 37)).alloc (.cells #[.int .i64 p.a, .int .i64 p.b] 28) = W) ∧ Hid (w.heap.size + 1 = B ∧ w.heap.size = A) ∧ Hid (Qs W t room H kq) ∧
      Hid (∀ W', Keeps (fun k => H k ∨ W.heap.size ≤ k) W W' → W'.cell? ⟨A, 0, none⟩ = some (.int .i64 kind) ∧ W'.cell? ⟨A, 2, none⟩ = some (.string s) ∧ W'.cell? ⟨B, 0, none⟩ = some (.int .i64 p.a) ∧ W'.cell? ⟨B, 1, none⟩ = some (.int .i64 p.b)) ∧
      Hid (∀ W' kq' H', Qs W' t room H' kq' → (∀ k, H' k → H k ∨ W.heap.size ≤ k) → Keeps (fun k => H k ∨ W.heap.size ≤ k) W W' → Qn w W' t room H) := by
  obtain ⟨W, eW⟩ : ∃ W, W = (w.alloc (.cells #[.int .i64 kind, .int .i64 key, .string s] 37)).alloc (.cells #[.int .i64 p.a, .int .i64 p.b] 28) := ⟨_, rfl⟩
  have hK0 : Keeps (fun _ => False) w W := by rw [eW]; exact ((Keeps.refl _ w).alloc _).alloc _
  have hA : Blk W w.heap.size [.int .i64 kind, .int .i64 key, .string s] 37 := by rw [eW]; exact (Blk.new w _ 37).alloc _
  have hB : Blk W (w.heap.size + 1) [.int .i64 p.a, .int .i64 p.b] 28 := by
    rw [eW]
    have := Blk.new (w.alloc (.cells #[.int .i64 kind, .int .i64 key, .string s] 37)) #[.int .i64 p.a, .int .i64 p.b] 28
    simpa using this
  have hz : W.heap.size = w.heap.size + 1 + 1 := by rw [eW]; simp
  have hlt := h.1.lt
  refine ⟨w.heap.size, w.heap.size + 1, W, eW.symm, ⟨rfl, rfl⟩, h.kept hK0 (fun _ _ e => e), fun W' hK => ?_, fun W' kq' H' h1 h2 h3 => ⟨kq', H', h1, fun k e => ?_, ?_⟩⟩
  · have no : ∀ k, w.heap.size ≤ k → k < W.heap.size → ¬ (H k ∨ W.heap.size ≤ k) := fun k h1 h2 e => by
      rcases e with e | e
      · have := hlt k e; omega
      · omega
    have h1 := hA.kept hK (no _ (by omega) (by omega))
    have h2 := hB.kept hK (no _ (by omega) (by omega))
    exact ⟨h1.cell rfl, h1.cell rfl, h2.cell rfl, h2.cell rfl⟩
  · rcases h2 k e with e | e
    · exact .inl e
    · exact .inr (by omega)
  · refine (hK0.mono fun _ _ e => e.elim).trans h3 fun k hk e => ?_
    rcases e with e | e
    · exact e
    · omega

/-- One step more on the shelf. -/
theorem Q_next {W w1 w2 : World} {t room : Nat} {H H1 : Nat → Prop} {kq2 : List (Q.Pr × Value)} (h1 : ∀ k, H1 k → H k ∨ W.heap.size ≤ k) (hK1 : Keeps (fun k => H k ∨ W.heap.size ≤ k) W w1) (hN : Q.Now w1 w2 t room kq2 H1) (hok : ∀ p ∈ kq2, Q.I64 p.1) :
    ∃ H2, Qs w2 t room H2 kq2 ∧ (∀ k, H2 k → H k ∨ W.heap.size ≤ k) ∧ Keeps (fun k => H k ∨ W.heap.size ≤ k) W w2 := by
  obtain ⟨⟨H2, hS, hH⟩, hK⟩ := hN
  refine ⟨H2, ⟨hS, hok⟩, fun k e => ?_, hK1.trans hK fun k _ e => h1 k e⟩
  rcases hH k e with e | e
  · exact h1 k e
  · exact .inr (Nat.le_trans hK1.size e)

set_option maxHeartbeats 4000000 in
theorem pairs_0 (t room : Nat) (H : Nat → Prop) (kq : List (Q.Pr × Value)) (key : Int) (s : ByteArray) (p : Q.Pr) (w : World) (h : Qs w t room H kq) (hp : Q.I64 p) :
    Calls Tryd.prog 9 #[ptr t, .agg #[.int .i64 0, .int .i64 key, .string s], p.v] w fun r w' => r = .returned (.bool true) ∧ Qn w w' t room H := by
  obtain ⟨A, B, W, HX, HAB, HE, HC, HF⟩ := pa_head t room H kq 0 key s p w h
  have HI : Hid (Q.I64 p) := hp
  clear h hp
  obtain ⟨y0, y2, x0, x1⟩ := HC.out W (Keeps.refl _ _)
  go_enter Tryd.func9, Tryd.ntmps9
  go_upto_region 1 with fail
  rw [HX.out, HAB.out.1, HAB.out.2]
  clear HX HAB
  have H1 : Hid (Calls _ _ _ _ _) := Q.put_any t room kq H p s W HE.out.1 HI.out HE.out.2
  obtain ⟨g1, hg1⟩ : ∃ g : Value, g = (Q.goneL room p kq).1.v := ⟨_, rfl⟩
  obtain ⟨g2, hg2⟩ : ∃ g, g = (Q.goneL room p kq).2 := ⟨_, rfl⟩
  rw [← hg1, ← hg2] at H1
  clear hg1 hg2
  go_wp2_with fail
  refine H1.out.mono ?_
  rintro e w1 ⟨rfl, hN⟩
  obtain ⟨H2, hS2, hH2, hK2⟩ := Q_next (W := W) (H := H) (fun k e => .inl e) (Keeps.refl _ _) hN (put_ok HI.out HE.out.2)
  have H3 := Q.get_any t room _ H2 p w1 hS2.1 HI.out
  rw [put_look hS2.1.keys] at H3
  simp only [Option.getD_some, Option.isSome_some] at H3
  have H3 : Hid (Calls _ _ _ _ _) := H3
  have HS2 : Hid ((∀ q ∈ Q.touch p (Q.putL room p (.string s) kq), Q.I64 q.1) ∧ (∀ k, H2 k → H k ∨ W.heap.size ≤ k) ∧ Keeps (fun k => H k ∨ W.heap.size ≤ k) W w1) := ⟨touch_ok HI.out hS2.2, hH2, hK2⟩
  clear H1 hN hS2 hH2 hK2 y0 y2 x0 x1
  obtain ⟨y0, y2, x0, x1⟩ := HC.out w1 HS2.out.2.2
  go_wp2_with fail
  refine H3.out.mono ?_
  rintro e w2 ⟨rfl, hN⟩
  obtain ⟨H4, hS4, hH4, hK4⟩ := Q_next (W := W) (H := H) HS2.out.2.1 HS2.out.2.2 hN HS2.out.1
  have HN : Hid (Qn w w2 t room H) := HF.out w2 _ H4 hS4 hH4 hK4
  clear y0 y2 x0 x1
  obtain ⟨y0, y2, x0, x1⟩ := HC.out w2 hK4
  clear H3 hN hS4 hH4 hK4 HS2
  go_wp2
  go_ret
  exact ⟨rfl, HN.out⟩

set_option maxHeartbeats 4000000 in
theorem pairs_1 (t room : Nat) (H : Nat → Prop) (kq : List (Q.Pr × Value)) (key : Int) (s : ByteArray) (p : Q.Pr) (w : World) (h : Qs w t room H kq) (hp : Q.I64 p) :
    Calls Tryd.prog 9 #[ptr t, .agg #[.int .i64 1, .int .i64 key, .string s], p.v] w fun r w' => r = .returned (.bool true) ∧ Qn w w' t room H := by
  obtain ⟨A, B, W, HX, HAB, HE, HC, HF⟩ := pa_head t room H kq 1 key s p w h
  have HI : Hid (Q.I64 p) := hp
  clear h hp
  obtain ⟨y0, y2, x0, x1⟩ := HC.out W (Keeps.refl _ _)
  go_enter Tryd.func9, Tryd.ntmps9
  go_upto_region 1 with fail
  rw [HX.out, HAB.out.1, HAB.out.2]
  clear HX HAB
  have H1 : Hid (Calls _ _ _ _ _) := Q.put_any t room kq H p s W HE.out.1 HI.out HE.out.2
  obtain ⟨g1, hg1⟩ : ∃ g : Value, g = (Q.goneL room p kq).1.v := ⟨_, rfl⟩
  obtain ⟨g2, hg2⟩ : ∃ g, g = (Q.goneL room p kq).2 := ⟨_, rfl⟩
  rw [← hg1, ← hg2] at H1
  clear hg1 hg2
  go_wp2_with fail
  refine H1.out.mono ?_
  rintro e w1 ⟨rfl, hN⟩
  obtain ⟨H2, hS2, hH2, hK2⟩ := Q_next (W := W) (H := H) (fun k e => .inl e) (Keeps.refl _ _) hN (put_ok HI.out HE.out.2)
  have H3 := Q.get_any t room _ H2 p w1 hS2.1 HI.out
  rw [put_look hS2.1.keys] at H3
  simp only [Option.getD_some, Option.isSome_some] at H3
  have H3 : Hid (Calls _ _ _ _ _) := H3
  have HS2 : Hid ((∀ q ∈ Q.touch p (Q.putL room p (.string s) kq), Q.I64 q.1) ∧ (∀ k, H2 k → H k ∨ W.heap.size ≤ k) ∧ Keeps (fun k => H k ∨ W.heap.size ≤ k) W w1) := ⟨touch_ok HI.out hS2.2, hH2, hK2⟩
  clear H1 hN hS2 hH2 hK2 y0 y2 x0 x1
  obtain ⟨y0, y2, x0, x1⟩ := HC.out w1 HS2.out.2.2
  go_wp2_with fail
  refine H3.out.mono ?_
  rintro e w2 ⟨rfl, hN⟩
  obtain ⟨H4, hS4, hH4, hK4⟩ := Q_next (W := W) (H := H) HS2.out.2.1 HS2.out.2.2 hN HS2.out.1
  have HN : Hid (Qn w w2 t room H) := HF.out w2 _ H4 hS4 hH4 hK4
  clear y0 y2 x0 x1
  obtain ⟨y0, y2, x0, x1⟩ := HC.out w2 hK4
  clear H3 hN hS4 hH4 hK4 HS2
  go_wp2
  go_ret
  exact ⟨rfl, HN.out⟩

set_option maxHeartbeats 4000000 in
theorem pairs_other (t room : Nat) (H : Nat → Prop) (kq : List (Q.Pr × Value)) (kind : Int) (key : Int) (s : ByteArray) (p : Q.Pr) (w : World) (h : Qs w t room H kq) (hp : Q.I64 p) (h5 : kind ≠ 0 ∧ kind ≠ 1 ∧ kind ≠ 3) :
    Calls Tryd.prog 9 #[ptr t, .agg #[.int .i64 kind, .int .i64 key, .string s], p.v] w fun r w' => r = .returned (.bool true) ∧ Qn w w' t room H := by
  have h0 : (kind == 0) = false := by simpa using h5.1
  have h1 : (kind == 1) = false := by simpa using h5.2.1
  have h3 : (kind == 3) = false := by simpa using h5.2.2
  clear h5
  obtain ⟨A, B, W, HX, HAB, HE, HC, HF⟩ := pa_head t room H kq kind key s p w h
  have HI : Hid (Q.I64 p) := hp
  clear h hp
  obtain ⟨y0, y2, x0, x1⟩ := HC.out W (Keeps.refl _ _)
  go_enter Tryd.func9, Tryd.ntmps9
  go_upto_region 1 with fail
  rw [HX.out, HAB.out.1, HAB.out.2]
  clear HX HAB
  have HN : Hid (Qn w W t room H) := HF.out W kq H HE.out (fun k e => .inl e) (Keeps.refl _ _)
  go_wp2
  go_ret
  exact ⟨rfl, HN.out⟩

set_option maxHeartbeats 4000000 in
theorem pairs_3 (t room : Nat) (H : Nat → Prop) (kq : List (Q.Pr × Value)) (key : Int) (s : ByteArray) (p : Q.Pr) (w : World) (h : Qs w t room H kq) (hp : Q.I64 p) :
    Calls Tryd.prog 9 #[ptr t, .agg #[.int .i64 3, .int .i64 key, .string s], p.v] w fun r w' => r = .returned (.bool true) ∧ Qn w w' t room H := by
  obtain ⟨A, B, W, HX, HAB, HE, HC, HF⟩ := pa_head t room H kq 3 key s p w h
  have HI : Hid (Q.I64 p) := hp
  clear h hp
  obtain ⟨y0, y2, x0, x1⟩ := HC.out W (Keeps.refl _ _)
  go_enter Tryd.func9, Tryd.ntmps9
  go_upto_region 1 with fail
  rw [HX.out, HAB.out.1, HAB.out.2]
  clear HX HAB
  have H1 := Q.peek_any t room kq H p W HE.out.1 HI.out
  obtain ⟨g, hg⟩ : ∃ g, g = (Q.look p kq).isSome := ⟨_, rfl⟩
  obtain ⟨v, hv⟩ : ∃ v, v = (Q.look p kq).getD (.string ⟨#[]⟩) := ⟨_, rfl⟩
  rw [← hg, ← hv] at H1
  clear hv
  have H1 : Hid (Calls _ _ _ _ _) := H1
  have H2 : Hid (∀ w1, Keeps (fun _ => False) W w1 → Calls Tryd.prog 32 #[ptr t, p.v] w1 fun r w' => r = .returned (.bool g) ∧ Q.Now w1 w' t room (Q.del p kq) H) := fun w1 hK => by rw [hg]; exact Q.drop_any t room kq H p w1 (HE.out.1.kept hK fun _ _ e => e) HI.out
  clear hg
  go_wp2_with fail
  refine H1.out.mono ?_
  rintro e w1 ⟨rfl, hK1⟩
  have H3 : Hid (Calls _ _ _ _ _) := H2.out w1 hK1
  have HK1 : Hid (Keeps (fun k => H k ∨ W.heap.size ≤ k) W w1) := hK1.mono fun _ _ e => e.elim
  clear H1 H2 hK1 y0 y2 x0 x1
  obtain ⟨y0, y2, x0, x1⟩ := HC.out w1 HK1.out
  go_wp2_with fail
  refine H3.out.mono ?_
  rintro e w2 ⟨rfl, hN⟩
  obtain ⟨H4, hS4, hH4, hK4⟩ := Q_next (W := W) (H := H) (fun k e => .inl e) HK1.out hN (del_ok HE.out.2)
  have H5 := Q.peek_any t room _ H4 p w2 hS4.1 HI.out
  rw [del_look] at H5
  simp only [Option.getD_none, Option.isSome_none] at H5
  have H5 : Hid (Calls _ _ _ _ _) := H5
  have HS4 : Hid (Qs w2 t room H4 (Q.del p kq) ∧ (∀ k, H4 k → H k ∨ W.heap.size ≤ k) ∧ Keeps (fun k => H k ∨ W.heap.size ≤ k) W w2) := ⟨hS4, hH4, hK4⟩
  clear y0 y2 x0 x1
  obtain ⟨y0, y2, x0, x1⟩ := HC.out w2 hK4
  clear H3 hN hS4 hH4 hK4 HK1
  go_wp2_with fail
  refine H5.out.mono ?_
  rintro e w3 ⟨rfl, hK3⟩
  have HN : Hid (Qn w w3 t room H) := HF.out w3 _ H4 (HS4.out.1.kept hK3 fun _ _ e => e) HS4.out.2.1 (HS4.out.2.2.trans hK3 fun _ _ e => e.elim)
  clear H5 hK3 HS4 y0 y2 x0 x1
  go_wp2
  go_ret
  exact ⟨rfl, HN.out⟩

theorem pairs_any (t room : Nat) (H : Nat → Prop) (kq : List (Q.Pr × Value)) (kind key : Int) (s : ByteArray) (p : Q.Pr) (w : World) (h : Qs w t room H kq) (hp : Q.I64 p) :
    Calls Tryd.prog 9 #[ptr t, .agg #[.int .i64 kind, .int .i64 key, .string s], p.v] w fun r w' => r = .returned (.bool true) ∧ Qn w w' t room H := by
  by_cases h0 : kind = 0
  · subst h0; exact pairs_0 t room H kq key s p w h hp
  by_cases h1 : kind = 1
  · subst h1; exact pairs_1 t room H kq key s p w h hp
  by_cases h3 : kind = 3
  · subst h3; exact pairs_3 t room H kq key s p w h hp
  exact pairs_other t room H kq kind key s p w h hp ⟨h0, h1, h3⟩
end Go.Proofs.YtomjodoimjiceaaDoor
