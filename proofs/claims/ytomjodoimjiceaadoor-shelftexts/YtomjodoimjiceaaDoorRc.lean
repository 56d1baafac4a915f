import Derived.Test.YtomjodoimjiceaaDoorRb
import Derived.Deep.RegionHeld3
import Derived.StillTailTactics
namespace Go.Proofs.YtomjodoimjiceaaDoor
open Go.RowKit Go.Shelf
set_option linter.unusedVariables false
set_option linter.unusedSimpArgs false
set_option maxRecDepth 6000

theorem tk {P : Program} {md : Region.Mode} {ops : Array Oper} {Q : Exit → Act → World → Prop} {S : World → Prop} {oi : Oper} {fuel : Nat} {listed : Array Bool} {a : Act} {w : World} (i : Nat) (v : Value) (hS : S w) (h : wpAnyH P md ops Q S fuel (listed.setIfInBounds i true) (a.put oi.dst v) w)
    (hi : ops[i]? = some oi := by (simp only [List.getElem?_toArray, List.getElem?_cons_succ, List.getElem?_cons_zero]; exact rfl))
    (hs : Region.noSelect ops = true := by kernel_rfl) (hf : Region.free md ops listed i = true := by kernel_rfl) (hc : (Region.ready md ops listed).contains i = true := by kernel_rfl)
    (hQ : ∀ c a w, Q (.panic c) (a.put oi.dst v) w → Q (.panic c) a w := by exact fun _ _ _ h => h) (hg : Region.wanted oi (yielded ops a.tmps) = true := by kernel_rfl)
    (hr : ∀ w, S w → (execOp a.eval oi).run P w = .ok (.value v) w := by (intro w hSw; (try dsimp only at hSw); go_simp; try omega)) : wpAnyH P md ops Q S (fuel + 1) listed a w :=
  wpAnyH_take hi hs hf hc hQ (Or.inl ⟨hg, hr⟩) hS h
theorem tn {P : Program} {md : Region.Mode} {ops : Array Oper} {Q : Exit → Act → World → Prop} {S : World → Prop} {oi : Oper} {fuel : Nat} {listed : Array Bool} {a : Act} {w : World} (i : Nat) (hS : S w) (h : wpAnyH P md ops Q S fuel (listed.setIfInBounds i true) (a.put oi.dst undef) w)
    (hi : ops[i]? = some oi := by (simp only [List.getElem?_toArray, List.getElem?_cons_succ, List.getElem?_cons_zero]; exact rfl))
    (hs : Region.noSelect ops = true := by kernel_rfl) (hf : Region.free md ops listed i = true := by kernel_rfl) (hc : (Region.ready md ops listed).contains i = true := by kernel_rfl)
    (hQ : ∀ c a w, Q (.panic c) (a.put oi.dst undef) w → Q (.panic c) a w := by exact fun _ _ _ h => h) (hg : Region.wanted oi (yielded ops a.tmps) = false := by kernel_rfl) : wpAnyH P md ops Q S (fuel + 1) listed a w :=
  wpAnyH_take hi hs hf hc hQ (Or.inr ⟨hg, rfl⟩) hS h

theorem NowR.trans {w w1 w2 : World} {b N : Nat} {ks vs ks' vs' : List ByteArray} {u v : Value} {F F1 : Nat → Prop} (hF : ∀ k, F1 k → F k ∨ w.heap.size ≤ k) (hK : Keeps F w w1) (h2 : NowR w1 w2 b N ks' vs' F1) : NowR w w2 b N ks' vs' F := by
  obtain ⟨⟨u', v', F', h3, h4⟩, h5⟩ := h2
  refine ⟨⟨u', v', F', h3, fun k hk => ?_⟩, hK.trans h5 fun k hk e => ?_⟩
  · rcases h4 k hk with e | e
    · exact hF k e
    · exact .inr (Nat.le_trans hK.size e)
  · rcases hF k e with e | e
    · exact e
    · omega

theorem push_rf {w : World} {b N : Nat} {ks vs : List ByteArray} {u v : Value} {F : Nat → Prop} (h : Rf w b N ks vs u v F) (hf : ks.length < N) (k y : ByteArray) :
    ∃ a1 n1 c1 W1 a2 n2 c2 W2, (∀ ty, (Builtin.append_ #[58, 58] ty #[u, .slice (some ⟨w.heap.size, 0, none⟩) 1 1]).run Tryd.prog (w.alloc (.cells #[.string k] 9)) = .ok (.slice a1 n1 c1) W1) ∧
      (W1.frozen? ⟨b, 1, none⟩ = false ∧ W1.cell? ⟨b, 1, none⟩ = some u ∧ (W1.setCell ⟨b, 1, none⟩ (.slice a1 n1 c1)).cell? ⟨b, 2, none⟩ = some v) ∧
      (∀ ty, (Builtin.append_ #[58, 58] ty #[v, .slice (some ⟨(W1.setCell ⟨b, 1, none⟩ (.slice a1 n1 c1)).heap.size, 0, none⟩) 1 1]).run Tryd.prog ((W1.setCell ⟨b, 1, none⟩ (.slice a1 n1 c1)).alloc (.cells #[.string y] 9)) = .ok (.slice a2 n2 c2) W2) ∧
      (W2.frozen? ⟨b, 2, none⟩ = false ∧ W2.cell? ⟨b, 2, none⟩ = some v) ∧ NowR w (W2.setCell ⟨b, 2, none⟩ (.slice a2 n2 c2)) b N (ks ++ [k]) (vs ++ [y]) F := by
  have hl := h.hi
  have hlen := h.len
  obtain ⟨v1, W1, ap1, ho1, gr1⟩ := append_str k u _ _ h.kr (by omega)
  obtain ⟨a1, c1, rfl, _⟩ := owns_slice ho1
  have nb1 : ¬ some b = u.ownBlock := fun e => (h.fu b e.symm).2 rfl
  have hB1 := h.blk.kept gr1.keeps nb1
  obtain ⟨X1, eX1⟩ : ∃ X1, X1 = W1.setCell ⟨b, 1, none⟩ (.slice a1 (ks.length + 1) c1) := ⟨_, rfl⟩
  have hKX : Keeps (· = b) W1 X1 := by rw [eX1]; exact (Keeps.refl (· = b) W1).setCell _ _ fun _ => rfl
  have hBX : Blk X1 b [.int .i64 N, .slice a1 (ks.length + 1) c1, v] 60 := by rw [eX1]; exact hB1.setCell 1 _
  have hv1 : W1.ownsRow 0 9 1 v vs.length (sv vs) := owns_kept h.vr gr1.keeps fun q e e' => (h.fv q e).2.2 e'.symm
  have hvX : X1.ownsRow 0 9 1 v vs.length (sv vs) := owns_kept hv1 hKX fun q e e' => (h.fv q e).2.1 e'
  have hb1 : ∀ q, (Value.slice a1 (ks.length + 1) c1).ownBlock = some q → (u.ownBlock = some q ∨ w.heap.size ≤ q) := fun q e => by
    rcases gr1.fresh with f | ⟨p, f, hp⟩
    · exact .inl (f ▸ e)
    · rw [f] at e; cases e; exact .inr hp
  have hblt := h.blk.lt
  have hb1b : ∀ q, (Value.slice a1 (ks.length + 1) c1).ownBlock = some q → q ≠ b := fun q e e' => by
    rcases hb1 q e with f | f
    · exact (h.fu q f).2 e'
    · omega
  have ho1X : X1.ownsRow 0 9 1 (.slice a1 (ks.length + 1) c1) (ks.length + 1) (sv ks ++ [.string k]) := owns_kept ho1 hKX fun q e e' => hb1b q e e'
  obtain ⟨v2, W2, ap2, ho2, gr2⟩ := append_str y v _ _ hvX (by omega)
  obtain ⟨a2, c2, rfl, _⟩ := owns_slice ho2
  have nb2 : ¬ some b = v.ownBlock := fun e => (h.fv b e.symm).2.1 rfl
  have hB2 := hBX.kept gr2.keeps nb2
  have hb2 : ∀ q, (Value.slice a2 (vs.length + 1) c2).ownBlock = some q → (v.ownBlock = some q ∨ X1.heap.size ≤ q) := fun q e => by
    rcases gr2.fresh with f | ⟨p, f, hp⟩
    · exact .inl (f ▸ e)
    · rw [f] at e; cases e; exact .inr hp
  have hX1 : W1.heap.size ≤ X1.heap.size := hKX.size
  have hW1 : w.heap.size ≤ W1.heap.size := gr1.keeps.size
  obtain ⟨X2, eX2⟩ : ∃ X2, X2 = W2.setCell ⟨b, 2, none⟩ (.slice a2 (vs.length + 1) c2) := ⟨_, rfl⟩
  have hKX2 : Keeps (· = b) W2 X2 := by rw [eX2]; exact (Keeps.refl (· = b) W2).setCell _ _ fun _ => rfl
  have hb2b : ∀ q, (Value.slice a2 (vs.length + 1) c2).ownBlock = some q → q ≠ b := fun q e e' => by
    rcases hb2 q e with f | f
    · exact (h.fv q f).2.1 e'
    · omega
  have h12 : ∀ q, (Value.slice a1 (ks.length + 1) c1).ownBlock = some q → v.ownBlock ≠ some q := fun q e e' => by
    rcases hb1 q e with f | f
    · exact (h.fv q e').2.2 f
    · have := olt h.vr e'
      omega
  have hkeep : Keeps F w X2 := by
    refine ((((gr1.keeps.mono fun q _ e => (h.fu q e.symm).1).trans hKX fun q _ e => ?_).trans gr2.keeps fun q _ e => ?_).trans hKX2 fun q _ e => ?_)
    · rw [e]; exact h.fb
    · exact (h.fv q e.symm).1
    · rw [e]; exact h.fb
  refine ⟨a1, ks.length + 1, c1, W1, a2, vs.length + 1, c2, W2, ap1, ⟨hB1.frozen 1, hB1.cell rfl, ?_⟩, ?_, ⟨hB2.frozen 2, hB2.cell rfl⟩, ?_⟩
  · rw [← eX1]; exact hBX.cell rfl
  · rw [← eX1]; exact ap2
  rw [← eX2]
  refine ⟨⟨.slice a1 (ks.length + 1) c1, .slice a2 (vs.length + 1) c2, fun q => (F q ∨ w.heap.size ≤ q) ∧ q < X2.heap.size, ⟨?_, ?_, ?_, by simp [hlen], by simp; omega, hl, ?_, ?_, ⟨.inl h.fb, by have := hkeep.size; omega⟩, fun q e => e.2⟩, fun q e => e.1⟩, hkeep⟩
  · rw [eX2]; exact hB2.setCell 2 _
  · rw [List.length_append, sv_append]
    exact owns_kept (owns_kept ho1X gr2.keeps fun q e e' => h12 q e e'.symm) hKX2 fun q e e' => hb1b q e e'
  · rw [List.length_append, sv_append]
    exact owns_kept ho2 hKX2 fun q e e' => hb2b q e e'
  · intro q e
    have hq : q < X2.heap.size := Nat.lt_of_lt_of_le (olt ho1X e) (Nat.le_trans gr2.keeps.size hKX2.size)
    rcases hb1 q e with f | f
    · exact ⟨⟨.inl (h.fu q f).1, hq⟩, hb1b q e⟩
    · exact ⟨⟨.inr f, hq⟩, hb1b q e⟩
  · intro q e
    have hq : q < X2.heap.size := Nat.lt_of_lt_of_le (olt ho2 e) hKX2.size
    refine ⟨⟨?_, hq⟩, hb2b q e, fun e' => ?_⟩
    · rcases hb2 q e with f | f
      · exact .inl (h.fv q f).1
      · exact .inr (by omega)
    · rcases hb2 q e with f | f
      · exact h12 q e' f
      · have := olt ho1X e'
        omega

theorem rpeek_out (b N : Nat) (ks vs : List ByteArray) (u v : Value) (F : Nat → Prop) (k : ByteArray) (w : World) (h : Rf w b N ks vs u v F) (hk : ∀ x ∈ ks, x ≠ k) :
    Calls Tryd.prog 25 #[ptr b, .string k] w fun r w' => r = .returned (.tuple #[.string ⟨#[]⟩, .bool false]) ∧ w' = w := by
  have H1 : Hid (Calls _ _ _ _ _) := place_any b N ks vs u v F k w h
  have HP : Hid (Plc k ks (-1)) := .inl ⟨rfl, hk⟩
  clear h hk
  go_enter Tryd.func25, Tryd.ntmps25
  go_wp2_with fail
  refine H1.out.mono ?_
  rintro e w' ⟨p, rfl, hP, hw⟩
  obtain rfl := hw.symm
  obtain rfl := hP.uniq HP.out
  clear hw hP H1
  go_wp2
  go_ret2
  exact ⟨rfl, rfl⟩

theorem rpeek_in (b N : Nat) (ks vs : List ByteArray) (u v : Value) (F : Nat → Prop) (k y : ByteArray) (j : Nat) (w : World) (h : Rf w b N ks vs u v F) (hj : ks[j]? = some k) (hf : ∀ i, i < j → ks[i]? ≠ some k) (hy : vs[j]? = some y) :
    Calls Tryd.prog 25 #[ptr b, .string k] w fun r w' => r = .returned (.tuple #[.string y, .bool true]) ∧ Keeps (fun _ => False) w w' := by
  have H1 : Hid (Calls _ _ _ _ _) := place_any b N ks vs u v F k w h
  have h2 := h.kept ((Keeps.refl (fun _ => False) w).drew) fun _ _ h => h
  have H2 : Hid (Calls _ _ _ _ _) := place_any b N ks vs u v F k w.drew h2
  have HP : Hid (Plc k ks j) := .inr ⟨j, rfl, hj, hf⟩
  have hjl : j < vs.length := (List.getElem?_eq_some_iff.1 hy).1
  have hjb : (j : Int) ≤ 4096 := by have h1 := h.fits; have h2 := h.hi; have h3 := h.len; omega
  obtain ⟨a, cap, rfl, hc⟩ := owns_slice h2.vr
  obtain ⟨g, rfl, hg⟩ := hc j _ (sv_get hy)
  obtain ⟨L, eL⟩ : ∃ L, L = vs.length := ⟨_, rfl⟩
  have hcb := h2.blk.cell (i := 2) rfl
  rw [← eL] at hcb hjl
  have hji : (j : Int) < L := by omega
  have HS : Hid (w.drew.cell? ⟨b, 2, none⟩ = some (.slice (some ⟨g, 0, none⟩) L cap) ∧ w.drew.cell? ⟨g, j, none⟩ = some (.string y)) := ⟨hcb, hg⟩
  clear h hj hf hy h2 hc hg hcb eL hjl
  go_enter Tryd.func25, Tryd.ntmps25
  go_wp2_with fail
  refine H1.out.mono ?_
  rintro e w' ⟨p, rfl, hP, hw⟩
  obtain rfl := hw.symm
  obtain rfl := hP.uniq HP.out
  clear hw hP H1
  go_wp2_with fail
  have hS : (fun w' : World => w'.cell? ⟨b, 2, none⟩ = some (.slice (some ⟨g, 0, none⟩) L cap) ∧ w'.cell? ⟨g, j, none⟩ = some (.string y)) w.drew := HS.out
  refine wp_region_held_drew (S := (fun w' => w'.cell? ⟨b, 2, none⟩ = some (.slice (some ⟨g, 0, none⟩) L cap) ∧ w'.cell? ⟨g, j, none⟩ = some (.string y))) (by kernel_rfl) hS (fun hHeld => ?_)
  simp only [List.size_toArray, List.length_cons, List.length_nil, Nat.reduceAdd, Array.replicate_succ, Array.replicate_zero, List.push_toArray, List.append_toArray, List.nil_append, List.cons_append]
  refine tk 0 (ptr b) hHeld ?_
  simp only [Act.put, List.setIfInBounds_toArray, List.set_cons_zero, List.set_cons_succ]
  refine tk 1 (ptr b) hHeld ?_
  simp only [Act.put, List.setIfInBounds_toArray, List.set_cons_zero, List.set_cons_succ]
  refine tk 2 (.pointer (some ⟨b, 2, none⟩)) hHeld ?_
  simp only [Act.put, List.setIfInBounds_toArray, List.set_cons_zero, List.set_cons_succ]
  refine tk 3 (.slice (some ⟨g, 0, none⟩) L cap) hHeld ?_
  simp only [Act.put, List.setIfInBounds_toArray, List.set_cons_zero, List.set_cons_succ]
  refine tk 4 (ptr b) hHeld ?_
  simp only [Act.put, List.setIfInBounds_toArray, List.set_cons_zero, List.set_cons_succ]
  refine tk 5 (.string k) hHeld ?_
  simp only [Act.put, List.setIfInBounds_toArray, List.set_cons_zero, List.set_cons_succ]
  refine wpAnyH_ready (rs := [6]) (by kernel_rfl) (by simp) ?_
  refine AllReadyH.cons rfl (fun Kq hK => ?_) AllReadyH.nil
  go_simp
  refine H2.out.mono ?_
  rintro e w2 ⟨p, rfl, hP, hw⟩
  obtain rfl := hw.symm
  obtain rfl := hP.uniq HP.out
  clear hw hP
  refine hK.out _ _ hS (fun hHeld => ?_)
  simp only [Act.put, List.setIfInBounds_toArray, List.set_cons_zero, List.set_cons_succ]
  refine tk 7 (.pointer (some ⟨g, j, none⟩)) hHeld ?_
  simp only [Act.put, List.setIfInBounds_toArray, List.set_cons_zero, List.set_cons_succ]
  refine tk 8 (.string y) hHeld ?_
  simp only [Act.put, List.setIfInBounds_toArray, List.set_cons_zero, List.set_cons_succ]
  refine tk 9 (.string y) hHeld ?_
  simp only [Act.put, List.setIfInBounds_toArray, List.set_cons_zero, List.set_cons_succ]
  refine tk 10 (.bool true) hHeld ?_
  simp only [Act.put, List.setIfInBounds_toArray, List.set_cons_zero, List.set_cons_succ]
  refine wpAnyH_done (by kernel_rfl) ?_ _
  clear hHeld
  go_wp2
  go_ret2
  exact ⟨rfl, ((Keeps.refl (fun _ => False) w).drew)⟩

end Go.Proofs.YtomjodoimjiceaaDoor
