import Derived.Test.YtjadpbkhfclldaaGreatKu
import Derived.Test.YtjadpbkhfclldaaGreatKd
namespace Go.Proofs.YtjadpbkhfclldaaGreat
open Go.RowKit
set_option linter.unusedVariables false
set_option linter.unusedSimpArgs false
set_option maxRecDepth 6000

theorem own_cell {w : World} {e : TypeId} {size n g cap : Nat} {xs : List Value} (h : w.ownsRow 0 e size (.slice (some ⟨g, 0, none⟩) n cap) n xs) {i : Nat} {v : Value} (hi : xs[i]? = some v) : w.cell? ⟨g, i, none⟩ = some v := by
  have := h.cells rfl i v hi
  rw [addr_add] at this
  simpa using this
theorem own_form {w : World} {e : TypeId} {size n : Nat} {v : Value} {xs : List Value} (h : w.ownsRow 0 e size v n xs) (hn : 0 < n) : ∃ g cap, v = .slice (some ⟨g, 0, none⟩) n cap ∧ n ≤ cap ∧ cap ≤ maxLen := by
  rcases h.2 with ⟨_, h0⟩ | ⟨g, cap, cur, e, _, _, h1, h2, _⟩
  · omega
  · exact ⟨g, cap, e, h1, h2⟩
/-- A row that has something, and its cells. -/
theorem Fam.row {ty : Nat → Nat → TypeId × Nat} {lo : Nat} {w : World} {O : Nat → Nat → ObG} (h : Fam ty lo w O) (a b : Nat) {n : Nat} (hn : (O a b).n = n) (h0 : 0 < n) : ∃ g cap, (O a b).u = .slice (some ⟨g, 0, none⟩) n cap ∧ n ≤ cap ∧ cap ≤ maxLen ∧ ∀ i v, (O a b).xs[i]? = some v → w.cell? ⟨g, i, none⟩ = some v := by
  have ho := h.own a b
  rw [hn] at ho
  obtain ⟨g, cap, e, h1, h2⟩ := own_form ho h0
  rw [e] at ho
  exact ⟨g, cap, e, h1, h2, fun i v hv => own_cell ho hv⟩
/-- The things of a row, one by one. -/
theorem seg_flat {α : Type} (E : Elem α) {w : World} {g : Nat} {xs : List α} (h : ∀ i v, (xs.flatMap E.vs)[i]? = some v → w.cell? ⟨g, i, none⟩ = some v) : SegA E.vs E.k w (some ⟨g, 0, none⟩) xs :=
  .inr ⟨g, 0, rfl, fun j x hj i v hv => by rw [Nat.zero_add]; exact h _ _ (flat_get E xs j x i v hj hv)⟩
theorem apN_map {α : Type} (f : Nat → α) (g : α → List Value) : ∀ k, apN (fun i => g (f i)) k = ((List.range k).map f).flatMap g
  | 0 => rfl
  | k + 1 => by rw [apN_succ, apN_map f g k, List.range_succ, List.map_append, List.flatMap_append]; simp
theorem wm_flat (xs : List Win) : xs.flatMap Win.vs ++ apN wMk 12 = (xs ++ wmL).flatMap Win.vs := by
  rw [List.flatMap_append]; congr 1
theorem rm_flat (xs : List Rgn) : xs.flatMap Rgn.vs ++ apN rMk 12 = (xs ++ rmL).flatMap Rgn.vs := by
  rw [List.flatMap_append]; congr 1
theorem pm_flat (xs : List Prt) : xs.flatMap Prt.vs ++ apN pMk 12 = (xs ++ pmL).flatMap Prt.vs := by
  rw [List.flatMap_append]; congr 1

/-- What stands where, with room behind it. -/
structure RmIn (w : World) (c : Cfg) (O : Nat → Nat → ObG) : Prop where
  win : ∀ (j : Nat) (X : Core), c.cs[j]? = some X → ∃ g p gi pi, (O 0 1).u = .slice (some ⟨g, 0, none⟩) c.cs.length p ∧ c.cs.length ≤ p ∧ w.cell? ⟨g, j, none⟩ = some (.slice (some ⟨gi, 0, none⟩) (X.ws.length + 12) pi) ∧ (X.ws.length + 12 ≤ pi ∧ pi ≤ maxLen) ∧ SegA Win.vs 3 w (some ⟨gi, 0, none⟩) (X.ws ++ wmL)
  par : ∀ (j : Nat) (P : Par), c.ps[j]? = some P → ∃ g p gi pi h q hi qi, (O 0 3).u = .slice (some ⟨g, 0, none⟩) c.ps.length p ∧ c.ps.length ≤ p ∧ w.cell? ⟨g, j, none⟩ = some (.slice (some ⟨gi, 0, none⟩) (P.rs.length + 12) pi) ∧ (P.rs.length + 12 ≤ pi ∧ pi ≤ maxLen) ∧ SegA Rgn.vs 4 w (some ⟨gi, 0, none⟩) (P.rs ++ rmL) ∧
    (O 0 4).u = .slice (some ⟨h, 0, none⟩) c.ps.length q ∧ c.ps.length ≤ q ∧ w.cell? ⟨h, j, none⟩ = some (.slice (some ⟨hi, 0, none⟩) (P.ps.length + 12) qi) ∧ (P.ps.length + 12 ≤ qi ∧ qi ≤ maxLen) ∧ SegA Prt.vs 2 w (some ⟨hi, 0, none⟩) (P.ps ++ pmL)
  spare : ∀ k, k < 12 → ∃ g p gi pi h q r s, (O 0 0).u = .slice (some ⟨g, 0, none⟩) (c.cs.length + 12) p ∧ c.cs.length + 12 ≤ p ∧ w.cell? ⟨g, c.cs.length + k, none⟩ = some (.slice (some ⟨gi, 0, none⟩) 1 pi) ∧ 1 ≤ pi ∧ (∀ i v, (wMk k)[i]? = some v → w.cell? ⟨gi, i, none⟩ = some v) ∧
    (O 0 2).u = .slice (some ⟨h, 0, none⟩) (c.ps.length + 12) q ∧ c.ps.length + 12 ≤ q ∧ (∀ i v, (qMk k)[i]? = some v → w.cell? ⟨h, (c.ps.length + k) * 8 + i, none⟩ = some v) ∧
    (O 0 5).u = .slice (some ⟨r, 0, none⟩) (c.hs.length + 12) s ∧ c.hs.length + 12 ≤ s ∧ ∀ i v, (hMk k)[i]? = some v → w.cell? ⟨r, (c.hs.length + k) * 3 + i, none⟩ = some v
theorem get_lt {α : Type} {xs : List α} {j : Nat} {x : α} (h : xs[j]? = some x) : j < xs.length := (List.getElem?_eq_some_iff.1 h).1

theorem RmIn.of {lo : Nat} {w : World} {O : Nat → Nat → ObG} {c : Cfg} (hF : FamO lo w O) (h : RP c c.cs.length c.ps.length c.hs 12 O) : RmIn w c O := by
  refine ⟨fun j X hX => ?_, fun j P hP => ?_, fun k hk => ?_⟩
  · have hj := get_lt hX
    obtain ⟨g, p, e, h1, _, hc⟩ := hF.row 0 1 h.c1n (by omega)
    have hn := (h.i1 j hj).1
    rw [wsO_some hX] at hn
    obtain ⟨gi, pi, ei, l1, l2, hci⟩ := hF.row 1 j hn (by omega)
    refine ⟨g, p, gi, pi, e, h1, ?_, ⟨l1, l2⟩, seg_flat eWin fun i v hv => hci i v ?_⟩
    · rw [← ei]
      refine hc j _ ?_
      rw [h.c1]
      have := apN_get (f := fun i => [(O 1 i).u]) (s := 1) (fun _ _ => rfl) hj (i := 0) (by omega)
      simpa using this
    · rw [(h.i1 j hj).2, wsO_some hX, wm_flat]; exact hv
  · have hj := get_lt hP
    obtain ⟨g, p, e, h1, _, hc⟩ := hF.row 0 3 h.c3n (by omega)
    have hn := (h.i2 j hj).1
    rw [rsO_some hP] at hn
    obtain ⟨gi, pi, ei, l1, l2, hci⟩ := hF.row 2 j hn (by omega)
    obtain ⟨g2, p2, e2, h2, _, hc2⟩ := hF.row 0 4 h.c4n (by omega)
    have hn2 := (h.i3 j hj).1
    rw [psO_some hP] at hn2
    obtain ⟨hi, qi, ej, m1, m2, hcj⟩ := hF.row 3 j hn2 (by omega)
    refine ⟨g, p, gi, pi, g2, p2, hi, qi, e, h1, ?_, ⟨l1, l2⟩, seg_flat eRgn fun i v hv => hci i v ?_, e2, h2, ?_, ⟨m1, m2⟩, seg_flat ePrt fun i v hv => hcj i v ?_⟩
    · rw [← ei]
      refine hc j _ ?_
      rw [h.c3]
      have := apN_get (f := fun i => [(O 2 i).u]) (s := 1) (fun _ _ => rfl) hj (i := 0) (by omega)
      simpa using this
    · rw [(h.i2 j hj).2, rsO_some hP, rm_flat]; exact hv
    · rw [← ej]
      refine hc2 j _ ?_
      rw [h.c4]
      have := apN_get (f := fun i => [(O 3 i).u]) (s := 1) (fun _ _ => rfl) hj (i := 0) (by omega)
      simpa using this
    · rw [(h.i3 j hj).2, psO_some hP, pm_flat]; exact hv
  · obtain ⟨g, p, e, h1, _, hc⟩ := hF.row 0 0 h.c0n (by omega)
    obtain ⟨gi, pi, ei, l1, _, hci⟩ := hF.row 4 k (h.i4 k hk).1 (by omega)
    obtain ⟨g2, p2, e2, h2, _, hc2⟩ := hF.row 0 2 h.c2n (by omega)
    obtain ⟨g5, p5, e5, h5, _, hc5⟩ := hF.row 0 5 h.c5n (by omega)
    refine ⟨g, p, gi, pi, g2, p2, g5, p5, e, h1, ?_, l1, fun i v hv => hci i v (by rw [(h.i4 k hk).2]; exact hv), e2, h2, fun i v hv => hc2 _ v ?_, e5, h5, fun i v hv => hc5 _ v ?_⟩
    · rw [← ei]
      refine hc _ _ ?_
      have hl : (apN (fun i => [cut (wsO c i).length (O 1 i).u]) c.cs.length).length = c.cs.length := by rw [apN_len (s := 1) fun _ _ => rfl]; omega
      rw [h.c0, List.getElem?_append_right (by omega), hl, Nat.add_sub_cancel_left]
      have := apN_get (f := fun i => [(O 4 i).u]) (s := 1) (fun _ _ => rfl) hk (i := 0) (by omega)
      simpa using this
    · have hl : (apN (fun i => parC c i (cut (rsO c i).length (O 2 i).u) (cut (psO c i).length (O 3 i).u)) c.ps.length).length = c.ps.length * 8 := apN_len fun i hi => by
        obtain ⟨P, hP⟩ : ∃ P, c.ps[i]? = some P := ⟨_, List.getElem?_eq_getElem hi⟩
        rw [parC_some hP]; rfl
      have h8 : i < 8 := get_lt hv
      rw [h.c2, List.getElem?_append_right (by rw [hl]; omega), hl, show (c.ps.length + k) * 8 + i - c.ps.length * 8 = k * 8 + i by omega, apN_get (f := qMk) (s := 8) (fun _ _ => rfl) hk h8]
      exact hv
    · have hl : (c.hs.flatMap Chn.vs).length = c.hs.length * 3 := flat_len eChn c.hs
      have h3 : i < 3 := get_lt hv
      rw [h.c5, List.getElem?_append_right (by rw [hl]; omega), hl, show (c.hs.length + k) * 3 + i - c.hs.length * 3 = k * 3 + i by omega, apN_get (f := hMk) (s := 3) (fun _ _ => rfl) hk h3]
      exact hv
theorem RmIn.kept {w w' : World} {c : Cfg} {O : Nat → Nat → ObG} (h : RmIn w c O) (hK : Keeps (fun _ => False) w w') : RmIn w' c O := by
  refine ⟨fun j X hX => ?_, fun j P hP => ?_, fun k hk => ?_⟩
  · obtain ⟨g, p, gi, pi, e1, e2, e3, e4, e5⟩ := h.win j X hX
    exact ⟨g, p, gi, pi, e1, e2, cell_kept e3 hK fun h => h, e4, e5.kept hK fun _ _ _ h => h⟩
  · obtain ⟨g, p, gi, pi, a, q, hi, qi, e1, e2, e3, e4, e5, e6, e7, e8, e9, e10⟩ := h.par j P hP
    exact ⟨g, p, gi, pi, a, q, hi, qi, e1, e2, cell_kept e3 hK fun h => h, e4, e5.kept hK fun _ _ _ h => h, e6, e7, cell_kept e8 hK fun h => h, e9, e10.kept hK fun _ _ _ h => h⟩
  · obtain ⟨g, p, gi, pi, a, q, r, s, e1, e2, e3, e4, e5, e6, e7, e8, e9, e10, e11⟩ := h.spare k hk
    exact ⟨g, p, gi, pi, a, q, r, s, e1, e2, cell_kept e3 hK fun h => h, e4, fun i v hv => cell_kept (e5 i v hv) hK fun h => h, e6, e7, fun i v hv => cell_kept (e8 i v hv) hK fun h => h, e9, e10, fun i v hv => cell_kept (e11 i v hv) hK fun h => h⟩
end Go.Proofs.YtjadpbkhfclldaaGreat
