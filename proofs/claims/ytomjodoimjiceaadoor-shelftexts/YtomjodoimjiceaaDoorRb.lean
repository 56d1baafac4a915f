import Derived.Test.YtomjodoimjiceaaDoorRa
namespace Go.Proofs.YtomjodoimjiceaaDoor
open Go.RowKit Go.Shelf
set_option linter.unusedVariables false
set_option maxRecDepth 6000

theorem er_step {l : List ByteArray} {i j : Nat} {x : ByteArray} (h : l[i]? = some x) : (l.take (i + 1)).eraseIdx j = if i = j then (l.take i).eraseIdx j else (l.take i).eraseIdx j ++ [x] := by
  have hi : i < l.length := (List.getElem?_eq_some_iff.1 h).1
  have e1 : l.take (i + 1) = l.take i ++ [x] := by rw [List.take_add_one, h]; rfl
  have hl : (l.take i).length = i := by simp; omega
  rw [e1]
  by_cases e : i = j
  · rw [if_pos e, List.eraseIdx_append_of_length_le (by omega), hl, List.eraseIdx_of_length_le (l := l.take i) (by omega), e, Nat.sub_self]
    simp
  · rw [if_neg e]
    by_cases hj : j < i
    · rw [List.eraseIdx_append_of_lt_length (by omega)]
    · rw [List.eraseIdx_append_of_length_le (by omega), hl, List.eraseIdx_of_length_le (l := l.take i) (by omega)]
      rw [List.eraseIdx_of_length_le (by simp; omega)]

theorem ckept {S : Nat → Prop} {w w' : World} {a : Addr} {v : Value} (h : w.cell? a = some v) (hK : Keeps S w w') (hn : ¬ S a.block) : w'.cell? a = some v := by
  have hlt : a.block < w.heap.size := by
    unfold World.cell? at h
    cases hh : w.heap[a.block]? with
    | none => rw [hh] at h; simp at h
    | some o => exact (Array.getElem?_eq_some_iff.1 hh).1
  unfold World.cell? at h ⊢
  rw [hK.block a.block hlt hn]
  exact h
theorem olt {w : World} {e : TypeId} {size n g : Nat} {v : Value} {vs : List Value} (h : w.ownsRow 0 e size v n vs) (hg : v.ownBlock = some g) : g < w.heap.size := by
  rcases h.2 with ⟨rfl, _⟩ | ⟨g', cap, cur, rfl, _, hgg, _⟩
  · simp [Value.ownBlock] at hg
  · simp [Value.ownBlock] at hg
    subst hg
    exact (Array.getElem?_eq_some_iff.1 hgg).1

theorem sv_len (l : List ByteArray) : (sv l).length = l.length := by simp [sv]

/-- Where the document's shelf is now. -/
def NowR (w w' : World) (b N : Nat) (ks vs : List ByteArray) (F : Nat → Prop) : Prop := (∃ u v F', Rf w' b N ks vs u v F' ∧ ∀ k, F' k → F k ∨ w.heap.size ≤ k) ∧ Keeps F w w'

set_option maxHeartbeats 4000000 in
theorem without_any (b N : Nat) (ks vs : List ByteArray) (u v : Value) (F : Nat → Prop) (j : Nat) (w : World) (h : Rf w b N ks vs u v F) (hj : j < ks.length) :
    Calls Tryd.prog 45 #[ptr b, .int .i64 j] w fun r w' => r = .returned (.tuple #[]) ∧ NowR w w' b N (ks.eraseIdx j) (vs.eraseIdx j) F := by
  obtain ⟨a, cap, rfl, hc⟩ := owns_slice h.kr
  obtain ⟨a2, cap2, rfl, hc2⟩ := owns_slice h.vr
  have hll := h.len
  obtain ⟨L, eL⟩ : ∃ L, L = ks.length := ⟨_, rfl⟩
  have HC : Hid ((∀ i x, (sv ks)[i]? = some x → ∃ g, a = some ⟨g, 0, none⟩ ∧ w.cell? ⟨g, i, none⟩ = some x) ∧ (∀ i x, (sv vs)[i]? = some x → ∃ g, a2 = some ⟨g, 0, none⟩ ∧ w.cell? ⟨g, i, none⟩ = some x)) := ⟨hc, hc2⟩
  have hlb : (L : Int) ≤ 4096 := by have h1 := h.fits; have h2 := h.hi; omega
  have hjL : (j : Int) < L := by omega
  have HL : Hid (L = ks.length ∧ L = vs.length) := ⟨eL, by omega⟩
  have HR : Hid (Rf w b N ks vs (.slice a ks.length cap) (.slice a2 vs.length cap2) F) := h
  have c1 := h.blk.cell (i := 1) rfl
  have c2 := h.blk.cell (i := 2) rfl
  rw [← eL] at c1
  rw [show vs.length = L by omega] at c2
  have HB : Hid (w.cell? ⟨b, 1, none⟩ = some (.slice a L cap) ∧ w.cell? ⟨b, 2, none⟩ = some (.slice a2 L cap2)) := ⟨c1, c2⟩
  clear h hc hc2 hll eL hj c1 c2
  go_enter Tryd.func45, Tryd.ntmps45
  go_wp2
  go_loopw [4, 5, 6] (fun o p i wr => ∃ m : Nat, m ≤ L ∧ i = .int .i64 m ∧ wr.ownsRow 0 9 1 o ((ks.take m).eraseIdx j).length (sv ((ks.take m).eraseIdx j)) ∧ wr.ownsRow 0 9 1 p ((vs.take m).eraseIdx j).length (sv ((vs.take m).eraseIdx j)) ∧ Keeps (fun _ => False) w wr ∧ (∀ g, o.ownBlock = some g → w.heap.size ≤ g) ∧ (∀ g, p.ownBlock = some g → w.heap.size ≤ g ∧ o.ownBlock ≠ some g)) (fun _ _ i _ => L - (intOf i).toNat)
  case atStart => exact ⟨0, by omega, rfl, ⟨rfl, .inl ⟨rfl, rfl⟩⟩, ⟨rfl, .inl ⟨rfl, rfl⟩⟩, Keeps.refl _ _, fun g e => by simp [Value.ownBlock] at e, fun g e => by simp [Value.ownBlock] at e⟩
  case round =>
    obtain ⟨m, hm, rfl, h1, h2, hK, s1, s2⟩ := hrel
    have HI : Hid ((wr.ownsRow 0 9 1 u4 ((ks.take m).eraseIdx j).length (sv ((ks.take m).eraseIdx j)) ∧ wr.ownsRow 0 9 1 u5 ((vs.take m).eraseIdx j).length (sv ((vs.take m).eraseIdx j))) ∧ Keeps (fun _ => False) w wr ∧ (∀ g, u4.ownBlock = some g → w.heap.size ≤ g) ∧ (∀ g, u5.ownBlock = some g → w.heap.size ≤ g ∧ u4.ownBlock ≠ some g)) := ⟨⟨h1, h2⟩, hK, s1, s2⟩
    have c1 := ckept HB.out.1 hK fun h => h
    have c2 := ckept HB.out.2 hK fun h => h
    by_cases hlt : m < L
    · obtain ⟨x, hx⟩ : ∃ x, ks[m]? = some x := ⟨_, List.getElem?_eq_getElem (by have := HL.out.1; omega)⟩
      obtain ⟨y, hy⟩ : ∃ y, vs[m]? = some y := ⟨_, List.getElem?_eq_getElem (by have := HL.out.2; omega)⟩
      have hmi : (m : Int) < L := by omega
      have hmb : (m : Int) ≤ 4096 := by omega
      have hz1 : ((ks.take m).eraseIdx j).length ≤ 4096 := Nat.le_trans (List.length_eraseIdx_le ..) (by simp; omega)
      have hz2 : ((vs.take m).eraseIdx j).length ≤ 4096 := Nat.le_trans (List.length_eraseIdx_le ..) (by simp; omega)
      have ex := er_step (j := j) hx
      have ey := er_step (j := j) hy
      by_cases he : m = j
      · rw [if_pos he] at ex ey
        have f1 : ((m : Int) != (j : Int)) = false := by simp; omega
        have HN : Hid (wr.ownsRow 0 9 1 u4 ((ks.take (m + 1)).eraseIdx j).length (sv ((ks.take (m + 1)).eraseIdx j)) ∧ wr.ownsRow 0 9 1 u5 ((vs.take (m + 1)).eraseIdx j).length (sv ((vs.take (m + 1)).eraseIdx j))) := by rw [ex, ey]; exact ⟨h1, h2⟩
        clear h1 h2 hK s1 s2 ex ey hx hy he hz1 hz2
        go_wp2
        go_roundw
        case rel => exact ⟨m + 1, by omega, by go_num, HN.out.1, HN.out.2, HI.out.2.1, HI.out.2.2.1, HI.out.2.2.2⟩
        case measure => simp [intOf]; omega
      · rw [if_neg he] at ex ey
        have f1 : ((m : Int) != (j : Int)) = true := by simp; omega
        obtain ⟨g, rfl, hg⟩ := HC.out.1 m _ (sv_get hx)
        obtain ⟨g', rfl, hg'⟩ := HC.out.2 m _ (sv_get hy)
        have d1 := ckept hg hK fun h => h
        obtain ⟨v1, W1, ap1, ho1, gr1⟩ := append_str x u4 _ _ h1 (by omega)
        have hb1 : ∀ q, u4.ownBlock = some q → q ≠ b ∧ q ≠ g' := fun q e => by
          have := s1 q e
          have l1 := HR.out.blk.lt
          have l2 := HR.out.lt g' (HR.out.fv g' rfl).1
          omega
        have hKa : Keeps (fun _ => False) w W1 := hK.trans gr1.keeps fun k hk e => by have := s1 k e.symm; omega
        have e2 := ckept c2 gr1.keeps (fun e => (hb1 b e.symm).1 rfl)
        have d2 := ckept (ckept hg' hK fun h => h) gr1.keeps (fun e => (hb1 g' e.symm).2 rfl)
        have h2' : W1.ownsRow 0 9 1 u5 ((vs.take m).eraseIdx j).length (sv ((vs.take m).eraseIdx j)) := owns_kept h2 gr1.keeps fun k e e' => (s2 k e).2 e'.symm
        obtain ⟨v2, W2, ap2, ho2, gr2⟩ := append_str y u5 _ _ h2' (by omega)
        have hsz := hK.size
        have hs1 : ∀ q, v1.ownBlock = some q → w.heap.size ≤ q := fun q e => by
          rcases gr1.fresh with f | ⟨k, f, hk⟩
          · exact s1 q (f ▸ e)
          · rw [f] at e; cases e; omega
        have hs12 : ∀ q, u5.ownBlock = some q → v1.ownBlock ≠ some q := fun q e e' => by
          rcases gr1.fresh with f | ⟨k, f, hk⟩
          · exact (s2 q e).2 (f ▸ e')
          · rw [f] at e'; cases e'
            have := olt h2 e
            omega
        have hs2 : ∀ q, v2.ownBlock = some q → w.heap.size ≤ q ∧ v1.ownBlock ≠ some q := fun q e => by
          rcases gr2.fresh with f | ⟨k, f, hk⟩
          · exact ⟨(s2 q (f ▸ e)).1, hs12 q (f ▸ e)⟩
          · rw [f] at e; cases e
            have hl1 := hKa.size
            refine ⟨by omega, fun e' => ?_⟩
            have := olt ho1 e'
            omega
        have HAP1 : Hid (∀ ty, _) := ap1
        have HAP2 : Hid (∀ ty, _) := ap2
        have HN : Hid ((W2.ownsRow 0 9 1 v1 ((ks.take (m + 1)).eraseIdx j).length (sv ((ks.take (m + 1)).eraseIdx j)) ∧ W2.ownsRow 0 9 1 v2 ((vs.take (m + 1)).eraseIdx j).length (sv ((vs.take (m + 1)).eraseIdx j))) ∧ Keeps (fun _ => False) w W2 ∧ (∀ g, v1.ownBlock = some g → w.heap.size ≤ g) ∧ (∀ g, v2.ownBlock = some g → w.heap.size ≤ g ∧ v1.ownBlock ≠ some g)) := by
          refine ⟨⟨?_, ?_⟩, hKa.trans gr2.keeps fun k hk e => by have := (s2 k e.symm).1; omega, hs1, hs2⟩
          · rw [ex, sv_append, List.length_append]
            exact owns_kept ho1 gr2.keeps fun k e e' => hs12 k e'.symm e
          · rw [ey, sv_append, List.length_append]
            exact ho2
        have f3 := ckept e2 (gr2.keeps) (fun e => by have := (s2 b e.symm).1; have := HR.out.blk.lt; omega)
        clear h1 h2 hK s1 s2 ex ey hx hy he hz1 hz2 ap1 ap2 ho1 ho2 gr1 gr2 hb1 hKa h2' hs1 hs12 hs2 hg hg' hsz f3
        go_wp2_with (at_builtin; go_must (refine wpList_append_run rfl (.tmp 19) (.tmp 27) 58 58 rfl u4 (.slice (some ⟨wr.heap.size, 0, none⟩) 1 1) v1 W1 rfl rfl HAP1.out ?_; refine Hid.out ?_))
        unfold Hid
        clear c1 d1 c2
        go_wp2_with (at_builtin; go_must (refine wpList_append_run rfl (.tmp 29) (.tmp 37) 58 58 rfl u5 (.slice (some ⟨W1.heap.size, 0, none⟩) 1 1) v2 W2 rfl rfl HAP2.out ?_; refine Hid.out ?_))
        unfold Hid
        clear e2 d2
        go_wp2
        go_roundw
        case rel => exact ⟨m + 1, by omega, by go_num, HN.out.1.1, HN.out.1.2, HN.out.2.1, HN.out.2.2.1, HN.out.2.2.2⟩
        case measure => simp [intOf]; omega
    · obtain rfl : m = L := by omega
      rw [List.take_of_length_le (by have := HL.out.1; omega)] at h1
      rw [List.take_of_length_le (by have := HL.out.2; omega)] at h2
      have hB := HR.out.blk.kept hK fun h => h
      have z1 := hB.frozen 1
      have z2 := hB.frozen 2
      have HE : Hid (NowR w ((wr.setCell ⟨b, 1, none⟩ u4).setCell ⟨b, 2, none⟩ u5) b N (ks.eraseIdx j) (vs.eraseIdx j) F) := by
        have hks : Keeps (· = b) wr ((wr.setCell ⟨b, 1, none⟩ u4).setCell ⟨b, 2, none⟩ u5) := ((Keeps.refl (· = b) wr).setCell _ _ fun _ => rfl).setCell _ _ fun _ => rfl
        have hbl := HR.out.blk.lt
        have hN1 : ∀ q, u4.ownBlock = some q → q ≠ b := fun q e => by have := s1 q e; omega
        have hN2 : ∀ q, u5.ownBlock = some q → q ≠ b := fun q e => by have := (s2 q e).1; omega
        refine ⟨⟨u4, u5, fun k => (F k ∨ w.heap.size ≤ k) ∧ k < wr.heap.size, ⟨?_, owns_kept h1 hks fun k e e' => hN1 k e e', owns_kept h2 hks fun k e e' => hN2 k e e', ?_, ?_, HR.out.hi, ?_, ?_, ⟨.inl HR.out.fb, by have := hK.size; omega⟩, fun k hk => Nat.lt_of_lt_of_le hk.2 hks.size⟩, fun k hk => hk.1⟩, ?_⟩
        · have := (hB.setCell 1 u4).setCell 2 u5
          exact this
        · rw [List.length_eraseIdx, List.length_eraseIdx, HR.out.len]
        · exact Nat.le_trans (List.length_eraseIdx_le ..) HR.out.fits
        · exact fun q e => ⟨⟨.inr (s1 q e), olt h1 e⟩, hN1 q e⟩
        · exact fun q e => ⟨⟨.inr (s2 q e).1, olt h2 e⟩, hN2 q e, (s2 q e).2⟩
        · exact (hK.mono fun _ _ h => h.elim).trans hks fun k hk e => by rw [e]; exact HR.out.fb
      obtain ⟨a4, k4, e4, _⟩ := owns_slice h1
      obtain ⟨a5, k5, e5, _⟩ := owns_slice h2
      clear h1 h2 hK s1 s2 hB hlt hm HI
      subst e4 e5
      go_wp2
      go_end0
      exact ⟨rfl, HE.out⟩

end Go.Proofs.YtomjodoimjiceaaDoor
