import Derived.Test.YtekijhhpldnmnaaRa
namespace Go.Proofs.Ytekijhhpldnmnaa
open Go.RowKit
set_option linter.unusedVariables false
set_option linter.unusedSimpArgs false

/-- A list's head, and what it holds. -/
structure Hd where
  a : Option Addr
  c : Nat
  ms : List UInt32
abbrev Hd.v (h : Hd) : Value := .slice h.a h.ms.length h.c
def hms (hs : List Hd) : List (List UInt32) := hs.map Hd.ms
def hvs (hs : List Hd) : List Value := hs.map Hd.v
theorem hms_length (hs : List Hd) : (hms hs).length = hs.length := by simp [hms]
theorem hvs_length (hs : List Hd) : (hvs hs).length = hs.length := by simp [hvs]
theorem hvs_get {hs : List Hd} {j : Nat} {h : Hd} (hj : hs[j]? = some h) : (hvs hs)[j]? = some h.v := by simp [hvs, hj]
theorem hms_get {hs : List Hd} {j : Nat} {h : Hd} (hj : hs[j]? = some h) : (hms hs)[j]? = some h.ms := by simp [hms, hj]

/-- While the row is played. -/
structure QI (w : World) (b g n d : Nat) (wr : World) (sv wv : Value) (sh wh : List Hd) (lost : Nat) : Prop where
  ex : ∃ xs s r, Mm wr b g xs ∧ Two n d xs s r ∧ s.ms = hms sh ∧ r.ms = hms wh ∧ r.lost.toNat = lost
  srow : RowO wr sv (hvs sh)
  wrow : RowO wr wv (hvs wh)
  seg : ∀ h, h ∈ sh ∨ h ∈ wh → SegW w h.a h.ms
  sb : ∀ k, blkO sv = some k → w.heap.size ≤ k ∧ k ≠ b ∧ k ≠ g
  wb : ∀ k, blkO wv = some k → w.heap.size ≤ k ∧ k ≠ b ∧ k ≠ g
  ap : ∀ k, blkO sv = some k → blkO wv ≠ some k
  bg : w.heap.size ≤ b ∧ w.heap.size ≤ g
  k : Keeps (fun k => w.heap.size ≤ k) w wr

section
variable {w wr w' : World} {b g n d : Nat} {sv wv : Value} {sh wh : List Hd} {lost : Nat}

/-- A call that changes the memory's words alone. -/
theorem QI.call (q : QI w b g n d wr sv wv sh wh lost) (k : Keeps (· = g) wr w') {xs : List UInt32} {s r : Rw} (hm : Mm w' b g xs) (ht : Two n d xs s r) (hs : s.ms = hms sh) (hr : r.ms = hms wh) (hl : r.lost.toNat = lost) : QI w b g n d w' sv wv sh wh lost :=
  ⟨⟨xs, s, r, hm, ht, hs, hr, hl⟩, q.srow.kept k fun b hb e => (q.sb b hb).2.2 e, q.wrow.kept k fun b hb e => (q.wb b hb).2.2 e, q.seg, q.sb, q.wb, q.ap, q.bg, q.k.trans k fun b hb e => by have := q.bg.2; omega⟩
theorem QI.grown (q : QI w b g n d wr sv wv sh wh lost) (k : Keeps (fun _ => False) wr w') : QI w b g n d w' sv wv sh wh lost := by
  obtain ⟨xs, s, r, hm, h⟩ := q.ex
  exact q.call k.none (hm.kept k (fun e => e) (fun e => e)) h.1 h.2.1 h.2.2.1 h.2.2.2
theorem QI.lens (q : QI w b g n d wr sv wv sh wh lost) : sh.length ≤ d ∧ wh.length ≤ d ∧ d ≤ 8 := by
  obtain ⟨xs, s, r, hm, ht, h1, h2, h3⟩ := q.ex
  have e1 := ht.st.ok.m
  have e2 := ht.pt.ok.m
  rw [h1, hms_length] at e1
  rw [h2, hms_length] at e2
  exact ⟨e1, e2, ht.st.d2⟩
/-- One more is staged. -/
theorem QI.stage (q : QI w b g n d wr sv wv sh wh lost) (x : Hd) (hx : SegW w x.a x.ms) {xs : List UInt32} {s r : Rw} {w1 : World} (k1 : Keeps (· = g) wr w1) (hm : Mm w1 b g xs) (ht : Two n d xs s r) (hs : s.ms = hms sh ++ [x.ms]) (hr : r.ms = hms wh) (hl : r.lost.toNat = lost) :
    ∃ v' W', (∀ ty, (Builtin.append_ #[43, 43] ty #[sv, .slice (some ⟨w1.heap.size, 0, none⟩) 1 1]).run Try.prog (w1.alloc (.cells #[x.v] 22)) = .ok v' W') ∧ QI w b g n d W' v' wv (sh ++ [x]) wh lost := by
  have hsr : RowO w1 sv (hvs sh) := q.srow.kept k1 fun b hb e => (q.sb b hb).2.2 e
  have hwr : RowO w1 wv (hvs wh) := q.wrow.kept k1 fun b hb e => (q.wb b hb).2.2 e
  obtain ⟨v', W', h1, h2, h3, h4⟩ := append_row22 x.v rfl sv (hvs sh) hsr (by rw [hvs_length]; have := q.lens; omega)
  have hw1 : w.heap.size ≤ w1.heap.size := Nat.le_trans q.k.size k1.size
  have hbl := hm.blk.lt
  have hgl := hm.row.lt
  obtain ⟨_, _, _, _, _, hwl⟩ := hwr.form
  have hnb : ∀ k, blkO v' = some k → w.heap.size ≤ k ∧ k ≠ b ∧ k ≠ g ∧ blkO wv ≠ some k := fun k hk => by
    rcases h3 with e | ⟨z, e, hz⟩
    · rw [e] at hk
      exact ⟨(q.sb k hk).1, (q.sb k hk).2.1, (q.sb k hk).2.2, q.ap k hk⟩
    · rw [e] at hk
      cases hk
      exact ⟨by omega, by omega, by omega, fun h => by have := hwl _ h; omega⟩
  refine ⟨v', W', h1, ⟨xs, s, r, hm.kept h4 (fun e => ?_) (fun e => ?_), ht, ?_, hr, hl⟩, ?_, hwr.kept h4 fun b hb e => ?_, ?_, fun k hk => ⟨(hnb k hk).1, (hnb k hk).2.1, (hnb k hk).2.2.1⟩, q.wb, fun k hk => (hnb k hk).2.2.2, q.bg, ?_⟩
  · exact (q.sb b e.symm).2.1 rfl
  · exact (q.sb g e.symm).2.2 rfl
  · rw [hs]; simp [hms]
  · have e : hvs (sh ++ [x]) = hvs sh ++ [x.v] := by simp [hvs]
    rw [e]; exact h2
  · exact q.ap b e.symm hb
  · intro h hh
    rcases hh with hh | hh
    · rcases List.mem_append.1 hh with hh | hh
      · exact q.seg h (.inl hh)
      · simp at hh; subst hh; exact hx
    · exact q.seg h (.inr hh)
  · exact (q.k.trans k1 fun b hb e => by have := q.bg.2; omega).trans h4 fun b hb e => (q.sb b e.symm).1
/-- The first one that waits goes. -/
theorem QI.taken {x : Hd} {wg wo wn wc : Nat} (q : QI w b g n d wr sv (.slice (some ⟨wg, wo, none⟩) wn wc) sh (x :: wh) lost) {xs : List UInt32} {s r : Rw} (k1 : Keeps (· = g) wr w') (hm : Mm w' b g xs) (ht : Two n d xs s r) (hs : s.ms = hms sh) (hr : r.ms = hms wh) (hl : r.lost.toNat = lost) :
    QI w b g n d w' sv (.slice (some ⟨wg, if wc = 1 then wo else wo + 1, none⟩) wh.length (wc - 1)) sh wh lost := by
  have hwr : RowO w' (.slice (some ⟨wg, wo, none⟩) wn wc) (hvs (x :: wh)) := q.wrow.kept k1 fun b hb e => (q.wb b hb).2.2 e
  have h2 : RowO w' _ (hvs wh) := hwr.tail (u := x.v) (vals := hvs wh)
  rw [hvs_length] at h2
  exact ⟨⟨xs, s, r, hm, ht, hs, hr, hl⟩, q.srow.kept k1 fun b hb e => (q.sb b hb).2.2 e, h2, fun h hh => q.seg h (hh.imp id fun e => by simp [e]), q.sb, q.wb, q.ap, q.bg, q.k.trans k1 fun b hb e => by have := q.bg.2; omega⟩
end

/-- While a frame's end goes through what is staged: the memory's port is ahead of what waits. -/
structure QD (w : World) (b g n d : Nat) (xs : List UInt32) (wr : World) (sv wv : Value) (sh wh : List Hd) : Prop where
  mm : Mm wr b g xs
  srow : RowO wr sv (hvs sh)
  wrow : RowO wr wv (hvs wh)
  seg : ∀ h, h ∈ sh ∨ h ∈ wh → SegW w h.a h.ms
  sb : ∀ k, blkO sv = some k → w.heap.size ≤ k ∧ k ≠ b ∧ k ≠ g
  wb : ∀ k, blkO wv = some k → w.heap.size ≤ k ∧ k ≠ b ∧ k ≠ g
  ap : ∀ k, blkO sv = some k → blkO wv ≠ some k
  bg : w.heap.size ≤ b ∧ w.heap.size ≤ g
  k : Keeps (fun k => w.heap.size ≤ k) w wr
theorem QD.wait {w wr : World} {b g n d : Nat} {xs : List UInt32} {sv wv : Value} {sh wh : List Hd} (q : QD w b g n d xs wr sv wv sh wh) (x : Hd) (hx : x ∈ sh) (hl : wh.length ≤ 1000) :
    ∃ v' W', (∀ ty, (Builtin.append_ #[43, 43] ty #[wv, .slice (some ⟨wr.heap.size, 0, none⟩) 1 1]).run Try.prog (wr.alloc (.cells #[x.v] 22)) = .ok v' W') ∧ QD w b g n d xs W' sv v' sh (wh ++ [x]) := by
  obtain ⟨v', W', h1, h2, h3, h4⟩ := append_row22 x.v rfl wv (hvs wh) q.wrow (by rw [hvs_length]; exact hl)
  have hbl := q.mm.blk.lt
  have hgl := q.mm.row.lt
  have hks := q.k.size
  obtain ⟨_, _, _, _, _, hsl⟩ := q.srow.form
  refine ⟨v', W', h1, q.mm.kept h4 (fun e => (q.wb b e.symm).2.1 rfl) (fun e => (q.wb g e.symm).2.2 rfl), q.srow.kept h4 (fun k hk e => q.ap k hk e.symm), ?_, ?_, q.sb, fun k hk => ?_, fun k hk e => ?_, q.bg, q.k.trans h4 fun b hb e => (q.wb b e.symm).1⟩
  · have e : hvs (wh ++ [x]) = hvs wh ++ [x.v] := by simp [hvs]
    rw [e]; exact h2
  · intro h hh
    rcases hh with hh | hh
    · exact q.seg h (.inl hh)
    · rcases List.mem_append.1 hh with hh | hh
      · exact q.seg h (.inr hh)
      · simp at hh; subst hh; exact q.seg h (.inl hx)
  · rcases h3 with e | ⟨z, e, hz⟩
    · rw [e] at hk; exact q.wb k hk
    · rw [e] at hk; cases hk; exact ⟨by omega, by omega, by omega⟩
  · rcases h3 with e2 | ⟨z, e2, hz⟩
    · rw [e2] at e; exact q.ap k hk e
    · rw [e2] at e; cases e; have := hsl _ hk; omega

end Go.Proofs.Ytekijhhpldnmnaa
