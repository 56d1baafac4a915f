import Derived.Test.YthaoopaafdgioabPz
import Derived.Test.YthaoopaafdgioabP
namespace Go.Proofs.Ythaoopaafdgioab
open Go.RowKit
set_option linter.unusedVariables false
set_option linter.unusedSimpArgs false
set_option maxRecDepth 6000

theorem Row.blk {α : Type} {E : Elem α} {w : World} {lo : Nat} {u : Value} {xs : List α} (h : Row E w lo u xs) (k : Nat) (e : u.ownBlock = some k) : ∃ cur fr, w.heap[k]? = some (.cells cur E.ety fr) := by
  rcases h.own.2 with ⟨h2, _⟩ | ⟨gg, cap, cur, h2, _, h3, _⟩
  · rw [h2] at e; cases e
  · rw [h2] at e; cases e; exact ⟨_, _, h3⟩
theorem Row.ne {α β : Type} {E : Elem α} {E2 : Elem β} {w : World} {lo lo2 : Nat} {u v : Value} {xs : List α} {ys : List β} (h : Row E w lo u xs) (h2 : Row E2 w lo2 v ys) (ht : E.ety ≠ E2.ety) (k : Nat) (e1 : u.ownBlock = some k) : v.ownBlock ≠ some k := fun e2 => by
  obtain ⟨c1, f1, q1⟩ := h.blk k e1
  obtain ⟨c2, f2, q2⟩ := h2.blk k e2
  rw [q1] at q2
  simp only [Option.some.injEq, Obj.cells.injEq] at q2
  exact ht q2.2.1

theorem row_app2 {α : Type} {E : Elem α} {w : World} {lo : Nat} {u : Value} {l : List α} {x : α} (t : TypeId) (i : TypeInfo) (z : Value) (bytes : Nat) (ht : Try.prog.underlying t = some (.slice E.ety)) (hi : Try.prog.info? E.ety = some i) (hz : i.zero = some z)
    (hs : i.size = E.k) (hb : i.bytes = bytes) (hzs : z.cells.size = E.k) (hby : bytes ≤ 1000) (hRow : Row E w lo u l) (hok : E.Ok w x) (hbl : ∀ k ∈ E.bl x, lo ≤ k ∧ k < w.heap.size ∧ u.ownBlock ≠ some k) (hlo : lo ≤ w.heap.size) (h1 : ∀ v ∈ E.vs x, v.oneCell' = true) (hl : l.length < 1000000) :
    ∃ v' W', (∀ ty, (Builtin.append_ #[t, t] ty #[u, .slice (some ⟨w.heap.size, 0, none⟩) 1 1]).run Try.prog (w.alloc (.cells (E.vs x).toArray E.ety)) = .ok v' W') ∧ Row E W' lo v' (l ++ [x]) ∧ Keeps (fun k => some k = u.ownBlock) w W' ∧ (v'.ownBlock = u.ownBlock ∨ ∃ k, v'.ownBlock = some k ∧ w.heap.size ≤ k) := by
  have hmul : (l.length + 1) * bytes ≤ 1000000 * 1000 := Nat.mul_le_mul (by omega) hby
  obtain ⟨v', W', happ, hown', hfr', hKa⟩ := append_new t E.ety i z E.k bytes ht hi hz hs hb hzs E.pos u l.length (l.flatMap E.vs) hRow.own (E.vs x).toArray (by simp [E.len]) (by simpa using h1) (by unfold maxLen; omega) (by omega)
  exact ⟨v', W', happ, hRow.push hok hbl hlo hown' hfr' hKa, hKa, hfr'⟩

theorem int_app2 {w : World} {lo : Nat} {u : Value} {l : List Int} (n : Int) (hRow : Row eInt w lo u l) (hlo : lo ≤ w.heap.size) (hl : l.length < 1000000) :
    ∃ v' W', (∀ ty, (Builtin.append_ #[68, 68] ty #[u, .slice (some ⟨w.heap.size, 0, none⟩) 1 1]).run Try.prog (w.alloc (.cells #[.int .i64 n] 3)) = .ok v' W') ∧ Row eInt W' lo v' (l ++ [n]) ∧ Keeps (fun k => some k = u.ownBlock) w W' ∧ (v'.ownBlock = u.ownBlock ∨ ∃ k, v'.ownBlock = some k ∧ w.heap.size ≤ k) := by
  obtain ⟨i0, hi, hz0, hz1, hz2⟩ := info_parts Try.info3
  exact row_app2 (E := eInt) (x := n) 68 i0 _ 8 Try.underlying68 hi hz0 hz1 hz2 rfl (by omega) hRow trivial (fun k hk => by cases hk) hlo (fun v hv => by simp only [eInt, List.mem_cons, List.not_mem_nil, or_false] at hv; subst hv; rfl) hl

theorem dst_app2 {w : World} {lo : Nat} {u : Value} {l : List Dst} (n : Dst) (hRow : Row eDst w lo u l) (hlo : lo ≤ w.heap.size) (hl : l.length < 1000000) :
    ∃ v' W', (∀ ty, (Builtin.append_ #[61, 61] ty #[u, .slice (some ⟨w.heap.size, 0, none⟩) 1 1]).run Try.prog (w.alloc (.cells n.vs.toArray 72)) = .ok v' W') ∧ Row eDst W' lo v' (l ++ [n]) ∧ Keeps (fun k => some k = u.ownBlock) w W' ∧ (v'.ownBlock = u.ownBlock ∨ ∃ k, v'.ownBlock = some k ∧ w.heap.size ≤ k) := by
  obtain ⟨i0, hi, hz0, hz1, hz2⟩ := info_parts Try.info72
  exact row_app2 (E := eDst) (x := n) 61 i0 _ 24 Try.underlying61 hi hz0 hz1 hz2 rfl (by omega) hRow trivial (fun k hk => by cases hk) hlo (fun v hv => by simp only [eDst, List.mem_cons, List.not_mem_nil, or_false] at hv; rcases hv with rfl | rfl | rfl <;> rfl) hl

/-- A layout under way in the memory: as far as the pieces have been gone through. -/
structure LX (w : World) (x : Cfg) (C N b1 b2 b5 : Nat) (SP SQ : Nat → Int) (s : Z9) (F : Nat → PP) (G : Nat → CP) (w' : World) : Prop where
  li : LI w x C N (fun _ => False) s.bar b1 b2 b5 F G s.T s.D w'
  fp : ∀ i, (F i).lock = s.lo i ∧ (F i).save = s.sa i ∧ (F i).state = s.st i ∧ (F i).root = s.rt i
  gp : ∀ i, (G i).lock = s.cl i ∧ (G i).stage = s.cs i
  sp : ∀ i, (G i).sp = SP i ∧ (G i).sq = SQ i
  pw : ∀ i j, i < x.ps.length → j < x.ps.length → i ≠ j → ∀ k, (F i).tv.ownBlock = some k → (F j).tv.ownBlock ≠ some k
  cw : ∀ i j, i < x.hs.length → j < x.hs.length → i ≠ j → ∀ k, (G i).dv.ownBlock = some k → (G j).dv.ownBlock ≠ some k

section
variable {w w' w'' : World} {x : Cfg} {C N b1 b2 b5 : Nat} {SP SQ : Nat → Int} {s : Z9} {F : Nat → PP} {G : Nat → CP} {a : Int} {T : Nat → List Int} {D : Nat → List Dst} {S : Nat → Prop}
theorem LI.setB (h : LI w x C N S a b1 b2 b5 F G T D w') (z : Int) : LI w x C N S z b1 b2 b5 F G T D (w'.setCell ⟨b5, 0, none⟩ (.int .i64 z)) := by
  have hK : Keeps (fun k => k = b5) w' (w'.setCell ⟨b5, 0, none⟩ (.int .i64 z)) := (Keeps.refl _ _).setCell _ _ fun _ => rfl
  obtain ⟨h1, h2, h3, h4, h5, h6, h7⟩ := h.wr (.inr (.inr rfl)) hK
  have hne := h.ne
  exact ⟨h1, h2, h3, h4, h.cw, h.n, h.low, h5, h.l.setCell 0 _, h.p.kept hK (fun e => hne.2.1 e.symm), h.c.kept hK (fun e => hne.2.2 e.symm), h.lo, h.ne, fun i hi => ⟨h6 i hi, (h.tr i hi).2⟩, fun i hi => ⟨h7 i hi, (h.dr i hi).2⟩⟩
theorem LI.setP (h : LI w x C N S a b1 b2 b5 F G T D w') {j k : Nat} (hj : j < x.ps.length) (hk : k < 5) (z : Int) (v : PP) (hv : (F j).vs.set k (.int .i64 z) = v.vs) (ht : v.tv = (F j).tv) : LI w x C N S a b1 b2 b5 (upd F j v) G T D (w'.setCell ⟨b1, j * 5 + k, none⟩ (.int .i64 z)) := by
  have hK : Keeps (fun k => k = b1) w' (w'.setCell ⟨b1, j * 5 + k, none⟩ (.int .i64 z)) := (Keeps.refl _ _).setCell _ _ fun _ => rfl
  have hB := h.p.setCell (j * 5 + k) (.int .i64 z)
  rw [row5_set (F := fun i => (F i).vs) (fun i => PP.vs5 _) hj hk] at hB
  have hB2 : Blk (w'.setCell ⟨b1, j * 5 + k, none⟩ (.int .i64 z)) b1 (row5 (upd (fun i => (F i).vs) j v.vs) x.ps.length) 70 := by rw [← hv]; exact hB
  have := h.putP hj v (T j) hK hB2 (by rw [ht]; exact (h.tr j hj).1.own_kept eInt_bl hK fun k hk e => ((h.tr j hj).2 k hk).1 e) (by rw [ht]; exact (h.tr j hj).2)
  rwa [show upd T j (T j) = T from by funext i; unfold upd; split <;> simp_all] at this
theorem LI.setC (h : LI w x C N S a b1 b2 b5 F G T D w') {j k : Nat} (hj : j < x.hs.length) (hk : k < 5) (z : Int) (v : CP) (hv : (G j).vs.set k (.int .i64 z) = v.vs) (ht : v.dv = (G j).dv) : LI w x C N S a b1 b2 b5 F (upd G j v) T D (w'.setCell ⟨b2, j * 5 + k, none⟩ (.int .i64 z)) := by
  have hK : Keeps (fun k => k = b2) w' (w'.setCell ⟨b2, j * 5 + k, none⟩ (.int .i64 z)) := (Keeps.refl _ _).setCell _ _ fun _ => rfl
  have hB := h.c.setCell (j * 5 + k) (.int .i64 z)
  rw [row5_set (F := fun i => (G i).vs) (fun i => CP.vs5 _) hj hk] at hB
  have hB2 : Blk (w'.setCell ⟨b2, j * 5 + k, none⟩ (.int .i64 z)) b2 (row5 (upd (fun i => (G i).vs) j v.vs) x.hs.length) 63 := by rw [← hv]; exact hB
  have := h.putC hj v (D j) hK hB2 (by rw [ht]; exact (h.dr j hj).1.own_kept eDst_bl hK fun k hk e => ((h.dr j hj).2 k hk).2.1 e) (by rw [ht]; exact (h.dr j hj).2)
  rwa [show upd D j (D j) = D from by funext i; unfold upd; split <;> simp_all] at this
theorem own_upd {f : Nat → PP} {j : Nat} {v : PP} (ht : v.tv = (f j).tv) (i : Nat) : (upd f j v i).tv = (f i).tv := by
  unfold upd; split
  · next e => rw [e, ht]
  · rfl
theorem own_updC {f : Nat → CP} {j : Nat} {v : CP} (ht : v.dv = (f j).dv) (i : Nat) : (upd f j v i).dv = (f i).dv := by
  unfold upd; split
  · next e => rw [e, ht]
  · rfl
theorem LX.grow (h : LX w x C N b1 b2 b5 SP SQ s F G w') (hK : Keeps (fun _ => False) w' w'') : LX w x C N b1 b2 b5 SP SQ s F G w'' := ⟨h.li.grow hK, h.fp, h.gp, h.sp, h.pw, h.cw⟩
theorem LX.en (h : LX w x C N b1 b2 b5 SP SQ s F G w') (z : Int) (c : Nat) : LX w x C N b1 b2 b5 SP SQ { s with en := z, ch := c } F G w' := ⟨h.li, h.fp, h.gp, h.sp, h.pw, h.cw⟩
theorem LX.setB (h : LX w x C N b1 b2 b5 SP SQ s F G w') (z : Int) : LX w x C N b1 b2 b5 SP SQ { s with bar := z } F G (w'.setCell ⟨b5, 0, none⟩ (.int .i64 z)) := ⟨h.li.setB z, h.fp, h.gp, h.sp, h.pw, h.cw⟩
theorem LX.setP (h : LX w x C N b1 b2 b5 SP SQ s F G w') {j k : Nat} (hj : j < x.ps.length) (hk : k < 5) (z : Int) (v : PP) (hv : (F j).vs.set k (.int .i64 z) = v.vs) (ht : v.tv = (F j).tv) (r : Z9) (hr : r.bar = s.bar ∧ r.T = s.T ∧ r.D = s.D ∧ r.cl = s.cl ∧ r.cs = s.cs)
    (hf : ∀ i, (upd F j v i).lock = r.lo i ∧ (upd F j v i).save = r.sa i ∧ (upd F j v i).state = r.st i ∧ (upd F j v i).root = r.rt i) : LX w x C N b1 b2 b5 SP SQ r (upd F j v) G (w'.setCell ⟨b1, j * 5 + k, none⟩ (.int .i64 z)) := by
  obtain ⟨r1, r2, r3, r4, r5⟩ := hr
  refine ⟨?_, hf, fun i => by rw [r4, r5]; exact h.gp i, h.sp, fun i m hi hm hne b hb => ?_, h.cw⟩
  · rw [r1, r2, r3]; exact h.li.setP hj hk z v hv ht
  · rw [own_upd ht] at hb ⊢
    exact h.pw i m hi hm hne b hb
theorem LX.setC (h : LX w x C N b1 b2 b5 SP SQ s F G w') {j k : Nat} (hj : j < x.hs.length) (hk : k < 5) (z : Int) (v : CP) (hv : (G j).vs.set k (.int .i64 z) = v.vs) (ht : v.dv = (G j).dv) (r : Z9) (hr : r.bar = s.bar ∧ r.T = s.T ∧ r.D = s.D ∧ r.lo = s.lo ∧ r.sa = s.sa ∧ r.st = s.st ∧ r.rt = s.rt) (SP' SQ' : Nat → Int)
    (hf : ∀ i, (upd G j v i).lock = r.cl i ∧ (upd G j v i).stage = r.cs i) (hs : ∀ i, (upd G j v i).sp = SP' i ∧ (upd G j v i).sq = SQ' i) : LX w x C N b1 b2 b5 SP' SQ' r F (upd G j v) (w'.setCell ⟨b2, j * 5 + k, none⟩ (.int .i64 z)) := by
  obtain ⟨r1, r2, r3, r4, r5, r6, r7⟩ := hr
  refine ⟨?_, fun i => by rw [r4, r5, r6, r7]; exact h.fp i, hf, hs, h.pw, fun i m hi hm hne b hb => ?_⟩
  · rw [r1, r2, r3]; exact h.li.setC hj hk z v hv ht
  · rw [own_updC ht] at hb ⊢
    exact h.cw i m hi hm hne b hb
/-- A destination more. -/
theorem LX.appD (h : LX w x C N b1 b2 b5 SP SQ s F G w') {j : Nat} (hj : j < x.hs.length) (d : Dst) (hl : (s.D j).length < 1000000) :
    ∃ v' W', (∀ ty, (Builtin.append_ #[61, 61] ty #[(G j).dv, .slice (some ⟨w'.heap.size, 0, none⟩) 1 1]).run Try.prog (w'.alloc (.cells d.vs.toArray 72)) = .ok v' W') ∧ Keeps (fun k => some k = (G j).dv.ownBlock) w' W' ∧ (∃ ad cp, v' = .slice ad ((s.D j).length + 1) cp) ∧
      W'.cell? ⟨b2, j * 5 + 4, none⟩ = some (G j).dv ∧ W'.frozen? ⟨b2, j * 5 + 4, none⟩ = false ∧
      LX w x C N b1 b2 b5 SP SQ { s with D := upd s.D j (s.D j ++ [d]) } F (upd G j { G j with dv := v' }) (W'.setCell ⟨b2, j * 5 + 4, none⟩ v') := by
  have hdr := h.li.dr j hj
  have hsz := h.li.sz
  obtain ⟨v', W', r1, r2, r3, r4⟩ := dst_app2 d hdr.1 hsz hl
  obtain ⟨ad, cp, hv, _⟩ := r2.lst
  rw [List.length_append] at hv
  have hlo : ∀ k, some k = (G j).dv.ownBlock → C + 2 ≤ k := fun k e => hdr.1.low k e.symm
  have hnb : ∀ k, some k = (G j).dv.ownBlock → k ≠ b1 ∧ k ≠ b2 ∧ k ≠ b5 := fun k e => hdr.2 k e.symm
  have hcw := h.li.cw
  have hn := h.li.n
  have hlb := h.li.lo
  have hne := h.li.ne
  have hc3 := h.li.c.kept r3 fun e => (hnb _ e).2.1 rfl
  have ks : Keeps (fun k => k = b2) W' (W'.setCell ⟨b2, j * 5 + 4, none⟩ v') := (Keeps.refl _ _).setCell _ _ fun _ => rfl
  have hK : Keeps (fun k => some k = (G j).dv.ownBlock ∨ k = b2) w' (W'.setCell ⟨b2, j * 5 + 4, none⟩ v') := (r3.mono fun _ _ e => .inl e).trans (ks.mono fun _ _ e => .inr e) fun _ _ e => e
  have hlow : ∀ k, (some k = (G j).dv.ownBlock ∨ k = b2) → C + 2 ≤ k := fun k e => by
    rcases e with e | e
    · exact hlo k e
    · omega
  have hb2lt := h.li.c.lt
  refine ⟨v', W', r1, r3, ⟨ad, cp, hv⟩, hc3.cell (by rw [row5_get (fun i => CP.vs5 _) hj (by omega)]; rfl), hc3.frozen _, ?_⟩
  have hvb : ∀ k, v'.ownBlock = some k → k ≠ b1 ∧ k ≠ b2 ∧ k ≠ b5 := fun k e => by
    rcases r4 with r4 | ⟨m, r4, r5⟩
    · exact hnb k (by rw [← r4, e])
    · rw [r4] at e; cases e
      have q1 := h.li.p.lt
      have q3 := h.li.l.lt
      omega
  refine ⟨⟨h.li.cfg.kept hK fun e => by have := hlow _ e; omega, h.li.res.kept hK fun e => by have := hlow _ e; omega, h.li.kp.trans hK fun k hk e => by have := hlow _ e; omega, h.li.cin.below (hK.below (by omega) fun k e => by have := hlow _ e; omega), h.li.cw, h.li.n, h.li.low, Nat.le_trans hsz hK.size,
    h.li.l.kept hK fun e => ?_, h.li.p.kept hK fun e => ?_, ?_, h.li.lo, h.li.ne, fun i hi => ⟨?_, (h.li.tr i hi).2⟩, fun i hi => ?_⟩, h.fp, fun i => ?_, fun i => ?_, h.pw, fun i m hi hm hne b hb => ?_⟩
  · rcases e with e | e
    · exact (hnb _ e).2.2 rfl
    · exact hne.2.2 e
  · rcases e with e | e
    · exact (hnb _ e).1 rfl
    · exact hne.1 e
  · have hB := hc3.setCell (j * 5 + 4) v'
    rw [row5_set (F := fun i => (G i).vs) (fun i => CP.vs5 _) hj (by omega)] at hB
    rw [upd_vsC]
    exact hB
  · refine (h.li.tr i hi).1.own_kept eInt_bl hK fun k hk e => ?_
    rcases e with e | e
    · exact Row.ne (h.li.tr i hi).1 hdr.1 (by decide) k hk e.symm
    · exact ((h.li.tr i hi).2 k hk).2.1 e
  · show Row eDst _ (C + 2) (upd G j { G j with dv := v' } i).dv (upd s.D j (s.D j ++ [d]) i) ∧ ∀ k, (upd G j { G j with dv := v' } i).dv.ownBlock = some k → _
    by_cases e : i = j
    · subst e
      rw [upd_same, upd_same]
      exact ⟨r2.own_kept eDst_bl ks fun k hk e => (hvb k hk).2.1 e, hvb⟩
    · rw [upd_ne _ _ e, upd_ne _ _ e]
      refine ⟨(h.li.dr i hi).1.own_kept eDst_bl hK fun k hk e2 => ?_, (h.li.dr i hi).2⟩
      rcases e2 with e2 | e2
      · exact h.cw i j hi hj e k hk e2.symm
      · exact ((h.li.dr i hi).2 k hk).2.1 e2
  · have := h.gp i
    unfold upd
    split
    · next e => subst e; exact this
    · exact this
  · have := h.sp i
    unfold upd
    split
    · next e => subst e; exact this
    · exact this
  · by_cases e1 : i = j
    · subst e1
      rw [upd_same] at hb
      rw [upd_ne _ _ (fun e => hne e.symm)]
      rcases r4 with r4 | ⟨k, r4, r5⟩
      · exact h.cw i m hi hm hne b (by rw [← r4]; exact hb)
      · intro hb2
        rw [r4] at hb; cases hb
        have := (h.li.dr m hm).1.lt b hb2
        omega
    · rw [upd_ne _ _ e1] at hb
      by_cases e2 : m = j
      · subst e2
        rw [upd_same]
        rcases r4 with r4 | ⟨k, r4, r5⟩
        · rw [r4]; exact h.cw i m hi hm hne b hb
        · intro hb2
          rw [r4] at hb2; cases hb2
          have := (h.li.dr i hi).1.lt b hb
          omega
      · rw [upd_ne _ _ e2]
        exact h.cw i m hi hm hne b hb
/-- A table more. -/
theorem LX.appT (h : LX w x C N b1 b2 b5 SP SQ s F G w') {j : Nat} (hj : j < x.ps.length) (d : Int) (hl : (s.T j).length < 1000000) :
    ∃ v' W', (∀ ty, (Builtin.append_ #[68, 68] ty #[(F j).tv, .slice (some ⟨w'.heap.size, 0, none⟩) 1 1]).run Try.prog (w'.alloc (.cells #[.int .i64 d] 3)) = .ok v' W') ∧ Keeps (fun k => some k = (F j).tv.ownBlock) w' W' ∧ (∃ ad cp, v' = .slice ad ((s.T j).length + 1) cp) ∧
      W'.cell? ⟨b1, j * 5 + 4, none⟩ = some (F j).tv ∧ W'.frozen? ⟨b1, j * 5 + 4, none⟩ = false ∧
      LX w x C N b1 b2 b5 SP SQ { s with T := upd s.T j (s.T j ++ [d]) } (upd F j { F j with tv := v' }) G (W'.setCell ⟨b1, j * 5 + 4, none⟩ v') := by
  have hdr := h.li.tr j hj
  have hsz := h.li.sz
  obtain ⟨v', W', r1, r2, r3, r4⟩ := int_app2 d hdr.1 hsz hl
  obtain ⟨ad, cp, hv, _⟩ := r2.lst
  rw [List.length_append] at hv
  have hlo : ∀ k, some k = (F j).tv.ownBlock → C + 2 ≤ k := fun k e => hdr.1.low k e.symm
  have hnb : ∀ k, some k = (F j).tv.ownBlock → k ≠ b1 ∧ k ≠ b2 ∧ k ≠ b5 := fun k e => hdr.2 k e.symm
  have hcw := h.li.cw
  have hn := h.li.n
  have hlb := h.li.lo
  have hne := h.li.ne
  have hc3 := h.li.p.kept r3 fun e => (hnb _ e).1 rfl
  have ks : Keeps (fun k => k = b1) W' (W'.setCell ⟨b1, j * 5 + 4, none⟩ v') := (Keeps.refl _ _).setCell _ _ fun _ => rfl
  have hK : Keeps (fun k => some k = (F j).tv.ownBlock ∨ k = b1) w' (W'.setCell ⟨b1, j * 5 + 4, none⟩ v') := (r3.mono fun _ _ e => .inl e).trans (ks.mono fun _ _ e => .inr e) fun _ _ e => e
  have hlow : ∀ k, (some k = (F j).tv.ownBlock ∨ k = b1) → C + 2 ≤ k := fun k e => by
    rcases e with e | e
    · exact hlo k e
    · omega
  refine ⟨v', W', r1, r3, ⟨ad, cp, hv⟩, hc3.cell (by rw [row5_get (fun i => PP.vs5 _) hj (by omega)]; rfl), hc3.frozen _, ?_⟩
  have hvb : ∀ k, v'.ownBlock = some k → k ≠ b1 ∧ k ≠ b2 ∧ k ≠ b5 := fun k e => by
    rcases r4 with r4 | ⟨m, r4, r5⟩
    · exact hnb k (by rw [← r4, e])
    · rw [r4] at e; cases e
      have q1 := h.li.p.lt
      have q2 := h.li.c.lt
      have q3 := h.li.l.lt
      omega
  refine ⟨⟨h.li.cfg.kept hK fun e => by have := hlow _ e; omega, h.li.res.kept hK fun e => by have := hlow _ e; omega, h.li.kp.trans hK fun k hk e => by have := hlow _ e; omega, h.li.cin.below (hK.below (by omega) fun k e => by have := hlow _ e; omega), h.li.cw, h.li.n, h.li.low, Nat.le_trans hsz hK.size,
    h.li.l.kept hK fun e => ?_, ?_, h.li.c.kept hK fun e => ?_, h.li.lo, h.li.ne, fun i hi => ?_, fun i hi => ⟨?_, (h.li.dr i hi).2⟩⟩, fun i => ?_, h.gp, h.sp, fun i m hi hm hne b hb => ?_, h.cw⟩
  · rcases e with e | e
    · exact (hnb _ e).2.2 rfl
    · exact hne.2.1 e
  · have hB := hc3.setCell (j * 5 + 4) v'
    rw [row5_set (F := fun i => (F i).vs) (fun i => PP.vs5 _) hj (by omega)] at hB
    rw [upd_vs]
    exact hB
  · rcases e with e | e
    · exact (hnb _ e).2.1 rfl
    · exact hne.1 e.symm
  · show Row eInt _ (C + 2) (upd F j { F j with tv := v' } i).tv (upd s.T j (s.T j ++ [d]) i) ∧ ∀ k, (upd F j { F j with tv := v' } i).tv.ownBlock = some k → _
    by_cases e : i = j
    · subst e
      rw [upd_same, upd_same]
      exact ⟨r2.own_kept eInt_bl ks fun k hk e => (hvb k hk).1 e, hvb⟩
    · rw [upd_ne _ _ e, upd_ne _ _ e]
      refine ⟨(h.li.tr i hi).1.own_kept eInt_bl hK fun k hk e2 => ?_, (h.li.tr i hi).2⟩
      rcases e2 with e2 | e2
      · exact h.pw i j hi hj e k hk e2.symm
      · exact ((h.li.tr i hi).2 k hk).1 e2
  · refine (h.li.dr i hi).1.own_kept eDst_bl hK fun k hk e => ?_
    rcases e with e | e
    · exact Row.ne (h.li.dr i hi).1 hdr.1 (by decide) k hk e.symm
    · exact ((h.li.dr i hi).2 k hk).1 e
  · have := h.fp i
    unfold upd
    split
    · next e => subst e; exact this
    · exact this
  · by_cases e1 : i = j
    · subst e1
      rw [upd_same] at hb
      rw [upd_ne _ _ (fun e => hne e.symm)]
      rcases r4 with r4 | ⟨k, r4, r5⟩
      · exact h.pw i m hi hm hne b (by rw [← r4]; exact hb)
      · intro hb2
        rw [r4] at hb; cases hb
        have := (h.li.tr m hm).1.lt b hb2
        omega
    · rw [upd_ne _ _ e1] at hb
      by_cases e2 : m = j
      · subst e2
        rw [upd_same]
        rcases r4 with r4 | ⟨k, r4, r5⟩
        · rw [r4]; exact h.pw i m hi hm hne b hb
        · intro hb2
          rw [r4] at hb2; cases hb2
          have := (h.li.tr i hi).1.lt b hb
          omega
      · rw [upd_ne _ _ e2]
        exact h.pw i m hi hm hne b hb
end

end Go.Proofs.Ythaoopaafdgioab
