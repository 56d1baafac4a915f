import Derived.Test.YtekijhhpldnmnaaOa
import Derived.Deep.AppendSrc
namespace Go.Proofs.Ytekijhhpldnmnaa
open Go.RowKit
set_option linter.unusedVariables false
set_option linter.unusedSimpArgs false

/-! ### A stage and a port one behind the other -/
structure Two (n d : Nat) (xs : List UInt32) (s r : Rw) : Prop where
  st : Lies xs 0 1 n d s
  pt : Lies xs (rsz 1 n d) 3 n d r

section
variable {n d : Nat} {xs : List UInt32} {s r : Rw}

theorem Two.put (t : Two n d xs s r) (hs : s.ms.length < d) {m : List UInt32} (hm : 1 ≤ m.length ∧ m.length ≤ n) : Two n d (lay xs 0 (enc 1 n d (s.push m))) (s.push m) r := by
  have hok := t.st.ok.push hs hm
  have hl := enc_length (.inl rfl) hok
  have hz := rsz_nat 1 n d
  have f1 := t.st.fit
  have f3 := t.pt.fit
  have hx : (lay xs 0 (enc 1 n d (s.push m))).length = xs.length := lay_length _ _ _ (by rw [hl]; omega)
  refine ⟨⟨t.st.n1, t.st.n2, t.st.d1, t.st.d2, by rw [hx]; exact f1, hok, ?_⟩, ⟨t.st.n1, t.st.n2, t.st.d1, t.st.d2, by rw [hx]; exact f3, t.pt.ok, ?_⟩⟩
  · have := win_lay_same xs 0 (enc 1 n d (s.push m)) (by rw [hl]; omega)
    rw [hl, ← hz] at this
    exact this
  · rw [win_lay_apart _ _ _ _ _ (by rw [hl]; omega) (.inl (by rw [hl]; omega))]
    exact t.pt.enc
theorem Two.port (t : Two n d xs s r) {r' : Rw} (hok : r'.Ok 3 n d) : Two n d (lay xs (rsz 1 n d) (enc 3 n d r')) s r' := by
  have hl := enc_length (.inr rfl) hok
  have hz := rsz_nat 3 n d
  have f1 := t.st.fit
  have f3 := t.pt.fit
  have hx : (lay xs (rsz 1 n d) (enc 3 n d r')).length = xs.length := lay_length _ _ _ (by rw [hl]; omega)
  refine ⟨⟨t.st.n1, t.st.n2, t.st.d1, t.st.d2, by rw [hx]; exact f1, t.st.ok, ?_⟩, ⟨t.st.n1, t.st.n2, t.st.d1, t.st.d2, by rw [hx]; exact f3, hok, ?_⟩⟩
  · rw [win_lay_apart _ _ _ _ _ (by rw [hl]; omega) (.inr (by omega))]
    exact t.st.enc
  · have := win_lay_same xs (rsz 1 n d) (enc 3 n d r') (by rw [hl]; omega)
    rw [hl, ← hz] at this
    exact this
theorem enc_none : enc 1 n d ⟨0, [], 0⟩ = List.replicate (rsz 1 n d) 0 := by
  rw [rsz_nat]
  unfold enc
  have e : plsW n d 0 [] = List.replicate d (List.replicate (1 + n) 0) := by
    unfold plsW
    rw [List.eq_replicate_iff]
    refine ⟨by simp, fun b hb => ?_⟩
    obtain ⟨k, _, rfl⟩ := List.mem_map.1 hb
    rfl
  show [UInt32.ofNat 0] ++ (plsW n d 0 []).flatten = _
  rw [e, List.flatten_replicate_replicate]
  rw [Nat.add_comm 1 (d * (1 + n)), List.replicate_succ]
  rfl
theorem none_ok (hd : 1 ≤ d) (h : Nat) : (⟨0, [], 0⟩ : Rw).Ok h n d := ⟨by show 0 < d; omega, Nat.zero_le _, fun _ => rfl, fun m hm => (by cases hm), fun _ => ⟨rfl, rfl⟩⟩
theorem Two.empty (t : Two n d xs s r) : Two n d (lay xs 0 (List.replicate (rsz 1 n d) 0)) ⟨0, [], 0⟩ r := by
  have hok : (⟨0, [], 0⟩ : Rw).Ok 1 n d := none_ok t.st.d1 1
  have hl := enc_length (.inl rfl) hok
  have hz := rsz_nat 1 n d
  have f1 := t.st.fit
  have f3 := t.pt.fit
  rw [← enc_none]
  have hx : (lay xs 0 (enc 1 n d ⟨0, [], 0⟩)).length = xs.length := lay_length _ _ _ (by rw [hl]; omega)
  refine ⟨⟨t.st.n1, t.st.n2, t.st.d1, t.st.d2, by rw [hx]; exact f1, hok, ?_⟩, ⟨t.st.n1, t.st.n2, t.st.d1, t.st.d2, by rw [hx]; exact f3, t.pt.ok, ?_⟩⟩
  · have := win_lay_same xs 0 (enc 1 n d ⟨0, [], 0⟩) (by rw [hl]; omega)
    rw [hl, ← hz] at this
    exact this
  · rw [win_lay_apart _ _ _ _ _ (by rw [hl]; omega) (.inl (by rw [hl]; omega))]
    exact t.pt.enc

/-- What a frame's end makes of the messages that wait and of how many were lost. -/
def dlvW (d : Nat) (x : List (List UInt32) × Nat) (ms : List (List UInt32)) : List (List UInt32) × Nat := ms.foldl (fun x m => if x.1.length < d then (x.1 ++ [m], x.2) else (x.1, x.2 + 1)) x
theorem dlvW_snoc (d : Nat) (x : List (List UInt32) × Nat) (ms : List (List UInt32)) (j : Nat) (m : List UInt32) (h : ms[j]? = some m) : dlvW d x (ms.take (j + 1)) = if (dlvW d x (ms.take j)).1.length < d then ((dlvW d x (ms.take j)).1 ++ [m], (dlvW d x (ms.take j)).2) else ((dlvW d x (ms.take j)).1, (dlvW d x (ms.take j)).2 + 1) := by
  unfold dlvW
  rw [List.take_add_one, h, List.foldl_append]
  rfl
theorem dlvW_bring (o : r.Ok 3 n d) (lost : Nat) (hl : r.lost.toNat = lost) (ms : List (List UInt32)) (hm : ∀ m ∈ ms, 1 ≤ m.length ∧ m.length ≤ n) (hb : lost + ms.length < 4294967295) :
    (bringN d r ms).ms = (dlvW d (r.ms, lost) ms).1 ∧ (bringN d r ms).lost.toNat = (dlvW d (r.ms, lost) ms).2 ∧ (dlvW d (r.ms, lost) ms).2 ≤ lost + ms.length := by
  induction ms generalizing r lost with
  | nil => exact ⟨rfl, hl, Nat.le_refl _⟩
  | cons m ms ih =>
    have hm1 := hm m (by simp)
    have hb2 : lost + ms.length + 1 < 4294967295 := by simp at hb; omega
    show (bringN d (r.bring d m) ms).ms = (dlvW d (if r.ms.length < d then (r.ms ++ [m], lost) else (r.ms, lost + 1)) ms).1 ∧ _
    have hfold : dlvW d (r.ms, lost) (m :: ms) = dlvW d (if r.ms.length < d then (r.ms ++ [m], lost) else (r.ms, lost + 1)) ms := rfl
    have hbr : bringN d r (m :: ms) = bringN d (r.bring d m) ms := rfl
    rw [hfold, hbr]
    by_cases hc : r.ms.length < d
    · have e1 : r.bring d m = r.push m := by unfold Rw.bring; rw [if_neg (by omega)]
      rw [if_pos hc, e1]
      have := ih (o.push hc hm1) lost hl (fun k hk => hm k (by simp [hk])) (by omega)
      exact ⟨this.1, this.2.1, Nat.le_trans this.2.2 (by simp)⟩
    · have e1 : r.bring d m = r.lose := by unfold Rw.bring; rw [if_pos (by have := o.m; omega)]
      rw [if_neg hc, e1]
      have e2 : r.lose.lost.toNat = lost + 1 := by
        unfold Rw.lose
        simp only
        rw [if_pos (by omega), UInt32.toNat_add, hl]
        show (lost + 1) % 4294967296 = _
        omega
      have := ih (o.lose) (lost + 1) e2 (fun k hk => hm k (by simp [hk])) (by omega)
      exact ⟨this.1, this.2.1, Nat.le_trans this.2.2 (by simp; omega)⟩
end

/-! ### Rows of lists that begin anywhere in their block -/
def RowO (w : World) (v : Value) (vals : List Value) : Prop :=
  (v = .slice none 0 0 ∧ vals = []) ∨ ∃ g o cap l, v = .slice (some ⟨g, o, none⟩) vals.length cap ∧ Blk w g l 22 ∧ o + cap ≤ l.length ∧ vals.length ≤ cap ∧ cap ≤ maxLen ∧ ∀ j u, vals[j]? = some u → l[o + j]? = some u
/-- Its block. -/
def blkO (v : Value) : Option Nat := match v with | .slice (some a) _ _ => some a.block | _ => none
theorem RowO.kept {S : Nat → Prop} {w w' : World} {v : Value} {vals : List Value} (h : RowO w v vals) (k : Keeps S w w') (hn : ∀ b, blkO v = some b → ¬ S b) : RowO w' v vals := by
  rcases h with h | ⟨g, o, cap, l, rfl, hb, h1⟩
  · exact .inl h
  · exact .inr ⟨g, o, cap, l, rfl, hb.kept k (hn g rfl), h1⟩
theorem RowO.form {w : World} {v : Value} {vals : List Value} (h : RowO w v vals) : ∃ a c, v = .slice a vals.length c ∧ c ≤ maxLen ∧ vals.length ≤ c ∧ ∀ b, blkO v = some b → b < w.heap.size := by
  rcases h with ⟨rfl, rfl⟩ | ⟨g, o, cap, l, rfl, hb, h1⟩
  · exact ⟨none, 0, rfl, Nat.zero_le _, by simp, fun b h => by cases h⟩
  · exact ⟨_, cap, rfl, h1.2.2.1, h1.2.1, fun b h => by cases h; exact hb.lt⟩
theorem RowO.at {w : World} {a : Option Addr} {n c : Nat} {vals : List Value} (h : RowO w (.slice a n c) vals) {j : Nat} {u : Value} (hj : vals[j]? = some u) : ∃ g o, a = some ⟨g, o, none⟩ ∧ w.cell? ⟨g, o + j, none⟩ = some u := by
  rcases h with ⟨_, rfl⟩ | ⟨g, o, cap, l, e, hb, h1, h2, h3, h4⟩
  · simp at hj
  · cases e
    exact ⟨g, o, rfl, hb.cell (h4 j u hj)⟩
/-- Without its first one. -/
theorem RowO.tail {w : World} {g o n c : Nat} {u : Value} {vals : List Value} (h : RowO w (.slice (some ⟨g, o, none⟩) n c) (u :: vals)) : RowO w (.slice (some ⟨g, if c = 1 then o else o + 1, none⟩) vals.length (c - 1)) vals := by
  rcases h with ⟨h, _⟩ | ⟨g', o', cap, l, e, hb, h1, h2, h3, h4⟩
  · cases h
  · cases e
    simp at h2
    by_cases hc : c = 1
    · subst hc
      obtain rfl : vals = [] := List.eq_nil_of_length_eq_zero (by omega)
      exact .inr ⟨g, o, 0, l, by simp, hb, by omega, by simp, Nat.zero_le _, fun j u hj => by simp at hj⟩
    · rw [if_neg hc]
      exact .inr ⟨g, o + 1, c - 1, l, rfl, hb, by omega, by omega, by omega, fun j u hj => by
        have := h4 (j + 1) u (by simpa using hj)
        rw [Nat.add_assoc, Nat.add_comm 1 j]; exact this⟩

theorem Try.info22 : (Try.prog.info? 22).map (fun i => (i.zero, i.size, i.bytes)) = some (some (.slice none 0 0), 1, 24) := by kernel_rfl

theorem grown_rowO (W : World) (vals : List Value) (x : Value) (old : Nat) (hl : vals.length ≤ 1000) :
    RowO (W.drew.alloc (.cells (vals.toArray ++ #[x] ++ Builtin.zeroCells (Value.slice none 0 0).cells (grownCap W (vals.length + 1) old 22 - (vals.length + 1))) 22)) (.slice (some ⟨W.heap.size, 0, none⟩) (vals.length + 1) (grownCap W (vals.length + 1) old 22)) (vals ++ [x]) ∧
      Keeps (fun _ => False) W (W.drew.alloc (.cells (vals.toArray ++ #[x] ++ Builtin.zeroCells (Value.slice none 0 0).cells (grownCap W (vals.length + 1) old 22 - (vals.length + 1))) 22)) := by
  have hge := grownCap_ge W (vals.length + 1) old 22
  have hcm : grownCap W (vals.length + 1) old 22 ≤ maxLen := grownCap_le_maxLen W (vals.length + 1) old 22 (by unfold maxLen; omega)
  have hb := Blk.new W.drew (vals.toArray ++ #[x] ++ Builtin.zeroCells (Value.slice none 0 0).cells (grownCap W (vals.length + 1) old 22 - (vals.length + 1))) 22
  have hzs : (Builtin.zeroCells (Value.slice none 0 0).cells (grownCap W (vals.length + 1) old 22 - (vals.length + 1))).size = grownCap W (vals.length + 1) old 22 - (vals.length + 1) := by
    rw [size_zeroCells]; exact Nat.mul_one _
  refine ⟨.inr ⟨W.heap.size, 0, grownCap W (vals.length + 1) old 22, _, by rw [List.length_append]; rfl, hb, ?_, by rw [List.length_append]; exact hge, hcm, fun j u hj => ?_⟩, (Keeps.refl _ W).drew.alloc _⟩
  · have e : (vals.toArray ++ #[x] ++ Builtin.zeroCells (Value.slice none 0 0).cells (grownCap W (vals.length + 1) old 22 - (vals.length + 1))).toList.length = vals.length + 1 + (grownCap W (vals.length + 1) old 22 - (vals.length + 1)) := by
      rw [Array.toList_append, List.length_append, Array.length_toList (xs := Builtin.zeroCells _ _), hzs]; simp
    rw [e]; omega
  · rw [Nat.zero_add, Array.toList_append]
    have : (vals.toArray ++ #[x]).toList = vals ++ [x] := by simp
    rw [this, List.getElem?_append_left (List.getElem?_eq_some_iff.1 hj).1]
    exact hj

theorem append_row22 {w : World} (x : Value) (hx1 : x.oneCell' = true) (v : Value) (vals : List Value) (h : RowO w v vals) (hl : vals.length ≤ 1000) :
    ∃ v' W', (∀ ty, (Builtin.append_ #[43, 43] ty #[v, .slice (some ⟨w.heap.size, 0, none⟩) 1 1]).run Try.prog (w.alloc (.cells #[x] 22)) = .ok v' W') ∧ RowO W' v' (vals ++ [x]) ∧
      (blkO v' = blkO v ∨ ∃ k, blkO v' = some k ∧ w.heap.size ≤ k) ∧ Keeps (fun k => some k = blkO v) w W' := by
  obtain ⟨i0, hi, hz0, hz1, hz2⟩ := info_parts Try.info22
  obtain ⟨W, hW⟩ : ∃ W, W = w.alloc (.cells #[x] 22) := ⟨_, rfl⟩
  have hK : Keeps (fun _ => False) w W := by rw [hW]; exact (Keeps.refl _ w).alloc _
  have hB : Blk W w.heap.size [x] 22 := by rw [hW]; exact Blk.new w _ 22
  have hsz : W.heap.size = w.heap.size + 1 := by rw [hW]; simp
  have hnl : ([x] : List Value).length = 1 * i0.size := by rw [hz1]; rfl
  have hnc : ∀ j u, ([x] : List Value)[j]? = some u → W.cell? ((⟨w.heap.size, 0, none⟩ : Addr).add j) = some u := fun j u hj => by
    rw [addr_add]
    exact hB.cell (by rw [Nat.zero_add]; exact hj)
  rw [← hW]
  rcases h with ⟨rfl, rfl⟩ | ⟨g, o, cap, l, rfl, hb, h1, h2, h3, h4⟩
  · have hr := fun ty => run_append_nil (P := Try.prog) W 43 ty 22 i0 (.slice none 0 0) Try.underlying43 hi hz0 ⟨w.heap.size, 0, none⟩ 1 1 [x] hnl hnc (by omega) (by omega) (by rw [hz2]; omega)
    obtain ⟨q1, q2⟩ := grown_rowO W [] x 0 (by simp)
    refine ⟨_, _, fun ty => (hr ty).trans ?_, q1, .inr ⟨W.heap.size, rfl, by omega⟩, (hK.none).trans q2 fun _ _ e => e.elim⟩
    simp
  · have hbW := hb.kept hK fun e => e
    by_cases hroom : vals.length + 1 ≤ cap
    · have hsrc : Src Try.prog i0.size 43 (.slice (some ⟨w.heap.size, 0, none⟩) 1 1) 1 [x] W := Src.ofSlice W Try.underlying43 ⟨w.heap.size, 0, none⟩ 1 1 [x] hnl hnc (by intro u hu; simp at hu; rw [hu]; exact hx1)
      have hr := fun ty => run_append_room_src (P := Try.prog) W 43 43 ty 22 i0 Try.underlying43 hi g o vals.length cap _ 1 [x] hsrc hroom (fun j hj => by
        obtain rfl : j = 0 := by simp at hj; omega
        rw [hz1, Nat.mul_one, Nat.add_zero]
        have : o + vals.length < l.length := by omega
        rw [hbW.cell (List.getElem?_eq_getElem this)]; rfl) (fun j hj => hbW.frozen _)
      have e : W.setCells g (o + vals.length * i0.size) [x] = W.setCell ⟨g, o + vals.length, none⟩ x := by
        rw [hz1, Nat.mul_one]
        simp [World.setCells]
      rw [e] at hr
      refine ⟨_, _, hr, .inr ⟨g, o, cap, _, by simp, hbW.setCell _ x, by simp; omega, by simp; omega, h3, fun j u hj => ?_⟩, .inl rfl, (hK.none).trans ((Keeps.refl (fun k => some k = some g) W).setCell _ _ fun _ => rfl) fun _ _ e => e⟩
      by_cases hjl : j < vals.length
      · rw [List.getElem?_append_left hjl] at hj
        rw [List.getElem?_set_ne (by omega)]
        exact h4 j u hj
      · have hj2 : j = vals.length := by have := (List.getElem?_eq_some_iff.1 hj).1; simp at this; omega
        subst hj2
        rw [List.getElem?_append_right (Nat.le_refl _), Nat.sub_self] at hj
        rw [List.getElem?_set_self (by omega)]
        exact hj
    · have holds : ∀ j u, vals[j]? = some u → W.cell? ((⟨g, o, none⟩ : Addr).add j) = some u := fun j u hj => by
        rw [addr_add]; exact hbW.cell (h4 j u hj)
      have hr := fun ty => run_append_grow (P := Try.prog) W 43 ty 22 i0 (.slice none 0 0) Try.underlying43 hi hz0 ⟨g, o, none⟩ vals.length cap vals (by rw [hz1, Nat.mul_one]) holds ⟨w.heap.size, 0, none⟩ 1 1 [x] hnl hnc (by omega) (by omega) (by rw [hz2]; exact growslice_fits (by omega) (by omega))
      obtain ⟨q1, q2⟩ := grown_rowO W vals x cap hl
      exact ⟨_, _, hr, q1, .inr ⟨W.heap.size, rfl, by omega⟩, (hK.none).trans q2 fun _ _ e => e.elim⟩

end Go.Proofs.Ytekijhhpldnmnaa
namespace Go.Proofs.Ytekijhhpldnmnaa
open Go.RowKit
set_option linter.unusedVariables false
set_option linter.unusedSimpArgs false

/-- A list's head, and what it holds. -/
structure Hd where
  a : Option Addr
  c : Nat
  ms : List UInt32
abbrev Hd.v (h : Hd) : Value := .slice h.a h.ms.length h.c
def hms (hs : List Hd) : List (List UInt32) := hs.map Hd.ms
def hvs (hs : List Hd) : List Value := hs.map Hd.v
theorem hms_length (hs : List Hd) : (hms hs).length = hs.length := by simp [hms]
theorem hvs_length (hs : List Hd) : (hvs hs).length = hs.length := by simp [hvs]
theorem hvs_get {hs : List Hd} {j : Nat} {h : Hd} (hj : hs[j]? = some h) : (hvs hs)[j]? = some h.v := by simp [hvs, hj]
theorem hms_get {hs : List Hd} {j : Nat} {h : Hd} (hj : hs[j]? = some h) : (hms hs)[j]? = some h.ms := by simp [hms, hj]

/-- While the row is played. -/
structure QI (w : World) (b g n d : Nat) (wr : World) (sv wv : Value) (sh wh : List Hd) (lost : Nat) : Prop where
  ex : ∃ xs s r, Mm wr b g xs ∧ Two n d xs s r ∧ s.ms = hms sh ∧ r.ms = hms wh ∧ r.lost.toNat = lost
  srow : RowO wr sv (hvs sh)
  wrow : RowO wr wv (hvs wh)
  seg : ∀ h, h ∈ sh ∨ h ∈ wh → SegW w h.a h.ms
  sb : ∀ k, blkO sv = some k → w.heap.size ≤ k ∧ k ≠ b ∧ k ≠ g
  wb : ∀ k, blkO wv = some k → w.heap.size ≤ k ∧ k ≠ b ∧ k ≠ g
  ap : ∀ k, blkO sv = some k → blkO wv ≠ some k
  bg : w.heap.size ≤ b ∧ w.heap.size ≤ g
  k : Keeps (fun k => w.heap.size ≤ k) w wr

section
variable {w wr w' : World} {b g n d : Nat} {sv wv : Value} {sh wh : List Hd} {lost : Nat}

/-- A call that changes the memory's words alone. -/
theorem QI.call (q : QI w b g n d wr sv wv sh wh lost) (k : Keeps (· = g) wr w') {xs : List UInt32} {s r : Rw} (hm : Mm w' b g xs) (ht : Two n d xs s r) (hs : s.ms = hms sh) (hr : r.ms = hms wh) (hl : r.lost.toNat = lost) : QI w b g n d w' sv wv sh wh lost :=
  ⟨⟨xs, s, r, hm, ht, hs, hr, hl⟩, q.srow.kept k fun b hb e => (q.sb b hb).2.2 e, q.wrow.kept k fun b hb e => (q.wb b hb).2.2 e, q.seg, q.sb, q.wb, q.ap, q.bg, q.k.trans k fun b hb e => by have := q.bg.2; omega⟩
theorem QI.grown (q : QI w b g n d wr sv wv sh wh lost) (k : Keeps (fun _ => False) wr w') : QI w b g n d w' sv wv sh wh lost := by
  obtain ⟨xs, s, r, hm, h⟩ := q.ex
  exact q.call k.none (hm.kept k (fun e => e) (fun e => e)) h.1 h.2.1 h.2.2.1 h.2.2.2
theorem QI.lens (q : QI w b g n d wr sv wv sh wh lost) : sh.length ≤ d ∧ wh.length ≤ d ∧ d ≤ 8 := by
  obtain ⟨xs, s, r, hm, ht, h1, h2, h3⟩ := q.ex
  have e1 := ht.st.ok.m
  have e2 := ht.pt.ok.m
  rw [h1, hms_length] at e1
  rw [h2, hms_length] at e2
  exact ⟨e1, e2, ht.st.d2⟩
/-- One more is staged. -/
theorem QI.stage (q : QI w b g n d wr sv wv sh wh lost) (x : Hd) (hx : SegW w x.a x.ms) {xs : List UInt32} {s r : Rw} {w1 : World} (k1 : Keeps (· = g) wr w1) (hm : Mm w1 b g xs) (ht : Two n d xs s r) (hs : s.ms = hms sh ++ [x.ms]) (hr : r.ms = hms wh) (hl : r.lost.toNat = lost) :
    ∃ v' W', (∀ ty, (Builtin.append_ #[43, 43] ty #[sv, .slice (some ⟨w1.heap.size, 0, none⟩) 1 1]).run Try.prog (w1.alloc (.cells #[x.v] 22)) = .ok v' W') ∧ QI w b g n d W' v' wv (sh ++ [x]) wh lost := by
  have hsr : RowO w1 sv (hvs sh) := q.srow.kept k1 fun b hb e => (q.sb b hb).2.2 e
  have hwr : RowO w1 wv (hvs wh) := q.wrow.kept k1 fun b hb e => (q.wb b hb).2.2 e
  obtain ⟨v', W', h1, h2, h3, h4⟩ := append_row22 x.v rfl sv (hvs sh) hsr (by rw [hvs_length]; have := q.lens; omega)
  have hw1 : w.heap.size ≤ w1.heap.size := Nat.le_trans q.k.size k1.size
  have hbl := hm.blk.lt
  have hgl := hm.row.lt
  obtain ⟨_, _, _, _, _, hwl⟩ := hwr.form
  have hnb : ∀ k, blkO v' = some k → w.heap.size ≤ k ∧ k ≠ b ∧ k ≠ g ∧ blkO wv ≠ some k := fun k hk => by
    rcases h3 with e | ⟨z, e, hz⟩
    · rw [e] at hk
      exact ⟨(q.sb k hk).1, (q.sb k hk).2.1, (q.sb k hk).2.2, q.ap k hk⟩
    · rw [e] at hk
      cases hk
      exact ⟨by omega, by omega, by omega, fun h => by have := hwl _ h; omega⟩
  refine ⟨v', W', h1, ⟨xs, s, r, hm.kept h4 (fun e => ?_) (fun e => ?_), ht, ?_, hr, hl⟩, ?_, hwr.kept h4 fun b hb e => ?_, ?_, fun k hk => ⟨(hnb k hk).1, (hnb k hk).2.1, (hnb k hk).2.2.1⟩, q.wb, fun k hk => (hnb k hk).2.2.2, q.bg, ?_⟩
  · exact (q.sb b e.symm).2.1 rfl
  · exact (q.sb g e.symm).2.2 rfl
  · rw [hs]; simp [hms]
  · have e : hvs (sh ++ [x]) = hvs sh ++ [x.v] := by simp [hvs]
    rw [e]; exact h2
  · exact q.ap b e.symm hb
  · intro h hh
    rcases hh with hh | hh
    · rcases List.mem_append.1 hh with hh | hh
      · exact q.seg h (.inl hh)
      · simp at hh; subst hh; exact hx
    · exact q.seg h (.inr hh)
  · exact (q.k.trans k1 fun b hb e => by have := q.bg.2; omega).trans h4 fun b hb e => (q.sb b e.symm).1
/-- The first one that waits goes. -/
theorem QI.taken {x : Hd} {wg wo wn wc : Nat} (q : QI w b g n d wr sv (.slice (some ⟨wg, wo, none⟩) wn wc) sh (x :: wh) lost) {xs : List UInt32} {s r : Rw} (k1 : Keeps (· = g) wr w') (hm : Mm w' b g xs) (ht : Two n d xs s r) (hs : s.ms = hms sh) (hr : r.ms = hms wh) (hl : r.lost.toNat = lost) :
    QI w b g n d w' sv (.slice (some ⟨wg, if wc = 1 then wo else wo + 1, none⟩) wh.length (wc - 1)) sh wh lost := by
  have hwr : RowO w' (.slice (some ⟨wg, wo, none⟩) wn wc) (hvs (x :: wh)) := q.wrow.kept k1 fun b hb e => (q.wb b hb).2.2 e
  have h2 : RowO w' _ (hvs wh) := hwr.tail (u := x.v) (vals := hvs wh)
  rw [hvs_length] at h2
  exact ⟨⟨xs, s, r, hm, ht, hs, hr, hl⟩, q.srow.kept k1 fun b hb e => (q.sb b hb).2.2 e, h2, fun h hh => q.seg h (hh.imp id fun e => by simp [e]), q.sb, q.wb, q.ap, q.bg, q.k.trans k1 fun b hb e => by have := q.bg.2; omega⟩
end

/-- While a frame's end goes through what is staged: the memory's port is ahead of what waits. -/
structure QD (w : World) (b g n d : Nat) (xs : List UInt32) (wr : World) (sv wv : Value) (sh wh : List Hd) : Prop where
  mm : Mm wr b g xs
  srow : RowO wr sv (hvs sh)
  wrow : RowO wr wv (hvs wh)
  seg : ∀ h, h ∈ sh ∨ h ∈ wh → SegW w h.a h.ms
  sb : ∀ k, blkO sv = some k → w.heap.size ≤ k ∧ k ≠ b ∧ k ≠ g
  wb : ∀ k, blkO wv = some k → w.heap.size ≤ k ∧ k ≠ b ∧ k ≠ g
  ap : ∀ k, blkO sv = some k → blkO wv ≠ some k
  bg : w.heap.size ≤ b ∧ w.heap.size ≤ g
  k : Keeps (fun k => w.heap.size ≤ k) w wr
theorem QD.wait {w wr : World} {b g n d : Nat} {xs : List UInt32} {sv wv : Value} {sh wh : List Hd} (q : QD w b g n d xs wr sv wv sh wh) (x : Hd) (hx : x ∈ sh) (hl : wh.length ≤ 1000) :
    ∃ v' W', (∀ ty, (Builtin.append_ #[43, 43] ty #[wv, .slice (some ⟨wr.heap.size, 0, none⟩) 1 1]).run Try.prog (wr.alloc (.cells #[x.v] 22)) = .ok v' W') ∧ QD w b g n d xs W' sv v' sh (wh ++ [x]) := by
  obtain ⟨v', W', h1, h2, h3, h4⟩ := append_row22 x.v rfl wv (hvs wh) q.wrow (by rw [hvs_length]; exact hl)
  have hbl := q.mm.blk.lt
  have hgl := q.mm.row.lt
  have hks := q.k.size
  obtain ⟨_, _, _, _, _, hsl⟩ := q.srow.form
  refine ⟨v', W', h1, q.mm.kept h4 (fun e => (q.wb b e.symm).2.1 rfl) (fun e => (q.wb g e.symm).2.2 rfl), q.srow.kept h4 (fun k hk e => q.ap k hk e.symm), ?_, ?_, q.sb, fun k hk => ?_, fun k hk e => ?_, q.bg, q.k.trans h4 fun b hb e => (q.wb b e.symm).1⟩
  · have e : hvs (wh ++ [x]) = hvs wh ++ [x.v] := by simp [hvs]
    rw [e]; exact h2
  · intro h hh
    rcases hh with hh | hh
    · exact q.seg h (.inl hh)
    · rcases List.mem_append.1 hh with hh | hh
      · exact q.seg h (.inr hh)
      · simp at hh; subst hh; exact q.seg h (.inl hx)
  · rcases h3 with e | ⟨z, e, hz⟩
    · rw [e] at hk; exact q.wb k hk
    · rw [e] at hk; cases hk; exact ⟨by omega, by omega, by omega⟩
  · rcases h3 with e2 | ⟨z, e2, hz⟩
    · rw [e2] at e; exact q.ap k hk e
    · rw [e2] at e; cases e; have := hsl _ hk; omega

end Go.Proofs.Ytekijhhpldnmnaa
