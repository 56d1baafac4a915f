import Derived.Test.YtadhldpeklkcmaaN
namespace Go.Proofs.Ytadhldpeklkcmaa
open Go.RowKit
set_option linter.unusedVariables false

structure A1 (N : Nat) (w wr : World) (mb g : Nat) (xs : List UInt32) (X : Chn) (l : Value) (L : List Int) : Prop where
  mm : Mm wr mb g xs
  ch : X.In wr
  row : wr.ownsRow 0 3 1 l L.length (ivs L)
  sep : Sep wr N (F5 (MF mb g) X.F (RF l) nF nF)
  keeps : Keeps (fun k => N ≤ k) w wr
  lk : X.lk = L
  nw : N = w.heap.size

theorem f0 {a b c d e : Nat → Prop} {k : Nat} (h : a k) : F5 a b c d e 0 k := .inl ⟨rfl, h⟩
theorem f1 {a b c d e : Nat → Prop} {k : Nat} (h : b k) : F5 a b c d e 1 k := .inr (.inl ⟨rfl, h⟩)
theorem f2 {a b c d e : Nat → Prop} {k : Nat} (h : c k) : F5 a b c d e 2 k := .inr (.inr (.inl ⟨rfl, h⟩))
theorem f3 {a b c d e : Nat → Prop} {k : Nat} (h : d k) : F5 a b c d e 3 k := .inr (.inr (.inr (.inl ⟨rfl, h⟩)))
theorem f4 {a b c d e : Nat → Prop} {k : Nat} (h : e k) : F5 a b c d e 4 k := .inr (.inr (.inr (.inr ⟨rfl, h⟩)))
theorem un1 {a b c d e : Nat → Prop} {k : Nat} (h : F5 a b c d e 1 k) : b k := by rcases h with ⟨h, _⟩ | ⟨_, h⟩ | ⟨h, _⟩ | ⟨h, _⟩ | ⟨h, _⟩ <;> first | omega | exact h
theorem un2 {a b c d e : Nat → Prop} {k : Nat} (h : F5 a b c d e 2 k) : c k := by rcases h with ⟨h, _⟩ | ⟨h, _⟩ | ⟨_, h⟩ | ⟨h, _⟩ | ⟨h, _⟩ <;> first | omega | exact h
theorem un3 {a b c d e : Nat → Prop} {k : Nat} (h : F5 a b c d e 3 k) : d k := by rcases h with ⟨h, _⟩ | ⟨h, _⟩ | ⟨h, _⟩ | ⟨_, h⟩ | ⟨h, _⟩ <;> first | omega | exact h
theorem un4 {a b c d e : Nat → Prop} {k : Nat} (h : F5 a b c d e 4 k) : e k := by rcases h with ⟨h, _⟩ | ⟨h, _⟩ | ⟨h, _⟩ | ⟨h, _⟩ | ⟨_, h⟩ <;> first | omega | exact h

/-- The chain behind a call. -/
def Chn.with (X : Chn) (vt : Value) (tk : List UInt32) (st : Nat) : Chn := ⟨X.b, X.vl, vt, X.lk, tk, st⟩
theorem Chn.with_F {X : Chn} {vt : Value} {tk : List UInt32} {st : Nat} {w : World} (h : vt.ownBlock = X.vt.ownBlock ∨ ∃ k, vt.ownBlock = some k ∧ w.heap.size ≤ k) {k : Nat} (hk : (X.with vt tk st).F k) : X.F k ∨ w.heap.size ≤ k := by
  rcases hk with hk | hk | hk
  · exact .inl (.inl hk)
  · exact .inl (.inr (.inl hk))
  · rcases h with e | ⟨k', e, h⟩
    · left; right; right; rw [← e]; exact hk
    · right
      have hk : vt.ownBlock = some k := hk
      rw [e] at hk; cases hk; exact h

theorem A1.grown {N : Nat} {w wr wr' : World} {mb g : Nat} {xs : List UInt32} {X : Chn} {l : Value} {L : List Int} (h : A1 N w wr mb g xs X l L) (k : Keeps (fun _ => False) wr wr') : A1 N w wr' mb g xs X l L :=
  ⟨h.mm.grown k, h.ch.grown k, owns_kept h.row k (fun _ _ e => e), h.sep.grown k.size, h.keeps.trans k (fun _ _ e => e.elim), h.lk, h.nw⟩

theorem A1.mem {N : Nat} {w wr wr' : World} {mb g : Nat} {xs ys : List UInt32} {X : Chn} {l : Value} {L : List Int} (h : A1 N w wr mb g xs X l L) (hm : Mm wr' mb g ys) (k : Keeps (· = g) wr wr') : A1 N w wr' mb g ys X l L := by
  refine ⟨hm, h.ch.kept k ?_, owns_kept h.row k ?_, h.sep.grown k.size, h.keeps.trans k ?_, h.lk, h.nw⟩
  · rintro x hx rfl
    have := h.sep.one 0 1 x (f0 (.inr rfl)) (f1 hx); omega
  · rintro x hx rfl
    have := h.sep.one 0 2 x (f0 (.inr rfl)) (f2 hx); omega
  · rintro b _ rfl
    exact h.sep.ge 0 b (f0 (.inr rfl))

theorem A1.low {N : Nat} {w wr : World} {mb g : Nat} {xs : List UInt32} {X : Chn} {l : Value} {L : List Int} (h : A1 N w wr mb g xs X l L) : Keeps (fun k => w.heap.size ≤ k) w wr := h.nw ▸ h.keeps

theorem A1.ng {N : Nat} {w wr : World} {mb g : Nat} {xs : List UInt32} {X : Chn} {l : Value} {L : List Int} (h : A1 N w wr mb g xs X l L) : ¬ X.F g ∧ ¬ X.F mb :=
  ⟨fun e => by have := h.sep.one 0 1 g (f0 (.inr rfl)) (f1 e); omega, fun e => by have := h.sep.one 0 1 mb (f0 (.inl rfl)) (f1 e); omega⟩

theorem A1.call {N : Nat} {w wr wr' : World} {mb g : Nat} {xs : List UInt32} {X : Chn} {l : Value} {L : List Int} {r : StepR} {e : Ending} (h : A1 N w wr mb g xs X l L) (hc : CallP X mb g r wr e wr') :
    ∃ vt, A1 N w wr' mb g r.xs (X.with vt r.tk r.st) l L := by
  obtain ⟨_, vt, hi, hm, hk, hf⟩ := hc
  refine ⟨vt, hm, hi, owns_kept h.row hk ?_, h.sep.upd 1 ?_ ?_ ?_ hk.size ?_, h.keeps.trans hk ?_, h.lk, h.nw⟩
  · rintro x hx (e | rfl)
    · have := h.sep.one 1 2 x (f1 e) (f2 hx); omega
    · have := h.sep.one 0 2 x (f0 (.inr rfl)) (f2 hx); omega
  · intro k hk'
    rcases Chn.with_F hf (un1 hk') with e | e
    · exact .inl (f1 e)
    · exact .inr e
  · intro k hk'
    exact hi.lt (un1 hk')
  · rintro j hj k (⟨rfl, h1⟩ | ⟨rfl, h1⟩ | ⟨rfl, h1⟩ | ⟨rfl, h1⟩ | ⟨rfl, h1⟩)
    · exact f0 h1
    · omega
    · exact f2 h1
    · exact f3 h1
    · exact f4 h1
  · have := h.keeps.size; have := h.nw; omega
  · rintro b _ (e | rfl)
    · exact h.sep.ge 1 b (f1 e)
    · exact h.sep.ge 0 b (f0 (.inr rfl))

/-- Between the two calls: the first pair is further than the second. -/
structure A3 (N : Nat) (w wr : World) (mb g mb2 g2 : Nat) (xs ys : List UInt32) (X D : Chn) : Prop where
  mm : Mm wr mb g xs
  ch : X.In wr
  mm2 : Mm wr mb2 g2 ys
  ch2 : D.In wr
  sep : Sep wr N (F5 (MF mb g) X.F nF (MF mb2 g2) D.F)
  keeps : Keeps (fun k => N ≤ k) w wr
  lk : D.lk = X.lk
  nw : N = w.heap.size

theorem A3.low {N : Nat} {w wr : World} {mb g mb2 g2 : Nat} {xs ys : List UInt32} {X D : Chn} (h : A3 N w wr mb g mb2 g2 xs ys X D) : Keeps (fun k => w.heap.size ≤ k) w wr := h.nw ▸ h.keeps

theorem A3.ng {N : Nat} {w wr : World} {mb g mb2 g2 : Nat} {xs ys : List UInt32} {X D : Chn} (h : A3 N w wr mb g mb2 g2 xs ys X D) : (¬ X.F g ∧ ¬ X.F mb) ∧ (¬ D.F g2 ∧ ¬ D.F mb2) :=
  ⟨⟨fun e => by have := h.sep.one 0 1 g (f0 (.inr rfl)) (f1 e); omega, fun e => by have := h.sep.one 0 1 mb (f0 (.inl rfl)) (f1 e); omega⟩,
    fun e => by have := h.sep.one 3 4 g2 (f3 (.inr rfl)) (f4 e); omega, fun e => by have := h.sep.one 3 4 mb2 (f3 (.inl rfl)) (f4 e); omega⟩

theorem A3.call1 {N : Nat} {w wr wr' : World} {mb g mb2 g2 : Nat} {xs ys : List UInt32} {X D : Chn} {r : StepR} {e : Ending} (h : A3 N w wr mb g mb2 g2 xs ys X D) (hc : CallP X mb g r wr e wr') :
    ∃ vt, A3 N w wr' mb g mb2 g2 r.xs ys (X.with vt r.tk r.st) D := by
  obtain ⟨_, vt, hi, hm, hk, hf⟩ := hc
  refine ⟨vt, hm, hi, h.mm2.kept hk ?_ ?_, h.ch2.kept hk ?_, h.sep.upd 1 ?_ ?_ ?_ hk.size ?_, h.keeps.trans hk ?_, h.lk, h.nw⟩
  · rintro (e | e)
    · have := h.sep.one 1 3 mb2 (f1 e) (f3 (.inl rfl)); omega
    · have := h.sep.one 0 3 mb2 (f0 (.inr e)) (f3 (.inl rfl)); omega
  · rintro (e | e)
    · have := h.sep.one 1 3 g2 (f1 e) (f3 (.inr rfl)); omega
    · have := h.sep.one 0 3 g2 (f0 (.inr e)) (f3 (.inr rfl)); omega
  · rintro x hx (e | rfl)
    · have := h.sep.one 1 4 x (f1 e) (f4 hx); omega
    · have := h.sep.one 0 4 x (f0 (.inr rfl)) (f4 hx); omega
  · intro k hk'
    rcases Chn.with_F hf (un1 hk') with e | e
    · exact .inl (f1 e)
    · exact .inr e
  · intro k hk'
    exact hi.lt (un1 hk')
  · rintro j hj k (⟨rfl, h1⟩ | ⟨rfl, h1⟩ | ⟨rfl, h1⟩ | ⟨rfl, h1⟩ | ⟨rfl, h1⟩)
    · exact f0 h1
    · omega
    · exact f2 h1
    · exact f3 h1
    · exact f4 h1
  · have := h.keeps.size; have := h.nw; omega
  · rintro b _ (e | rfl)
    · exact h.sep.ge 1 b (f1 e)
    · exact h.sep.ge 0 b (f0 (.inr rfl))

/-- The other way round. -/
theorem A3.swap {N : Nat} {w wr : World} {mb g mb2 g2 : Nat} {xs ys : List UInt32} {X D : Chn} (h : A3 N w wr mb g mb2 g2 xs ys X D) : A3 N w wr mb2 g2 mb g ys xs D X := by
  have tr : ∀ i k, F5 (MF mb2 g2) D.F nF (MF mb g) X.F i k → ∃ j, F5 (MF mb g) X.F nF (MF mb2 g2) D.F j k ∧ ((i = 0 ∧ j = 3) ∨ (i = 1 ∧ j = 4) ∨ (i = 3 ∧ j = 0) ∨ (i = 4 ∧ j = 1)) := by
    rintro i k (⟨rfl, h1⟩ | ⟨rfl, h1⟩ | ⟨rfl, h1⟩ | ⟨rfl, h1⟩ | ⟨rfl, h1⟩)
    · exact ⟨3, f3 h1, by omega⟩
    · exact ⟨4, f4 h1, by omega⟩
    · exact absurd h1 fun e => e
    · exact ⟨0, f0 h1, by omega⟩
    · exact ⟨1, f1 h1, by omega⟩
  refine ⟨h.mm2, h.ch2, h.mm, h.ch, ⟨?_, ?_, ?_⟩, h.keeps, h.lk.symm, h.nw⟩
  · intro i j k hi hj
    obtain ⟨a, ha, ea⟩ := tr i k hi
    obtain ⟨b, hb, eb⟩ := tr j k hj
    have := h.sep.one a b k ha hb
    omega
  · intro i k hi
    obtain ⟨a, ha, _⟩ := tr i k hi
    exact h.sep.lt a k ha
  · intro i k hi
    obtain ⟨a, ha, _⟩ := tr i k hi
    exact h.sep.ge a k ha

theorem A3.mem1 {N : Nat} {w wr wr' : World} {mb g mb2 g2 : Nat} {xs ys zs : List UInt32} {X D : Chn} (h : A3 N w wr mb g mb2 g2 xs ys X D) (hm : Mm wr' mb g zs) (k : Keeps (· = g) wr wr') : A3 N w wr' mb g mb2 g2 zs ys X D := by
  refine ⟨hm, h.ch.kept k ?_, h.mm2.kept k ?_ ?_, h.ch2.kept k ?_, h.sep.grown k.size, h.keeps.trans k ?_, h.lk, h.nw⟩
  · rintro x hx rfl
    have := h.sep.one 0 1 x (f0 (.inr rfl)) (f1 hx); omega
  · intro e
    have := h.sep.one 0 3 mb2 (f0 (.inr e)) (f3 (.inl rfl)); omega
  · intro e
    have := h.sep.one 0 3 g2 (f0 (.inr e)) (f3 (.inr rfl)); omega
  · rintro x hx rfl
    have := h.sep.one 0 4 x (f0 (.inr rfl)) (f4 hx); omega
  · rintro b _ rfl
    exact h.sep.ge 0 b (f0 (.inr rfl))

theorem A3.grown {N : Nat} {w wr wr' : World} {mb g mb2 g2 : Nat} {xs ys : List UInt32} {X D : Chn} (h : A3 N w wr mb g mb2 g2 xs ys X D) (k : Keeps (fun _ => False) wr wr') : A3 N w wr' mb g mb2 g2 xs ys X D :=
  ⟨h.mm.grown k, h.ch.grown k, h.mm2.grown k, h.ch2.grown k, h.sep.grown k.size, h.keeps.trans k (fun _ _ e => e.elim), h.lk, h.nw⟩

theorem SegI.at' {w : World} {a : Option Addr} {zs : List Int} {g o : Nat} (h : SegI w a zs) (ha : a = some ⟨g, o, none⟩) {j : Nat} (hj : j < zs.length) : w.cell? ⟨g, o + j, none⟩ = some (.int .i64 (zs.getD j 0)) := by
  obtain ⟨g', o', h1, h2⟩ := h.at hj
  rw [ha] at h1
  cases h1
  exact h2

theorem Chn.In.can {X : Chn} {w : World} (h : X.In w) : canB X.lk.length (heldN X.tk X.st : Nat) (askedB X.st) X.tk.length = true := by
  unfold canB heldN askedB
  rcases h.wf with h1 | h1 | h1
  · rw [if_neg (by omega), decide_eq_true (by omega), decide_eq_false (by omega), if_neg (by simp), decide_eq_true rfl]; rfl
  · rw [if_neg (by omega), decide_eq_true (by omega), decide_eq_false (by omega), if_neg (by simp), decide_eq_true rfl]; rfl
  · rw [if_pos (by omega), decide_eq_true (by omega), decide_eq_true (by omega), if_pos (by simp), decide_eq_true (by omega), decide_eq_true (by omega)]; rfl
theorem Chn.In.again {X : Chn} {w : World} (h : X.In w) : (if askedB X.st then 2 else settledN X.lk X.tk) = X.st := by
  unfold askedB settledN
  rcases h.wf with h1 | h1 | h1
  · rw [decide_eq_false (by omega), if_neg (by simp), if_pos (by omega)]; omega
  · rw [decide_eq_false (by omega), if_neg (by simp), if_neg (by omega)]; omega
  · rw [decide_eq_true (by omega), if_pos (by simp)]; omega

end Go.Proofs.Ytadhldpeklkcmaa
