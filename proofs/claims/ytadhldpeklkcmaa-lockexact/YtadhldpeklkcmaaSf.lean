import Derived.Test.YtadhldpeklkcmaaSd
import Derived.Test.YtadhldpeklkcmaaN
namespace Go.Proofs.Ytadhldpeklkcmaa
open Go.RowKit
set_option linter.unusedVariables false

/-- Where the play stands: the world's block, two pairs of memories, chains of both sides, kept lists. -/
structure Pst where
  WB : Nat
  mb : Nat
  g : Nat
  nb : Nat
  h : Nat
  mb2 : Nat
  g2 : Nat
  nb2 : Nat
  h2 : Nat
  xs : List UInt32
  zs : List UInt32
  ys : List UInt32
  us : List UInt32
  lv : Value
  kv : Value
  Xs : List Chn
  Ys : List Chn
  es : List Ent

def pvs : List Chn → List Chn → List Value
  | X :: Xs, Y :: Ys => .pointer (some ⟨X.b, 0, none⟩) :: .pointer (some ⟨Y.b, 0, none⟩) :: pvs Xs Ys
  | _, _ => []
theorem pvs_app (Xs Ys : List Chn) (X Y : Chn) (h : Xs.length = Ys.length) : pvs (Xs ++ [X]) (Ys ++ [Y]) = pvs Xs Ys ++ [.pointer (some ⟨X.b, 0, none⟩), .pointer (some ⟨Y.b, 0, none⟩)] := by
  induction Xs generalizing Ys with
  | nil => cases Ys with
    | nil => rfl
    | cons => simp at h
  | cons a l ih => cases Ys with
    | nil => simp at h
    | cons b m => simp only [List.cons_append, pvs]; rw [ih m (by simpa using h)]
theorem pvs_len (Xs Ys : List Chn) (h : Xs.length = Ys.length) : (pvs Xs Ys).length = Xs.length * 2 := by
  induction Xs generalizing Ys with
  | nil => cases Ys with
    | nil => rfl
    | cons => simp at h
  | cons a l ih => cases Ys with
    | nil => simp at h
    | cons b m => simp only [pvs, List.length_cons]; rw [ih m (by simpa using h)]; omega
theorem pvs_get (Xs Ys : List Chn) (i : Nat) (X Y : Chn) (hX : Xs[i]? = some X) (hY : Ys[i]? = some Y) : (pvs Xs Ys)[i * 2]? = some (.pointer (some ⟨X.b, 0, none⟩)) ∧ (pvs Xs Ys)[i * 2 + 1]? = some (.pointer (some ⟨Y.b, 0, none⟩)) := by
  induction Xs generalizing Ys i with
  | nil => simp at hX
  | cons a l ih => cases Ys with
    | nil => simp at hY
    | cons b m =>
      cases i with
      | zero => simp at hX hY; subst hX hY; exact ⟨rfl, rfl⟩
      | succ i =>
        have := ih m i (by simpa using hX) (by simpa using hY)
        rw [show (i + 1) * 2 = i * 2 + 1 + 1 by omega]
        exact this
theorem pvs_set (Xs Ys : List Chn) (i : Nat) (X X' : Chn) (hX : Xs[i]? = some X) (hb : X'.b = X.b) : pvs (Xs.set i X') Ys = pvs Xs Ys := by
  induction Xs generalizing Ys i with
  | nil => simp at hX
  | cons a l ih => cases Ys with
    | nil => cases i <;> rfl
    | cons b m =>
      cases i with
      | zero => simp at hX; subst hX; simp only [List.set_cons_zero, pvs, hb]
      | succ i => simp only [List.set_cons_succ, pvs]; rw [ih m i (by simpa using hX)]
theorem pvs_set2 (Xs Ys : List Chn) (i : Nat) (X X' : Chn) (hX : Ys[i]? = some X) (hb : X'.b = X.b) : pvs Xs (Ys.set i X') = pvs Xs Ys := by
  induction Xs generalizing Ys i with
  | nil => cases Ys <;> cases i <;> rfl
  | cons a l ih => cases Ys with
    | nil => rfl
    | cons b m =>
      cases i with
      | zero => simp at hX; subst hX; simp only [List.set_cons_zero, pvs, hb]
      | succ i => simp only [List.set_cons_succ, pvs]; rw [ih m i (by simpa using hX)]

def CF (base : Nat) (Xs : List Chn) (key k : Nat) : Prop := ∃ (i : Nat) (X : Chn), Xs[i]? = some X ∧ key = 2 * i + base ∧ X.F k

/-- Whose blocks are whose. -/
def Pst.F (p : Pst) (key k : Nat) : Prop :=
  (key = 0 ∧ k = p.WB) ∨ (key = 1 ∧ (k = p.mb ∨ k = p.g)) ∨ (key = 2 ∧ (k = p.nb ∨ k = p.h)) ∨ (key = 3 ∧ (k = p.mb2 ∨ k = p.g2)) ∨ (key = 4 ∧ (k = p.nb2 ∨ k = p.h2)) ∨ (key = 5 ∧ p.lv.ownBlock = some k) ∨ (key = 6 ∧ BF p.es p.kv k) ∨ CF 7 p.Xs key k ∨ CF 8 p.Ys key k

theorem Pst.f0 {p : Pst} {k : Nat} (h : k = p.WB) : p.F 0 k := .inl ⟨rfl, h⟩
theorem Pst.f1 {p : Pst} {k : Nat} (h : k = p.mb ∨ k = p.g) : p.F 1 k := .inr (.inl ⟨rfl, h⟩)
theorem Pst.f2 {p : Pst} {k : Nat} (h : k = p.nb ∨ k = p.h) : p.F 2 k := .inr (.inr (.inl ⟨rfl, h⟩))
theorem Pst.f3 {p : Pst} {k : Nat} (h : k = p.mb2 ∨ k = p.g2) : p.F 3 k := .inr (.inr (.inr (.inl ⟨rfl, h⟩)))
theorem Pst.f4 {p : Pst} {k : Nat} (h : k = p.nb2 ∨ k = p.h2) : p.F 4 k := .inr (.inr (.inr (.inr (.inl ⟨rfl, h⟩))))
theorem Pst.f5 {p : Pst} {k : Nat} (h : p.lv.ownBlock = some k) : p.F 5 k := .inr (.inr (.inr (.inr (.inr (.inl ⟨rfl, h⟩)))))
theorem Pst.f6 {p : Pst} {k : Nat} (h : BF p.es p.kv k) : p.F 6 k := .inr (.inr (.inr (.inr (.inr (.inr (.inl ⟨rfl, h⟩))))))
theorem Pst.fX {p : Pst} {k i : Nat} {X : Chn} (hX : p.Xs[i]? = some X) (h : X.F k) : p.F (2 * i + 7) k := .inr (.inr (.inr (.inr (.inr (.inr (.inr (.inl ⟨i, X, hX, rfl, h⟩)))))))
theorem Pst.fY {p : Pst} {k i : Nat} {X : Chn} (hX : p.Ys[i]? = some X) (h : X.F k) : p.F (2 * i + 8) k := .inr (.inr (.inr (.inr (.inr (.inr (.inr (.inr ⟨i, X, hX, rfl, h⟩)))))))

def Pst.cells (p : Pst) : List Value := [.pointer (some ⟨p.mb, 0, none⟩), .pointer (some ⟨p.nb, 0, none⟩), .pointer (some ⟨p.mb2, 0, none⟩), .pointer (some ⟨p.nb2, 0, none⟩), p.lv, p.kv, .slice none 0 0]

structure Pst.Ok (p : Pst) (N : Nat) (w : World) : Prop where
  blk : Blk w p.WB p.cells 41
  m1 : Mm w p.mb p.g p.xs
  r1 : Rm w p.nb p.h p.zs
  m2 : Mm w p.mb2 p.g2 p.ys
  r2 : Rm w p.nb2 p.h2 p.us
  row : w.ownsRow 0 84 2 p.lv p.Xs.length (pvs p.Xs p.Ys)
  len : p.Ys.length = p.Xs.length
  cx : ∀ (i : Nat) (X : Chn), p.Xs[i]? = some X → X.In w ∧ X.lk.length ≤ 2147483647
  cy : ∀ (i : Nat) (Y : Chn), p.Ys[i]? = some Y → Y.Rn w
  bk : BookOk w p.es p.kv
  sep : Sep w N p.F
  low : N ≤ w.heap.size

/-- Both sides stand alike. -/
structure Pst.Same (p : Pst) : Prop where
  one : p.zs = p.xs
  two : p.us = p.ys
  ch : ∀ (i : Nat) (X Y : Chn), p.Xs[i]? = some X → p.Ys[i]? = some Y → Y.lk = X.lk ∧ Y.tk = X.tk ∧ Y.st = X.st

theorem Pst.Ok.out {p : Pst} {N : Nat} {w : World} (h : p.Ok N w) {S : Nat → Prop} {a b c : Nat} (hS : ∀ k, S k → p.F a k ∨ p.F b k) (h1 : c ≠ a) (h2 : c ≠ b) : ∀ k, p.F c k → ¬ S k := by
  intro k hk hs
  rcases hS k hs with e | e
  · exact h1 (h.sep.one _ _ k hk e)
  · exact h2 (h.sep.one _ _ k hk e)

theorem Sep.same {w w' : World} {N : Nat} {F : Nat → Nat → Prop} (h : Sep w N F) (hs : w.heap.size ≤ w'.heap.size) : Sep w' N F :=
  ⟨h.one, fun i k hk => Nat.lt_of_lt_of_le (h.lt i k hk) hs, h.ge⟩

theorem Pst.Ok.same {p : Pst} {N : Nat} {w w' : World} (h : p.Ok N w) (hK : Keeps (fun _ => False) w w') : p.Ok N w' :=
  ⟨h.blk.kept hK (fun e => e), h.m1.grown hK, h.r1.grown hK, h.m2.grown hK, h.r2.grown hK, owns_kept h.row hK fun _ _ e => e, h.len, fun i X hX => ⟨(h.cx i X hX).1.kept hK fun _ _ e => e, (h.cx i X hX).2⟩, fun i Y hY => (h.cy i Y hY).grown hK, h.bk.kept hK fun _ _ e => e, h.sep.same hK.size, Nat.le_trans h.low hK.size⟩

/-- The program's memory was written. -/
theorem Pst.Ok.mem1 {p : Pst} {N : Nat} {w w' : World} (h : p.Ok N w) {xs' : List UInt32} (hm : Mm w' p.mb p.g xs') (hK : Keeps (· = p.g) w w') : Pst.Ok { p with xs := xs' } N w' := by
  have hS : ∀ k, k = p.g → p.F 1 k ∨ p.F 1 k := fun k e => .inl (Pst.f1 (.inr e))
  have o : ∀ c, c ≠ 1 → ∀ k, p.F c k → ¬ k = p.g := fun c hc => h.out hS hc hc
  exact ⟨h.blk.kept hK (o 0 (by omega) _ (Pst.f0 rfl)), hm, h.r1.kept hK (o 2 (by omega) _ (Pst.f2 (.inl rfl))) (o 2 (by omega) _ (Pst.f2 (.inr rfl))), h.m2.kept hK (o 3 (by omega) _ (Pst.f3 (.inl rfl))) (o 3 (by omega) _ (Pst.f3 (.inr rfl))), h.r2.kept hK (o 4 (by omega) _ (Pst.f4 (.inl rfl))) (o 4 (by omega) _ (Pst.f4 (.inr rfl))), owns_kept h.row hK fun k hk => o 5 (by omega) k (Pst.f5 hk), h.len,
    fun i X hX => ⟨(h.cx i X hX).1.kept hK fun k hk => o (2 * i + 7) (by omega) k (Pst.fX hX hk), (h.cx i X hX).2⟩, fun i Y hY => (h.cy i Y hY).kept hK fun k hk => o (2 * i + 8) (by omega) k (Pst.fY hY hk), h.bk.kept hK fun k hk => o 6 (by omega) k (Pst.f6 hk), h.sep.same hK.size, Nat.le_trans h.low hK.size⟩
theorem Pst.Ok.mem2 {p : Pst} {N : Nat} {w w' : World} (h : p.Ok N w) {xs' : List UInt32} (hm : Rm w' p.nb p.h xs') (hK : Keeps (· = p.h) w w') : Pst.Ok { p with zs := xs' } N w' := by
  have hS : ∀ k, k = p.h → p.F 2 k ∨ p.F 2 k := fun k e => .inl (Pst.f2 (.inr e))
  have o : ∀ c, c ≠ 2 → ∀ k, p.F c k → ¬ k = p.h := fun c hc => h.out hS hc hc
  exact ⟨h.blk.kept hK (o 0 (by omega) _ (Pst.f0 rfl)), h.m1.kept hK (o 1 (by omega) _ (Pst.f1 (.inl rfl))) (o 1 (by omega) _ (Pst.f1 (.inr rfl))), hm, h.m2.kept hK (o 3 (by omega) _ (Pst.f3 (.inl rfl))) (o 3 (by omega) _ (Pst.f3 (.inr rfl))), h.r2.kept hK (o 4 (by omega) _ (Pst.f4 (.inl rfl))) (o 4 (by omega) _ (Pst.f4 (.inr rfl))), owns_kept h.row hK fun k hk => o 5 (by omega) k (Pst.f5 hk), h.len,
    fun i X hX => ⟨(h.cx i X hX).1.kept hK fun k hk => o (2 * i + 7) (by omega) k (Pst.fX hX hk), (h.cx i X hX).2⟩, fun i Y hY => (h.cy i Y hY).kept hK fun k hk => o (2 * i + 8) (by omega) k (Pst.fY hY hk), h.bk.kept hK fun k hk => o 6 (by omega) k (Pst.f6 hk), h.sep.same hK.size, Nat.le_trans h.low hK.size⟩

theorem cget_set {Cs : List Chn} {i j : Nat} {C D : Chn} (h : (Cs.set i C)[j]? = some D) : (j = i ∧ D = C ∧ i < Cs.length) ∨ (j ≠ i ∧ Cs[j]? = some D) := by
  by_cases e : i = j
  · subst e
    rw [List.getElem?_set] at h
    simp at h
    exact .inl ⟨rfl, h.2.symm, h.1⟩
  · rw [List.getElem?_set_ne e] at h
    exact .inr ⟨fun e2 => e e2.symm, h⟩

/-- A chain of the program has moved. -/
theorem Pst.Ok.chX {p : Pst} {N : Nat} {w w' : World} (h : p.Ok N w) {i : Nat} {X : Chn} (hX : p.Xs[i]? = some X) {vt : Value} {tk : List UInt32} {st : Nat} {xs' : List UInt32} (hc : Chn.In ⟨X.b, X.vl, vt, X.lk, tk, st⟩ w') (hm : Mm w' p.mb p.g xs') (hK : Keeps (fun k => X.F k ∨ k = p.g) w w') (hf : vt.ownBlock = X.vt.ownBlock ∨ ∃ k, vt.ownBlock = some k ∧ w.heap.size ≤ k) :
    Pst.Ok { p with xs := xs', Xs := p.Xs.set i ⟨X.b, X.vl, vt, X.lk, tk, st⟩ } N w' := by
  have hS : ∀ k, (X.F k ∨ k = p.g) → p.F (2 * i + 7) k ∨ p.F 1 k := fun k e => e.elim (fun e => .inl (Pst.fX hX e)) fun e => .inr (Pst.f1 (.inr e))
  have o : ∀ c, c ≠ 2 * i + 7 → c ≠ 1 → ∀ k, p.F c k → ¬ (X.F k ∨ k = p.g) := fun c hc hc' => h.out hS hc hc'
  have hil : i < p.Xs.length := (List.getElem?_eq_some_iff.1 hX).1
  refine ⟨h.blk.kept hK (o 0 (by omega) (by omega) _ (Pst.f0 rfl)), hm, h.r1.kept hK (o 2 (by omega) (by omega) _ (Pst.f2 (.inl rfl))) (o 2 (by omega) (by omega) _ (Pst.f2 (.inr rfl))), h.m2.kept hK (o 3 (by omega) (by omega) _ (Pst.f3 (.inl rfl))) (o 3 (by omega) (by omega) _ (Pst.f3 (.inr rfl))), h.r2.kept hK (o 4 (by omega) (by omega) _ (Pst.f4 (.inl rfl))) (o 4 (by omega) (by omega) _ (Pst.f4 (.inr rfl))), ?_, by simpa using h.len,
    fun j D hD => ?_, fun j Y hY => (h.cy j Y hY).kept hK fun k hk => o (2 * j + 8) (by omega) (by omega) k (Pst.fY hY hk), h.bk.kept hK fun k hk => o 6 (by omega) (by omega) k (Pst.f6 hk), ?_, Nat.le_trans h.low hK.size⟩
  · show w'.ownsRow 0 84 2 p.lv (p.Xs.set i _).length (pvs (p.Xs.set i _) p.Ys)
    rw [List.length_set, pvs_set p.Xs p.Ys i X ⟨X.b, X.vl, vt, X.lk, tk, st⟩ hX rfl]
    exact owns_kept h.row hK fun k hk => o 5 (by omega) (by omega) k (Pst.f5 hk)
  · rcases cget_set hD with ⟨rfl, rfl, -⟩ | ⟨hj, hD⟩
    · exact ⟨hc, (h.cx _ X hX).2⟩
    · exact ⟨(h.cx j D hD).1.kept hK fun k hk => o (2 * j + 7) (by omega) (by omega) k (Pst.fX hD hk), (h.cx j D hD).2⟩
  · have hF : ∀ k, (⟨X.b, X.vl, vt, X.lk, tk, st⟩ : Chn).F k → X.F k ∨ w.heap.size ≤ k := by
      rintro k (e | e | e)
      · exact .inl (.inl e)
      · exact .inl (.inr (.inl e))
      · rcases hf with e2 | ⟨b, e2, hb⟩
        · exact .inl (.inr (.inr (by rw [← e2]; exact e)))
        · have e : vt.ownBlock = some k := e
          rw [e2] at e; cases e; exact .inr hb
    refine h.sep.upd (2 * i + 7) ?_ ?_ ?_ hK.size h.low
    · rintro k (⟨e, -⟩ | ⟨e, -⟩ | ⟨e, -⟩ | ⟨e, -⟩ | ⟨e, -⟩ | ⟨e, -⟩ | ⟨e, -⟩ | ⟨j, D, hD, e, hk⟩ | ⟨j, D, hD, e, hk⟩)
      all_goals first | omega | skip
      have : j = i := by omega
      subst this
      rcases cget_set hD with ⟨-, rfl, -⟩ | ⟨hj, -⟩
      · rcases hF k hk with e2 | e2
        · exact .inl (Pst.fX hX e2)
        · exact .inr e2
      · exact (hj rfl).elim
    · rintro k (⟨e, -⟩ | ⟨e, -⟩ | ⟨e, -⟩ | ⟨e, -⟩ | ⟨e, -⟩ | ⟨e, -⟩ | ⟨e, -⟩ | ⟨j, D, hD, e, hk⟩ | ⟨j, D, hD, e, hk⟩)
      all_goals first | omega | skip
      have : j = i := by omega
      subst this
      rcases cget_set hD with ⟨-, rfl, -⟩ | ⟨hj, -⟩
      · exact hc.lt hk
      · exact (hj rfl).elim
    · rintro c hc' k (e | e | e | e | e | e | e | ⟨j, D, hD, e, hk⟩ | e)
      · exact .inl e
      · exact .inr (.inl e)
      · exact .inr (.inr (.inl e))
      · exact .inr (.inr (.inr (.inl e)))
      · exact .inr (.inr (.inr (.inr (.inl e))))
      · exact .inr (.inr (.inr (.inr (.inr (.inl e)))))
      · exact .inr (.inr (.inr (.inr (.inr (.inr (.inl e))))))
      · rcases cget_set hD with ⟨rfl, -, -⟩ | ⟨hj, hD⟩
        · exact (hc' e).elim
        · rw [e]; exact Pst.fX hD hk
      · exact .inr (.inr (.inr (.inr (.inr (.inr (.inr (.inr e)))))))

/-- A chain of the document has moved. -/
theorem Pst.Ok.chY {p : Pst} {N : Nat} {w w' : World} (h : p.Ok N w) {i : Nat} {X : Chn} (hX : p.Ys[i]? = some X) {vt : Value} {tk : List UInt32} {st : Nat} {xs' : List UInt32} (hc : Chn.Rn ⟨X.b, X.vl, vt, X.lk, tk, st⟩ w') (hm : Rm w' p.nb p.h xs') (hK : Keeps (fun k => X.F k ∨ k = p.h) w w') (hf : vt.ownBlock = X.vt.ownBlock ∨ ∃ k, vt.ownBlock = some k ∧ w.heap.size ≤ k) :
    Pst.Ok { p with zs := xs', Ys := p.Ys.set i ⟨X.b, X.vl, vt, X.lk, tk, st⟩ } N w' := by
  have hS : ∀ k, (X.F k ∨ k = p.h) → p.F (2 * i + 8) k ∨ p.F 2 k := fun k e => e.elim (fun e => .inl (Pst.fY hX e)) fun e => .inr (Pst.f2 (.inr e))
  have o : ∀ c, c ≠ 2 * i + 8 → c ≠ 2 → ∀ k, p.F c k → ¬ (X.F k ∨ k = p.h) := fun c hc hc' => h.out hS hc hc'
  have hil : i < p.Ys.length := (List.getElem?_eq_some_iff.1 hX).1
  refine ⟨h.blk.kept hK (o 0 (by omega) (by omega) _ (Pst.f0 rfl)), h.m1.kept hK (o 1 (by omega) (by omega) _ (Pst.f1 (.inl rfl))) (o 1 (by omega) (by omega) _ (Pst.f1 (.inr rfl))), hm, h.m2.kept hK (o 3 (by omega) (by omega) _ (Pst.f3 (.inl rfl))) (o 3 (by omega) (by omega) _ (Pst.f3 (.inr rfl))), h.r2.kept hK (o 4 (by omega) (by omega) _ (Pst.f4 (.inl rfl))) (o 4 (by omega) (by omega) _ (Pst.f4 (.inr rfl))), ?_, by simpa using h.len,
    fun j Y hY => ⟨(h.cx j Y hY).1.kept hK fun k hk => o (2 * j + 7) (by omega) (by omega) k (Pst.fX hY hk), (h.cx j Y hY).2⟩, fun j D hD => ?_, h.bk.kept hK fun k hk => o 6 (by omega) (by omega) k (Pst.f6 hk), ?_, Nat.le_trans h.low hK.size⟩
  · show w'.ownsRow 0 84 2 p.lv p.Xs.length (pvs p.Xs (p.Ys.set i _))
    rw [pvs_set2 p.Xs p.Ys i X ⟨X.b, X.vl, vt, X.lk, tk, st⟩ hX rfl]
    exact owns_kept h.row hK fun k hk => o 5 (by omega) (by omega) k (Pst.f5 hk)
  · rcases cget_set hD with ⟨rfl, rfl, -⟩ | ⟨hj, hD⟩
    · exact hc
    · exact (h.cy j D hD).kept hK fun k hk => o (2 * j + 8) (by omega) (by omega) k (Pst.fY hD hk)
  · have hF : ∀ k, (⟨X.b, X.vl, vt, X.lk, tk, st⟩ : Chn).F k → X.F k ∨ w.heap.size ≤ k := by
      rintro k (e | e | e)
      · exact .inl (.inl e)
      · exact .inl (.inr (.inl e))
      · rcases hf with e2 | ⟨b, e2, hb⟩
        · exact .inl (.inr (.inr (by rw [← e2]; exact e)))
        · have e : vt.ownBlock = some k := e
          rw [e2] at e; cases e; exact .inr hb
    refine h.sep.upd (2 * i + 8) ?_ ?_ ?_ hK.size h.low
    · rintro k (⟨e, -⟩ | ⟨e, -⟩ | ⟨e, -⟩ | ⟨e, -⟩ | ⟨e, -⟩ | ⟨e, -⟩ | ⟨e, -⟩ | ⟨j, D, hD, e, hk⟩ | ⟨j, D, hD, e, hk⟩)
      all_goals first | omega | skip
      have : j = i := by omega
      subst this
      rcases cget_set hD with ⟨-, rfl, -⟩ | ⟨hj, -⟩
      · rcases hF k hk with e2 | e2
        · exact .inl (Pst.fY hX e2)
        · exact .inr e2
      · exact (hj rfl).elim
    · rintro k (⟨e, -⟩ | ⟨e, -⟩ | ⟨e, -⟩ | ⟨e, -⟩ | ⟨e, -⟩ | ⟨e, -⟩ | ⟨e, -⟩ | ⟨j, D, hD, e, hk⟩ | ⟨j, D, hD, e, hk⟩)
      all_goals first | omega | skip
      have : j = i := by omega
      subst this
      rcases cget_set hD with ⟨-, rfl, -⟩ | ⟨hj, -⟩
      · exact hc.lt hk
      · exact (hj rfl).elim
    · rintro c hc' k (e | e | e | e | e | e | e | e | ⟨j, D, hD, e, hk⟩)
      · exact .inl e
      · exact .inr (.inl e)
      · exact .inr (.inr (.inl e))
      · exact .inr (.inr (.inr (.inl e)))
      · exact .inr (.inr (.inr (.inr (.inl e))))
      · exact .inr (.inr (.inr (.inr (.inr (.inl e)))))
      · exact .inr (.inr (.inr (.inr (.inr (.inr (.inl e))))))
      · exact .inr (.inr (.inr (.inr (.inr (.inr (.inr (.inl e)))))))
      · rcases cget_set hD with ⟨rfl, -, -⟩ | ⟨hj, hD⟩
        · exact (hc' e).elim
        · rw [e]; exact Pst.fY hD hk
end Go.Proofs.Ytadhldpeklkcmaa
