import Derived.Test.YtadhldpeklkcmaaSc
namespace Go.Proofs.Ytadhldpeklkcmaa
open Go.RowKit
set_option linter.unusedVariables false

/-- A list that was told and is kept: itself, and what it must hold. -/
structure Ent where
  a : Option Addr
  c : Nat
  xs : List UInt32
  wa : Option Addr
  wc : Nat
def Ent.lv (e : Ent) : Value := .slice e.a e.xs.length e.c
def Ent.wv (e : Ent) : Value := .slice e.wa e.xs.length e.wc
def Ent.vs (e : Ent) : List Value := [e.lv, e.wv, .slice none 0 0, .slice none 0 0]
def evs (es : List Ent) : List Value := es.flatMap Ent.vs
theorem evs_length (es : List Ent) : (evs es).length = es.length * 4 := by
  induction es with
  | nil => rfl
  | cons a l ih => simp only [evs, List.flatMap_cons, List.length_append] at *; rw [ih]; simp [Ent.vs]; omega
theorem evs_append (a b : List Ent) : evs (a ++ b) = evs a ++ evs b := by simp [evs]
theorem evs_get (es : List Ent) (i j : Nat) (e : Ent) (he : es[i]? = some e) (hj : j < 4) : (evs es)[i * 4 + j]? = e.vs[j]? := by
  induction es generalizing i with
  | nil => simp at he
  | cons a l ih =>
    have e1 : evs (a :: l) = a.vs ++ evs l := by simp [evs]
    rw [e1]
    cases i with
    | zero =>
      simp at he
      subst he
      rw [List.getElem?_append_left (by simp [Ent.vs]; omega)]
      simp
    | succ i =>
      rw [List.getElem?_append_right (by simp [Ent.vs]; omega)]
      have e2 : (i + 1) * 4 + j - a.vs.length = i * 4 + j := by simp [Ent.vs]; omega
      rw [e2]
      exact ih i (by simpa using he)

/-- The book of kept lists. -/
structure BookOk (w : World) (es : List Ent) (kv : Value) : Prop where
  row : w.ownsRow 0 105 4 kv es.length (evs es)
  l : ∀ (i : Nat) (e : Ent), es[i]? = some e → w.ownsRow 0 26 1 e.lv e.xs.length (wvs e.xs)
  q : ∀ (i : Nat) (e : Ent), es[i]? = some e → w.ownsRow 0 26 1 e.wv e.xs.length (wvs e.xs)
  len : ∀ (i : Nat) (e : Ent), es[i]? = some e → e.xs.length ≤ 4294967296
  dis : ∀ (i j : Nat) (e e2 : Ent) (k : Nat), es[i]? = some e → es[j]? = some e2 → i ≠ j → e.lv.ownBlock = some k → e2.lv.ownBlock ≠ some k
  rowl : ∀ (i : Nat) (e : Ent) (k : Nat), es[i]? = some e → e.lv.ownBlock = some k → kv.ownBlock ≠ some k
  rowq : ∀ (i : Nat) (e : Ent) (k : Nat), es[i]? = some e → e.wv.ownBlock = some k → kv.ownBlock ≠ some k

/-- Its blocks. -/
def BF (es : List Ent) (kv : Value) (k : Nat) : Prop := kv.ownBlock = some k ∨ ∃ (i : Nat) (e : Ent), es[i]? = some e ∧ (e.lv.ownBlock = some k ∨ e.wv.ownBlock = some k)

theorem BookOk.kept {S : Nat → Prop} {w w' : World} {es : List Ent} {kv : Value} (h : BookOk w es kv) (hK : Keeps S w w') (hS : ∀ k, BF es kv k → ¬ S k) : BookOk w' es kv :=
  ⟨owns_kept h.row hK fun k hk => hS k (.inl hk), fun i e he => owns_kept (h.l i e he) hK fun k hk => hS k (.inr ⟨i, e, he, .inl hk⟩), fun i e he => owns_kept (h.q i e he) hK fun k hk => hS k (.inr ⟨i, e, he, .inr hk⟩), h.len, h.dis, h.rowl, h.rowq⟩

theorem BookOk.lt {w : World} {es : List Ent} {kv : Value} (h : BookOk w es kv) {k : Nat} (hk : BF es kv k) : k < w.heap.size := by
  rcases hk with hk | ⟨i, e, he, hk | hk⟩
  · exact owns_lt h.row hk
  · exact owns_lt (h.l i e he) hk
  · exact owns_lt (h.q i e he) hk

/-- Which blocks may be written, and since when. -/
structure Frm where
  T : Nat → Prop
  w0 : World

/-- While it is settled: what the lists hold, and the row's block. -/
structure Bk (fr : Frm) (es : List Ent) (WB kb : Nat) (cells : List Value) (ka : Option Addr) (f : Nat → Ent → List UInt32) (cs : List Value) (w : World) : Prop where
  b : Blk w WB cells 41
  r : es ≠ [] → ka = some ⟨kb, 0, none⟩ ∧ Blk w kb cs 105 ∧ kb ≠ WB
  g : ∀ (k : Nat) (e : Ent), es[k]? = some e → cs[k * 4]? = some e.lv
  l : ∀ (k : Nat) (e : Ent), es[k]? = some e → (f k e).length = e.xs.length ∧ w.ownsRow 0 26 1 e.lv e.xs.length (wvs (f k e))
  wb : ∀ (k : Nat) (e : Ent), es[k]? = some e → e.lv.ownBlock ≠ some WB ∧ e.lv.ownBlock ≠ some kb
  dis : ∀ (i j : Nat) (e e2 : Ent) (k : Nat), es[i]? = some e → es[j]? = some e2 → i ≠ j → e.lv.ownBlock = some k → e2.lv.ownBlock ≠ some k
  len : ∀ (i : Nat) (e : Ent), es[i]? = some e → e.xs.length ≤ 4294967296
  kp : Keeps fr.T fr.w0 w
  t : (∀ (k : Nat) (e : Ent) (b : Nat), es[k]? = some e → e.lv.ownBlock = some b → fr.T b) ∧ (es ≠ [] → fr.T kb)

theorem Bk.same {fr : Frm} {es : List Ent} {WB kb : Nat} {cells : List Value} {ka : Option Addr} {f : Nat → Ent → List UInt32} {cs : List Value} {w w' : World} (h : Bk fr es WB kb cells ka f cs w) (hK : Keeps (fun _ => False) w w') : Bk fr es WB kb cells ka f cs w' :=
  ⟨h.b.kept hK (fun e => e), fun he => ⟨(h.r he).1, (h.r he).2.1.kept hK (fun e => e), (h.r he).2.2⟩, h.g, fun k e he => ⟨(h.l k e he).1, owns_kept (h.l k e he).2 hK fun _ _ e => e⟩, h.wb, h.dis, h.len, h.kp.trans hK (fun _ _ e => e.elim), h.t⟩

theorem Bk.upd {fr : Frm} {es : List Ent} {WB kb : Nat} {cells : List Value} {ka : Option Addr} {f f' : Nat → Ent → List UInt32} {cs : List Value} {w w' : World} (h : Bk fr es WB kb cells ka f cs w) {i : Nat} {e : Ent} (he : es[i]? = some e) (hK : Keeps (fun k => some k = e.lv.ownBlock) w w') (ho : w'.ownsRow 0 26 1 e.lv e.xs.length (wvs (f' i e))) (hl : (f' i e).length = e.xs.length) (hf : ∀ (k : Nat) (e' : Ent), k ≠ i → f' k e' = f k e') :
    Bk fr es WB kb cells ka f' cs w' := by
  refine ⟨h.b.kept hK fun e2 => (h.wb i e he).1 e2.symm, fun hne => ⟨(h.r hne).1, (h.r hne).2.1.kept hK fun e2 => (h.wb i e he).2 e2.symm, (h.r hne).2.2⟩, h.g, fun k e' he' => ?_, h.wb, h.dis, h.len, h.kp.trans hK (fun b _ e2 => h.t.1 i e b he e2.symm), h.t⟩
  by_cases hk : k = i
  · subst hk
    rw [he] at he'; cases he'
    exact ⟨hl, ho⟩
  · rw [hf k e' hk]
    exact ⟨(h.l k e' he').1, owns_kept (h.l k e' he').2 hK fun x hx e2 => h.dis k i e' e x he' he hk hx e2.symm⟩

def mkW (i : Nat) : UInt32 := UInt32.ofNat (2 * i + 2684354561)
def gkW (i : Nat) : UInt32 := UInt32.ofNat (2 * i + 2684354562)
def fM (i : Nat) (k : Nat) (e : Ent) : List UInt32 := if k < i then List.replicate e.xs.length (mkW k) else e.xs

/-- What one list became. -/
def DoneE (N0 : Nat) (w : World) (e : Ent) (k : Nat) (one many : Value) : Prop :=
  w.ownsRow 0 26 1 one (e.xs.length + 17) (wvs (List.replicate e.xs.length (mkW k) ++ List.replicate 17 (gkW k))) ∧
  w.ownsRow 0 26 1 many (e.xs.length + 64) (wvs (List.replicate e.xs.length (mkW k) ++ List.replicate 64 (gkW k))) ∧
  (one.ownBlock = e.lv.ownBlock ∨ ∃ b, one.ownBlock = some b ∧ N0 ≤ b) ∧ (many.ownBlock = e.lv.ownBlock ∨ ∃ b, many.ownBlock = some b ∧ N0 ≤ b)

theorem DoneE.kept {S : Nat → Prop} {N0 : Nat} {w w' : World} {e : Ent} {k : Nat} {one many : Value} (h : DoneE N0 w e k one many) (hK : Keeps S w w') (h1 : ∀ b, e.lv.ownBlock = some b → ¬ S b) (h2 : ∀ b, N0 ≤ b → ¬ S b) : DoneE N0 w' e k one many := by
  obtain ⟨ho, hm, f1, f2⟩ := h
  refine ⟨owns_kept ho hK fun b hb => ?_, owns_kept hm hK fun b hb => ?_, f1, f2⟩
  · rcases f1 with e1 | ⟨b', e1, hb'⟩
    · exact h1 b (by rw [← e1]; exact hb)
    · rw [e1] at hb; cases hb; exact h2 b hb'
  · rcases f2 with e1 | ⟨b', e1, hb'⟩
    · exact h1 b (by rw [← e1]; exact hb)
    · rw [e1] at hb; cases hb; exact h2 b hb'

structure Bk2 (fr : Frm) (es : List Ent) (WB kb : Nat) (cells : List Value) (ka : Option Addr) (N0 i : Nat) (cs : List Value) (w : World) : Prop where
  bk : Bk fr es WB kb cells ka (fM es.length) cs w
  lt : ∀ (k : Nat) (e : Ent) (b : Nat), es[k]? = some e → e.lv.ownBlock = some b → b < N0
  kb : es ≠ [] → kb < N0
  ge : N0 ≤ w.heap.size
  done : ∀ (k : Nat) (e : Ent), k < i → es[k]? = some e → ∃ one many, cs[k * 4 + 2]? = some one ∧ cs[k * 4 + 3]? = some many ∧ DoneE N0 w e k one many
  cl : ∀ (k : Nat) (e : Ent), es[k]? = some e → k * 4 + 3 < cs.length

theorem Bk2.same {fr : Frm} {es : List Ent} {WB kb : Nat} {cells : List Value} {ka : Option Addr} {N0 i : Nat} {cs : List Value} {w w' : World} (h : Bk2 fr es WB kb cells ka N0 i cs w) (hK : Keeps (fun _ => False) w w') : Bk2 fr es WB kb cells ka N0 i cs w' :=
  ⟨h.bk.same hK, h.lt, h.kb, Nat.le_trans h.ge hK.size, fun k e hk he => by
    obtain ⟨o, m, h1, h2, h3⟩ := h.done k e hk he
    exact ⟨o, m, h1, h2, h3.kept hK (fun _ _ e => e) fun _ _ e => e⟩, h.cl⟩

/-- A round: the list i grew by one and by many; both were written into the row. -/
theorem Bk2.step {fr : Frm} {es : List Ent} {WB kb : Nat} {cells : List Value} {ka : Option Addr} {N0 i : Nat} {cs : List Value} {w w1 w3 : World} (h : Bk2 fr es WB kb cells ka N0 i cs w) {e : Ent} (he : es[i]? = some e) {v mv v' : Value}
    (h1 : GrI (fun _ => False) w e.a e.c (List.replicate e.xs.length (mkW i)) (gkW i) 17 64 v mv w1)
    (h2 : GrD (· = kb) w e.a e.c (List.replicate e.xs.length (mkW i)) (gkW i) v v' w3) (hB : Blk w3 kb (cs.set (i * 4 + 2) v) 105) :
    Bk2 fr es WB kb cells ka N0 (i + 1) ((cs.set (i * 4 + 2) v).set (i * 4 + 3) v') (w3.setCell ⟨kb, i * 4 + 3, none⟩ v') := by
  have hne : es ≠ [] := by intro e0; rw [e0] at he; simp at he
  have hil : i < es.length := (List.getElem?_eq_some_iff.1 he).1
  obtain ⟨hu, hv, hm, f1, f2, hK⟩ := h2
  have hlv : (Value.slice e.a (List.replicate e.xs.length (mkW i)).length e.c).ownBlock = e.lv.ownBlock := own_any _ _ _ _ _
  rw [hlv] at f1 f2 hK
  rw [List.length_replicate] at hu hv hm
  obtain ⟨W4, hW4⟩ : ∃ W4, W4 = w3.setCell ⟨kb, i * 4 + 3, none⟩ v' := ⟨_, rfl⟩
  rw [← hW4]
  have hK4 : Keeps (· = kb) w3 W4 := by rw [hW4]; exact (Keeps.refl _ _).setCell _ _ fun _ => rfl
  have hKall : Keeps (fun k => some k = e.lv.ownBlock ∨ k = kb) w W4 := hK.trans hK4 fun _ _ e => .inr e
  have hkb := h.kb hne
  have hkbw : kb < w.heap.size := Nat.lt_of_lt_of_le hkb h.ge
  have hn4 : ∀ {x : Value}, (x.ownBlock = e.lv.ownBlock ∨ ∃ b, x.ownBlock = some b ∧ w.heap.size ≤ b) → ∀ k, x.ownBlock = some k → ¬ k = kb := by
    intro x hx k hk e2
    subst e2
    rcases hx with e1 | ⟨b, e1, hb⟩
    · rw [e1] at hk; exact (h.bk.wb i e he).2 hk
    · rw [e1] at hk; cases hk; omega
  have hother : ∀ (k : Nat) (e' : Ent), k ≠ i → es[k]? = some e' → ∀ b, e'.lv.ownBlock = some b → ¬ (some b = e.lv.ownBlock ∨ b = kb) := by
    rintro k e' hk he' b hb (e2 | e2)
    · exact h.bk.dis k i e' e b he' he hk hb e2.symm
    · subst e2; exact (h.bk.wb k e' he').2 hb
  have hfi : fM es.length i e = List.replicate e.xs.length (mkW i) := by unfold fM; rw [if_pos hil]
  refine ⟨⟨h.bk.b.kept hKall ?_, fun _ => ⟨(h.bk.r hne).1, by rw [hW4]; exact hB.setCell _ _, (h.bk.r hne).2.2⟩, fun k e' he' => ?_, fun k e' he' => ?_, h.bk.wb, h.bk.dis, h.bk.len, h.bk.kp.trans hKall (fun b _ e2 => e2.elim (fun e2 => h.bk.t.1 i e b he e2.symm) (fun e2 => by rw [e2]; exact h.bk.t.2 hne)), h.bk.t⟩, h.lt, h.kb, Nat.le_trans h.ge hKall.size, fun k e' hk he' => ?_, fun k e' he' => by simp only [List.length_set]; exact h.cl k e' he'⟩
  · rintro (e2 | e2)
    · exact (h.bk.wb i e he).1 e2.symm
    · exact (h.bk.r hne).2.2 e2.symm
  · rw [List.getElem?_set_ne (by omega), List.getElem?_set_ne (by omega)]
    exact h.bk.g k e' he'
  · refine ⟨(h.bk.l k e' he').1, ?_⟩
    by_cases hk : k = i
    · subst hk
      rw [he] at he'; cases he'
      rw [hfi]
      exact owns_kept hu hK4 fun x hx e2 => by subst e2; exact (h.bk.wb k e he).2 hx
    · exact owns_kept (h.bk.l k e' he').2 hKall (hother k e' hk he')
  · have hcl := h.cl i e he
    by_cases hk2 : k = i
    · subst hk2
      rw [he] at he'; cases he'
      refine ⟨v, v', ?_, ?_, owns_kept hv hK4 (hn4 f1), owns_kept hm hK4 (hn4 f2), ?_, ?_⟩
      · rw [List.getElem?_set_ne (by omega), List.getElem?_set_self (by omega)]
      · rw [List.getElem?_set_self (by simp; omega)]
      · rcases f1 with e1 | ⟨b, e1, hb⟩
        · exact .inl e1
        · exact .inr ⟨b, e1, Nat.le_trans h.ge hb⟩
      · rcases f2 with e1 | ⟨b, e1, hb⟩
        · exact .inl e1
        · exact .inr ⟨b, e1, Nat.le_trans h.ge hb⟩
    · obtain ⟨o, m, g1, g2, g3⟩ := h.done k e' (by omega) he'
      refine ⟨o, m, ?_, ?_, g3.kept hKall (hother k e' hk2 he') ?_⟩
      · rw [List.getElem?_set_ne (by omega), List.getElem?_set_ne (by omega)]; exact g1
      · rw [List.getElem?_set_ne (by omega), List.getElem?_set_ne (by omega)]; exact g2
      · rintro b hb (e2 | e2)
        · have := h.lt i e b he e2.symm; omega
        · omega
end Go.Proofs.Ytadhldpeklkcmaa
