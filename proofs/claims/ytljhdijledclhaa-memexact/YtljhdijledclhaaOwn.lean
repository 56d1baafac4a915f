import Derived.Test.YtljhdijledclhaaKe
import Derived.Test.YtljhdijledclhaaRe
import Derived.Test.YtljhdijledclhaaSe
namespace Go.Proofs.Ytljhdijledclhaa
open Go.RowKit
set_option linter.unusedVariables false

/-! ### Objects that lie apart: each block belongs to one key; a step changes the blocks of one key alone -/

/-- What a key holds. -/
inductive Ob
  | nothing
  | base (w0 : World)
  | blk (b : Nat) (l : List Value) (t : TypeId)
  | row (e : TypeId) (size : Nat) (v : Value) (n : Nat) (vs : List Value)
  | mm (b g : Nat) (xs : List UInt32)
  | rm (b g : Nat) (xs : List UInt32)

def Holds (tag : Nat → Nat × Nat) (w : World) (o : Nat × Nat) : Ob → Prop
  | .nothing => True
  | .base w0 => (∀ k, k < w0.heap.size → tag k = o) ∧ Keeps (fun _ => False) w0 w
  | .blk b l t => Blk w b l t ∧ tag b = o
  | .row e size v n vs => w.ownsRow 0 e size v n vs ∧ ∀ k, v.ownBlock = some k → tag k = o
  | .mm b g xs => Mm w b g xs ∧ tag b = o ∧ tag g = o
  | .rm b g xs => Rm w b g xs ∧ tag b = o ∧ tag g = o

theorem Mm.ltb {w : World} {b g : Nat} {xs : List UInt32} (h : Mm w b g xs) : b < w.heap.size := h.blk.lt
theorem Mm.ltg {w : World} {b g : Nat} {xs : List UInt32} (h : Mm w b g xs) : g < w.heap.size := h.row.lt

theorem Holds.kept {S : Nat → Prop} {tag tag' : Nat → Nat × Nat} {w w' : World} {o : Nat × Nat} {ob : Ob} (h : Holds tag w o ob) (hK : Keeps S w w') (ho : ∀ k, k < w.heap.size → S k → tag k ≠ o) (hs : ∀ k, k < w.heap.size → tag' k = tag k) : Holds tag' w' o ob := by
  cases ob with
  | nothing => trivial
  | base w0 =>
    have hz : ∀ k, k < w0.heap.size → k < w.heap.size := fun k hk => Nat.lt_of_lt_of_le hk h.2.size
    exact ⟨fun k hk => by rw [hs k (hz k hk)]; exact h.1 k hk, ⟨hK.os.trans h.2.os, hK.tape.trans h.2.tape, hK.output.trans h.2.output, Nat.le_trans h.2.size hK.size, fun k hk _ => (hK.block k (hz k hk) fun hS => ho k (hz k hk) hS (h.1 k hk)).trans (h.2.block k hk fun e => e)⟩⟩
  | blk b l t =>
    have hb := h.1.lt
    exact ⟨h.1.kept hK fun hS => ho b hb hS h.2, by rw [hs b hb]; exact h.2⟩
  | row e size v n vs =>
    have hb := fun k hk => owns_lt (g := k) h.1 hk
    exact ⟨owns_kept h.1 hK fun k hk hS => ho k (hb k hk) hS (h.2 k hk), fun k hk => by rw [hs k (hb k hk)]; exact h.2 k hk⟩
  | mm b g xs =>
    obtain ⟨h1, h2, h3⟩ := h
    have hb := h1.ltb
    have hg := h1.ltg
    exact ⟨h1.kept hK (fun hS => ho b hb hS h2) (fun hS => ho g hg hS h3), by rw [hs b hb]; exact h2, by rw [hs g hg]; exact h3⟩
  | rm b g xs =>
    obtain ⟨h1, h2, h3⟩ := h
    have hb := h1.ltb
    have hg := h1.ltg
    exact ⟨h1.kept hK (fun hS => ho b hb hS h2) (fun hS => ho g hg hS h3), by rw [hs b hb]; exact h2, by rw [hs g hg]; exact h3⟩

def upd (s : Nat × Nat → Ob) (o : Nat × Nat) (ob : Ob) : Nat × Nat → Ob := fun o' => if o' = o then ob else s o'
theorem upd_self (s : Nat × Nat → Ob) (o : Nat × Nat) (ob : Ob) : upd s o ob o = ob := if_pos rfl
theorem upd_ne (s : Nat × Nat → Ob) (o o' : Nat × Nat) (ob : Ob) (h : o' ≠ o) : upd s o ob o' = s o' := if_neg h

/-- Each key holds what the state says, and no block belongs to two. -/
def Has (s : Nat × Nat → Ob) (w : World) : Prop := ∃ tag, ∀ o, Holds tag w o (s o)

def ext (tag : Nat → Nat × Nat) (n : Nat) (o : Nat × Nat) : Nat → Nat × Nat := fun k => if k < n then tag k else o

section
variable {s : Nat × Nat → Ob} {w w' : World} {o : Nat × Nat}

theorem has_step {S : Nat → Prop} {tag : Nat → Nat × Nat} {ob : Ob} (h : ∀ o, Holds tag w o (s o)) (hK : Keeps S w w') (ho : ∀ k, k < w.heap.size → S k → tag k = o)
    (h0 : Holds (ext tag w.heap.size o) w' o ob) : Has (upd s o ob) w' := by
  refine ⟨ext tag w.heap.size o, fun o' => ?_⟩
  by_cases e : o' = o
  · subst e; rw [upd_self]; exact h0
  · rw [upd_ne _ _ _ _ e]
    exact (h o').kept hK (fun k hk hS e2 => e (e2.symm.trans (ho k hk hS))) fun k hk => if_pos hk

theorem ext_old {tag : Nat → Nat × Nat} {n k : Nat} (h : tag k = o) : ext tag n o k = o := by
  unfold ext
  split
  · exact h
  · rfl
theorem ext_new {tag : Nat → Nat × Nat} {n k : Nat} (h : n ≤ k) : ext tag n o k = o := if_neg (by omega)

/-- Nothing old was changed. -/
theorem Has.quiet (h : Has s w) (hK : Keeps (fun _ => False) w w') : Has s w' := by
  obtain ⟨tag, h⟩ := h
  exact ⟨tag, fun o => (h o).kept hK (fun _ _ e => e.elim) fun _ _ => rfl⟩

theorem Has.mm {b g : Nat} {xs : List UInt32} (h : Has s w) (hs : s o = .mm b g xs) : Mm w b g xs ∧ ∀ w' xs', Mm w' b g xs' → Keeps (· = g) w w' → Has (upd s o (.mm b g xs')) w' := by
  obtain ⟨tag, h⟩ := h
  have ho := h o
  rw [hs] at ho
  obtain ⟨h1, h2, h3⟩ := ho
  refine ⟨h1, fun w' xs' hw hK => has_step h hK ?_ ⟨hw, ext_old h2, ext_old h3⟩⟩
  rintro k _ rfl
  exact h3

theorem Has.rm {b g : Nat} {xs : List UInt32} (h : Has s w) (hs : s o = .rm b g xs) : Rm w b g xs ∧ ∀ w' xs', Rm w' b g xs' → Keeps (· = g) w w' → Has (upd s o (.rm b g xs')) w' := by
  obtain ⟨tag, h⟩ := h
  have ho := h o
  rw [hs] at ho
  obtain ⟨h1, h2, h3⟩ := ho
  refine ⟨h1, fun w' xs' hw hK => has_step h hK ?_ ⟨hw, ext_old h2, ext_old h3⟩⟩
  rintro k _ rfl
  exact h3

theorem Has.row {e : TypeId} {size n : Nat} {v : Value} {vs : List Value} (h : Has s w) (hs : s o = .row e size v n vs) : w.ownsRow 0 e size v n vs ∧ ∀ w' v' n' vs', w'.ownsRow 0 e size v' n' vs' → Grew w v w' v' → Has (upd s o (.row e size v' n' vs')) w' := by
  obtain ⟨tag, h⟩ := h
  have ho := h o
  rw [hs] at ho
  obtain ⟨h1, h3⟩ := ho
  refine ⟨h1, fun w' v' n' vs' hw hD => has_step h hD.keeps (fun k _ e => h3 k e.symm) ⟨hw, fun k hk => ?_⟩⟩
  rcases hD.fresh with e | ⟨k', e, hk'⟩
  · exact ext_old (h3 _ (by rw [← e]; exact hk))
  · rw [e] at hk; cases hk; exact ext_new hk'

theorem Has.blk {b : Nat} {l : List Value} {t : TypeId} (h : Has s w) (hs : s o = .blk b l t) : Blk w b l t ∧ ∀ w' l' t', Blk w' b l' t' → Keeps (· = b) w w' → Has (upd s o (.blk b l' t')) w' := by
  obtain ⟨tag, h⟩ := h
  have ho := h o
  rw [hs] at ho
  obtain ⟨h1, h2⟩ := ho
  refine ⟨h1, fun w' l' t' hw hK => has_step h hK ?_ ⟨hw, ext_old h2⟩⟩
  rintro k _ rfl
  exact h2

theorem Has.base {w0 : World} (h : Has s w) (hs : s o = .base w0) : Keeps (fun _ => False) w0 w := by
  obtain ⟨tag, h⟩ := h
  have ho := h o
  rw [hs] at ho
  exact ho.2

/-- New objects in new memory. -/
theorem Has.newBlk {b : Nat} {l : List Value} {t : TypeId} (h : Has s w) (o : Nat × Nat) (hb : Blk w' b l t) (hn : w.heap.size ≤ b) (hK : Keeps (fun _ => False) w w') : Has (upd s o (.blk b l t)) w' := by
  obtain ⟨tag, h⟩ := h
  exact has_step h hK (fun _ _ e => e.elim) ⟨hb, ext_new hn⟩
theorem Has.newRow {e : TypeId} {size n : Nat} {v : Value} {vs : List Value} (h : Has s w) (o : Nat × Nat) (hb : w'.ownsRow 0 e size v n vs) (hn : ∀ k, v.ownBlock = some k → w.heap.size ≤ k) (hK : Keeps (fun _ => False) w w') : Has (upd s o (.row e size v n vs)) w' := by
  obtain ⟨tag, h⟩ := h
  exact has_step h hK (fun _ _ e => e.elim) ⟨hb, fun k hk => ext_new (hn k hk)⟩
theorem Has.newMm {b g : Nat} {xs : List UInt32} (h : Has s w) (o : Nat × Nat) (hb : Mm w' b g xs) (hn : w.heap.size ≤ b) (hg : w.heap.size ≤ g) (hK : Keeps (fun _ => False) w w') : Has (upd s o (.mm b g xs)) w' := by
  obtain ⟨tag, h⟩ := h
  exact has_step h hK (fun _ _ e => e.elim) ⟨hb, ext_new hn, ext_new hg⟩
theorem Has.newRm {b g : Nat} {xs : List UInt32} (h : Has s w) (o : Nat × Nat) (hb : Rm w' b g xs) (hn : w.heap.size ≤ b) (hg : w.heap.size ≤ g) (hK : Keeps (fun _ => False) w w') : Has (upd s o (.rm b g xs)) w' := by
  obtain ⟨tag, h⟩ := h
  exact has_step h hK (fun _ _ e => e.elim) ⟨hb, ext_new hn, ext_new hg⟩

/-- The blocks of two keys are not one. -/
theorem Has.blk_ne_base {o2 : Nat × Nat} {b : Nat} {l : List Value} {t : TypeId} {w0 : World} (h : Has s w) (hs : s o = .blk b l t) (hs2 : s o2 = .base w0) (hne : o ≠ o2) : ∀ k, k < w0.heap.size → k ≠ b := by
  obtain ⟨tag, h⟩ := h
  have h1 := h o
  have h2 := h o2
  rw [hs] at h1
  rw [hs2] at h2
  rintro k hk rfl
  exact hne (h1.2.symm.trans (h2.1 k hk))
variable {o2 : Nat × Nat}
theorem Has.row_ne {e e2 : TypeId} {z z2 n n2 k : Nat} {v v2 : Value} {vs vs2 : List Value} (h : Has s w) (h1 : s o = .row e z v n vs) (h2 : s o2 = .row e2 z2 v2 n2 vs2) (hne : o ≠ o2) (hk : v.ownBlock = some k) : v2.ownBlock ≠ some k := by
  obtain ⟨tag, h⟩ := h
  have g1 := h o
  have g2 := h o2
  rw [h1] at g1
  rw [h2] at g2
  intro hk2
  exact hne ((g1.2 k hk).symm.trans (g2.2 k hk2))
theorem Has.row_ne_blk {e t : TypeId} {z n b : Nat} {v : Value} {vs l : List Value} (h : Has s w) (h1 : s o = .row e z v n vs) (h2 : s o2 = .blk b l t) (hne : o ≠ o2) : v.ownBlock ≠ some b := by
  obtain ⟨tag, h⟩ := h
  have g1 := h o
  have g2 := h o2
  rw [h1] at g1
  rw [h2] at g2
  intro hk
  exact hne ((g1.2 b hk).symm.trans g2.2)
end

theorem Has.row_ge {s : Nat × Nat → Ob} {w w0 : World} {o o2 : Nat × Nat} {e : TypeId} {z n k : Nat} {v : Value} {vs : List Value} (h : Has s w) (h1 : s o = .row e z v n vs) (h2 : s o2 = .base w0) (hne : o ≠ o2) (hk : v.ownBlock = some k) : w0.heap.size ≤ k := by
  obtain ⟨tag, h⟩ := h
  have g1 := h o
  have g2 := h o2
  rw [h1] at g1
  rw [h2] at g2
  refine Nat.le_of_not_lt fun hlt => hne ((g1.2 k hk).symm.trans (g2.1 k hlt))

end Go.Proofs.Ytljhdijledclhaa
