import Derived.Test.YtonjmknjjdnjkaaExK
namespace Go.Proofs.Ytonjmknjjdnjkaa
open Go.RowKit
set_option linter.unusedVariables false

/-! ### Objects that lie apart: each block belongs to one key; a step changes the blocks of one key alone -/

/-- What a key holds. -/
inductive Ob
  | nothing
  | base (w0 : World)
  | blk (b : Nat) (l : List Value) (t : TypeId)
  | row (e : TypeId) (size : Nat) (v : Value) (n : Nat) (vs : List Value)
  | wr (b : Nat) (xs : List UInt8)
  | dw (b : Nat) (v : Value) (xs : List UInt8)
  | rd (b : Nat) (xs : List UInt8) (p : Nat) (er : Int)
  | dr (b : Nat) (v : Value) (xs : List UInt8) (p : Nat) (er : Int)

def Holds (tag : Nat → Nat × Nat) (w : World) (o : Nat × Nat) : Ob → Prop
  | .nothing => True
  | .base w0 => (∀ k, k < w0.heap.size → tag k = o) ∧ Keeps (fun _ => False) w0 w
  | .blk b l t => Blk w b l t ∧ tag b = o
  | .row e size v n vs => w.ownsRow 0 e size v n vs ∧ ∀ k, v.ownBlock = some k → tag k = o
  | .wr b xs => ∃ g, Wr w b g xs ∧ tag b = o ∧ ∀ k, g = some k → tag k = o
  | .dw b v xs => RW w b v xs ∧ tag b = o ∧ ∀ k, v.ownBlock = some k → tag k = o
  | .rd b xs p er => ∃ g, Rd w b g xs p er ∧ tag b = o ∧ tag g = o
  | .dr b v xs p er => RR w b v xs p er ∧ tag b = o ∧ ∀ k, v.ownBlock = some k → tag k = o

theorem Wr.lt {w : World} {b : Nat} {g : Option Nat} {xs : List UInt8} (h : Wr w b g xs) : b < w.heap.size ∧ ∀ k, g = some k → k < w.heap.size := by
  cases g with
  | none => exact ⟨h.2.lt, fun k e => by cases e⟩
  | some g =>
    obtain ⟨rest, _, h1, h2, _⟩ := h
    exact ⟨h1.lt, fun k e => by cases e; exact h2.lt⟩

theorem RW.kept {S : Nat → Prop} {w w' : World} {b : Nat} {v : Value} {xs : List UInt8} (h : RW w b v xs) (hK : Keeps S w w') (hb : ¬ S b) (hv : ∀ k, v.ownBlock = some k → ¬ S k) : RW w' b v xs :=
  ⟨h.blk.kept hK hb, owns_kept h.row hK hv, h.ne⟩
theorem RR.kept {S : Nat → Prop} {w w' : World} {b p : Nat} {er : Int} {v : Value} {xs : List UInt8} (h : RR w b v xs p er) (hK : Keeps S w w') (hb : ¬ S b) (hv : ∀ k, v.ownBlock = some k → ¬ S k) : RR w' b v xs p er :=
  ⟨h.blk.kept hK hb, owns_kept h.row hK hv, h.ne, h.le⟩

theorem Holds.kept {S : Nat → Prop} {tag tag' : Nat → Nat × Nat} {w w' : World} {o : Nat × Nat} {ob : Ob} (h : Holds tag w o ob) (hK : Keeps S w w') (ho : ∀ k, k < w.heap.size → S k → tag k ≠ o) (hs : ∀ k, k < w.heap.size → tag' k = tag k) : Holds tag' w' o ob := by
  cases ob with
  | nothing => trivial
  | base w0 =>
    have hz : ∀ k, k < w0.heap.size → k < w.heap.size := fun k hk => Nat.lt_of_lt_of_le hk h.2.size
    exact ⟨fun k hk => by rw [hs k (hz k hk)]; exact h.1 k hk, ⟨hK.os.trans h.2.os, hK.tape.trans h.2.tape, hK.output.trans h.2.output, Nat.le_trans h.2.size hK.size, fun k hk _ => (hK.block k (hz k hk) fun hS => ho k (hz k hk) hS (h.1 k hk)).trans (h.2.block k hk fun e => e)⟩⟩
  | blk b l t =>
    have hb := h.1.lt
    exact ⟨h.1.kept hK fun hS => ho b hb hS h.2, by rw [hs b hb]; exact h.2⟩
  | row e size v n vs =>
    have hb := h.1.lt
    exact ⟨owns_kept h.1 hK fun k hk hS => ho k (hb k hk).2 hS (h.2 k hk), fun k hk => by rw [hs k (hb k hk).2]; exact h.2 k hk⟩
  | wr b xs =>
    obtain ⟨g, h1, h2, h3⟩ := h
    obtain ⟨hb, hg⟩ := h1.lt
    exact ⟨g, wr_kept h1 hK (fun hS => ho b hb hS h2) (fun k hk hS => ho k (hg k hk) hS (h3 k hk)), by rw [hs b hb]; exact h2, fun k hk => by rw [hs k (hg k hk)]; exact h3 k hk⟩
  | dw b v xs =>
    obtain ⟨h1, h2, h3⟩ := h
    have hb := h1.blk.lt
    have hv := h1.row.lt
    exact ⟨h1.kept hK (fun hS => ho b hb hS h2) (fun k hk hS => ho k (hv k hk).2 hS (h3 k hk)), by rw [hs b hb]; exact h2, fun k hk => by rw [hs k (hv k hk).2]; exact h3 k hk⟩
  | rd b xs p er =>
    obtain ⟨g, h1, h2, h3⟩ := h
    have hb := h1.blk.lt
    have hg := h1.bytes.lt
    exact ⟨g, h1.kept hK (fun hS => ho b hb hS h2) (fun hS => ho g hg hS h3), by rw [hs b hb]; exact h2, by rw [hs g hg]; exact h3⟩
  | dr b v xs p er =>
    obtain ⟨h1, h2, h3⟩ := h
    have hb := h1.blk.lt
    have hv := h1.row.lt
    exact ⟨h1.kept hK (fun hS => ho b hb hS h2) (fun k hk hS => ho k (hv k hk).2 hS (h3 k hk)), by rw [hs b hb]; exact h2, fun k hk => by rw [hs k (hv k hk).2]; exact h3 k hk⟩

def upd (s : Nat × Nat → Ob) (o : Nat × Nat) (ob : Ob) : Nat × Nat → Ob := fun o' => if o' = o then ob else s o'
theorem upd_self (s : Nat × Nat → Ob) (o : Nat × Nat) (ob : Ob) : upd s o ob o = ob := if_pos rfl
theorem upd_ne (s : Nat × Nat → Ob) (o o' : Nat × Nat) (ob : Ob) (h : o' ≠ o) : upd s o ob o' = s o' := if_neg h

/-- Each key holds what the state says, and no block belongs to two. -/
def Has (s : Nat × Nat → Ob) (w : World) : Prop := ∃ tag, ∀ o, Holds tag w o (s o)

def ext (tag : Nat → Nat × Nat) (n : Nat) (o : Nat × Nat) : Nat → Nat × Nat := fun k => if k < n then tag k else o

section
variable {s : Nat × Nat → Ob} {w w' : World} {o : Nat × Nat}

theorem has_step {S : Nat → Prop} {tag : Nat → Nat × Nat} {ob : Ob} (h : ∀ o, Holds tag w o (s o)) (hK : Keeps S w w') (ho : ∀ k, k < w.heap.size → S k → tag k = o)
    (h0 : Holds (ext tag w.heap.size o) w' o ob) : Has (upd s o ob) w' := by
  refine ⟨ext tag w.heap.size o, fun o' => ?_⟩
  by_cases e : o' = o
  · subst e; rw [upd_self]; exact h0
  · rw [upd_ne _ _ _ _ e]
    exact (h o').kept hK (fun k hk hS e2 => e (e2.symm.trans (ho k hk hS))) fun k hk => if_pos hk

theorem ext_old {tag : Nat → Nat × Nat} {n k : Nat} (h : tag k = o) : ext tag n o k = o := by
  unfold ext
  split
  · exact h
  · rfl
theorem ext_new {tag : Nat → Nat × Nat} {n k : Nat} (h : n ≤ k) : ext tag n o k = o := if_neg (by omega)

/-- Nothing old was changed. -/
theorem Has.quiet (h : Has s w) (hK : Keeps (fun _ => False) w w') : Has s w' := by
  obtain ⟨tag, h⟩ := h
  exact ⟨tag, fun o => (h o).kept hK (fun _ _ e => e.elim) fun _ _ => rfl⟩

theorem Has.wr {b : Nat} {xs : List UInt8} (h : Has s w) (hs : s o = .wr b xs) : ∃ g, Wr w b g xs ∧ ∀ w' g' xs', Wr w' b (some g') xs' → (g = some g' ∨ w.heap.size ≤ g') → Keeps (fun k => k = b ∨ some k = g) w w' → Has (upd s o (.wr b xs')) w' := by
  obtain ⟨tag, h⟩ := h
  have ho := h o
  rw [hs] at ho
  obtain ⟨g, h1, h2, h3⟩ := ho
  refine ⟨g, h1, fun w' g' xs' hw hg hK => has_step h hK ?_ ⟨some g', hw, ext_old h2, fun k hk => ?_⟩⟩
  · rintro k _ (rfl | e)
    · exact h2
    · exact h3 k e.symm
  · cases hk
    rcases hg with e | e
    · exact ext_old (h3 _ e)
    · exact ext_new e

theorem Has.dw {b : Nat} {v : Value} {xs : List UInt8} (h : Has s w) (hs : s o = .dw b v xs) : RW w b v xs ∧ ∀ w' v' xs', RW w' b v' xs' → Does w b v w' v' → Has (upd s o (.dw b v' xs')) w' := by
  obtain ⟨tag, h⟩ := h
  have ho := h o
  rw [hs] at ho
  obtain ⟨h1, h2, h3⟩ := ho
  refine ⟨h1, fun w' v' xs' hw hD => has_step h hD.keeps ?_ ⟨hw, ext_old h2, fun k hk => ?_⟩⟩
  · rintro k _ (rfl | e)
    · exact h2
    · exact h3 k e.symm
  · rcases hD.fresh with e | ⟨k', e, hk'⟩
    · exact ext_old (h3 _ (by rw [← e]; exact hk))
    · rw [e] at hk; cases hk; exact ext_new hk'

theorem Has.rd {b p : Nat} {er : Int} {xs : List UInt8} (h : Has s w) (hs : s o = .rd b xs p er) : ∃ g, Rd w b g xs p er ∧ ∀ w' p' er', Rd w' b g xs p' er' → Keeps (· = b) w w' → Has (upd s o (.rd b xs p' er')) w' := by
  obtain ⟨tag, h⟩ := h
  have ho := h o
  rw [hs] at ho
  obtain ⟨g, h1, h2, h3⟩ := ho
  refine ⟨g, h1, fun w' p' er' hw hK => has_step h hK ?_ ⟨g, hw, ext_old h2, ext_old h3⟩⟩
  rintro k _ rfl
  exact h2

theorem Has.dr {b p : Nat} {v : Value} {er : Int} {xs : List UInt8} (h : Has s w) (hs : s o = .dr b v xs p er) : RR w b v xs p er ∧ ∀ w' p' er', RR w' b v xs p' er' → Keeps (· = b) w w' → Has (upd s o (.dr b v xs p' er')) w' := by
  obtain ⟨tag, h⟩ := h
  have ho := h o
  rw [hs] at ho
  obtain ⟨h1, h2, h3⟩ := ho
  refine ⟨h1, fun w' p' er' hw hK => has_step h hK ?_ ⟨hw, ext_old h2, fun k hk => ext_old (h3 k hk)⟩⟩
  rintro k _ rfl
  exact h2

theorem Has.row {e : TypeId} {size n : Nat} {v : Value} {vs : List Value} (h : Has s w) (hs : s o = .row e size v n vs) : w.ownsRow 0 e size v n vs ∧ ∀ w' v' n' vs', w'.ownsRow 0 e size v' n' vs' → Grew w v w' v' → Has (upd s o (.row e size v' n' vs')) w' := by
  obtain ⟨tag, h⟩ := h
  have ho := h o
  rw [hs] at ho
  obtain ⟨h1, h3⟩ := ho
  refine ⟨h1, fun w' v' n' vs' hw hD => has_step h hD.keeps (fun k _ e => h3 k e.symm) ⟨hw, fun k hk => ?_⟩⟩
  rcases hD.fresh with e | ⟨k', e, hk'⟩
  · exact ext_old (h3 _ (by rw [← e]; exact hk))
  · rw [e] at hk; cases hk; exact ext_new hk'

theorem Has.blk {b : Nat} {l : List Value} {t : TypeId} (h : Has s w) (hs : s o = .blk b l t) : Blk w b l t ∧ ∀ w' l' t', Blk w' b l' t' → Keeps (· = b) w w' → Has (upd s o (.blk b l' t')) w' := by
  obtain ⟨tag, h⟩ := h
  have ho := h o
  rw [hs] at ho
  obtain ⟨h1, h2⟩ := ho
  refine ⟨h1, fun w' l' t' hw hK => has_step h hK ?_ ⟨hw, ext_old h2⟩⟩
  rintro k _ rfl
  exact h2

theorem Has.base {w0 : World} (h : Has s w) (hs : s o = .base w0) : Keeps (fun _ => False) w0 w := by
  obtain ⟨tag, h⟩ := h
  have ho := h o
  rw [hs] at ho
  exact ho.2

/-- New objects in new memory. -/
theorem Has.newBlk {b : Nat} {l : List Value} {t : TypeId} (h : Has s w) (o : Nat × Nat) (hb : Blk w' b l t) (hn : w.heap.size ≤ b) (hK : Keeps (fun _ => False) w w') : Has (upd s o (.blk b l t)) w' := by
  obtain ⟨tag, h⟩ := h
  exact has_step h hK (fun _ _ e => e.elim) ⟨hb, ext_new hn⟩
theorem Has.newRow {e : TypeId} {size n : Nat} {v : Value} {vs : List Value} (h : Has s w) (o : Nat × Nat) (hb : w'.ownsRow 0 e size v n vs) (hn : ∀ k, v.ownBlock = some k → w.heap.size ≤ k) (hK : Keeps (fun _ => False) w w') : Has (upd s o (.row e size v n vs)) w' := by
  obtain ⟨tag, h⟩ := h
  exact has_step h hK (fun _ _ e => e.elim) ⟨hb, fun k hk => ext_new (hn k hk)⟩
theorem Has.newWr {b : Nat} (h : Has s w) (o : Nat × Nat) (hb : Wr w' b none []) (hn : w.heap.size ≤ b) (hK : Keeps (fun _ => False) w w') : Has (upd s o (.wr b [])) w' := by
  obtain ⟨tag, h⟩ := h
  exact has_step h hK (fun _ _ e => e.elim) ⟨none, hb, ext_new hn, fun k e => by cases e⟩
theorem Has.newDw {b : Nat} (h : Has s w) (o : Nat × Nat) (hb : RW w' b (.slice none 0 0) []) (hn : w.heap.size ≤ b) (hK : Keeps (fun _ => False) w w') : Has (upd s o (.dw b (.slice none 0 0) [])) w' := by
  obtain ⟨tag, h⟩ := h
  exact has_step h hK (fun _ _ e => e.elim) ⟨hb, ext_new hn, fun k e => by cases e⟩
theorem Has.newRd {b g p : Nat} {er : Int} {xs : List UInt8} (h : Has s w) (o : Nat × Nat) (hb : Rd w' b g xs p er) (hn : w.heap.size ≤ b) (hg : w.heap.size ≤ g) (hK : Keeps (fun _ => False) w w') : Has (upd s o (.rd b xs p er)) w' := by
  obtain ⟨tag, h⟩ := h
  exact has_step h hK (fun _ _ e => e.elim) ⟨g, hb, ext_new hn, ext_new hg⟩
theorem Has.newDr {b p : Nat} {v : Value} {er : Int} {xs : List UInt8} (h : Has s w) (o : Nat × Nat) (hb : RR w' b v xs p er) (hn : w.heap.size ≤ b) (hg : ∀ k, v.ownBlock = some k → w.heap.size ≤ k) (hK : Keeps (fun _ => False) w w') : Has (upd s o (.dr b v xs p er)) w' := by
  obtain ⟨tag, h⟩ := h
  exact has_step h hK (fun _ _ e => e.elim) ⟨hb, ext_new hn, fun k hk => ext_new (hg k hk)⟩

/-- The blocks of two keys are not one. -/
theorem Has.blk_ne_base {o2 : Nat × Nat} {b : Nat} {l : List Value} {t : TypeId} {w0 : World} (h : Has s w) (hs : s o = .blk b l t) (hs2 : s o2 = .base w0) (hne : o ≠ o2) : ∀ k, k < w0.heap.size → k ≠ b := by
  obtain ⟨tag, h⟩ := h
  have h1 := h o
  have h2 := h o2
  rw [hs] at h1
  rw [hs2] at h2
  rintro k hk rfl
  exact hne (h1.2.symm.trans (h2.1 k hk))
theorem Has.blk_ne_dw {o2 : Nat × Nat} {b b2 : Nat} {v : Value} {l : List Value} {t : TypeId} {xs : List UInt8} (h : Has s w) (hs : s o = .blk b l t) (hs2 : s o2 = .dw b2 v xs) (hne : o ≠ o2) : ∀ k, v.ownBlock = some k → k ≠ b := by
  obtain ⟨tag, h⟩ := h
  have h1 := h o
  have h2 := h o2
  rw [hs] at h1
  rw [hs2] at h2
  rintro k hk rfl
  exact hne (h1.2.symm.trans (h2.2.2 k hk))
end

theorem Try.info58 : (Try.prog.info? 58).map (fun i => (i.zero, i.size, i.bytes)) = some (some (.pointer none), 1, 8) := by kernel_rfl
theorem Try.info86 : (Try.prog.info? 86).map (fun i => (i.zero, i.size, i.bytes)) = some (some (.pointer none), 1, 8) := by kernel_rfl
theorem Try.info66 : (Try.prog.info? 66).map (fun i => (i.zero, i.size, i.bytes)) = some (some (.pointer none), 1, 8) := by kernel_rfl
theorem Try.info90 : (Try.prog.info? 90).map (fun i => (i.zero, i.size, i.bytes)) = some (some (.pointer none), 1, 8) := by kernel_rfl
theorem Try.info100 : (Try.prog.info? 100).map (fun i => (i.zero, i.size, i.bytes)) = some (some (.agg #[.slice none 0 0, .slice none 0 0, .slice none 0 0, .slice none 0 0]), 4, 96) := by kernel_rfl
theorem Try.info102 : (Try.prog.info? 102).map (fun i => (i.zero, i.size, i.bytes)) = some (some (.agg #[.slice none 0 0, .slice none 0 0, .slice none 0 0, .slice none 0 0]), 4, 96) := by kernel_rfl
theorem Try.under25 : Try.prog.underlying 25 = some (.slice 58) := by kernel_rfl
theorem Try.under26 : Try.prog.underlying 26 = some (.slice 86) := by kernel_rfl
theorem Try.under27 : Try.prog.underlying 27 = some (.slice 66) := by kernel_rfl
theorem Try.under28 : Try.prog.underlying 28 = some (.slice 90) := by kernel_rfl
theorem Try.under29 : Try.prog.underlying 29 = some (.slice 100) := by kernel_rfl
theorem Try.under30 : Try.prog.underlying 30 = some (.slice 102) := by kernel_rfl
end Go.Proofs.Ytonjmknjjdnjkaa
