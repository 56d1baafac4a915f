import Derived.Test.YtffhkapegmnklaaListN
import Derived.Test.YtffhkapegmnklaaM
namespace Go.Proofs.Ytffhkapegmnklaa
open Go.RowKit Go.Shelf
attribute [local go_sem] Oper.semAt_some
set_option linter.unusedVariables false

theorem things_put' {rm : Nat} {k n : Int} {ks : List (Int × Value)} (h : Things ks) : Things (putL rm k (.int .i64 n) ks) := things_put h
theorem things_del {k : Int} {ks : List (Int × Value)} (h : Things ks) : Things (del k ks) := fun p hp => h p (List.mem_filter.1 hp).1
theorem things_got {k : Int} {ks : List (Int × Value)} (h : Things ks) : Things (touch k ks) := by
  unfold touch
  cases hl : look k ks with
  | none => exact h
  | some v =>
    intro p hp
    rcases List.mem_append.1 hp with hp | hp
    · exact h p (List.mem_filter.1 hp).1
    · simp at hp
      rw [hp]
      unfold look at hl
      obtain ⟨q, hq, he⟩ := Option.map_eq_some_iff.1 hl
      rw [← he]
      exact h q (List.mem_of_find?_eq_some hq)

/-- Where the outer range stands: the shelf with whatever is on it now, the count. -/
structure WI (X0 : World) (s rm : Nat) (F0 : Nat → Prop) (Ib g i : Nat) (X : World) : Prop where
  hi : g < X.heap.size
  lo : X0.heap.size + 2 ≤ g
  sh : ∃ kvs F, Sf X s rm kvs F ∧ Things kvs ∧ ∀ b, F b → F0 b ∨ (X0.heap.size + 2 ≤ b ∧ b ≠ g)
  k : Keeps (fun b => b = Ib ∨ F0 b) X0 X
  ib : Blk X Ib [.int .i64 i] 3

/-- What the range's blocks are. -/
structure WF0 (X0 : World) (F0 : Nat → Prop) (Ib : Nat) : Prop where
  ib : Ib < X0.heap.size
  no : ¬ F0 Ib
  lt : ∀ b, F0 b → b < X0.heap.size

section
variable {X0 X X' : World} {s rm : Nat} {F0 : Nat → Prop} {Ib g i : Nat}
theorem WI.kept (h : WI X0 s rm F0 Ib g i X) (hf : WF0 X0 F0 Ib) (hK : Keeps (fun k => k = X0.heap.size ∨ k = X0.heap.size + 1) X X') : WI X0 s rm F0 Ib g i X' := by
  obtain ⟨kvs, F, h1, h2, h3⟩ := h.sh
  refine ⟨Nat.lt_of_lt_of_le h.hi hK.size, h.lo, ⟨kvs, F, h1.kept hK fun b hb he => ?_, h2, h3⟩, h.k.trans hK fun b hb he => by omega, h.ib.kept hK fun he => by have := hf.ib; omega⟩
  rcases h3 b hb with h' | h'
  · have := hf.lt b h'; omega
  · omega
theorem WI.grown (h : WI X0 s rm F0 Ib g i X) (hf : WF0 X0 F0 Ib) (hK : Keeps (fun _ => False) X X') : WI X0 s rm F0 Ib g i X' := h.kept hf (hK.mono fun _ _ h => h.elim)
theorem kept_grown (h : WI X0 s rm F0 Ib g i X) (hK : Keeps (fun _ => False) X X') : KeptAt X0.heap.size g X X' := by
  have h1 := h.hi
  have h2 := h.lo
  exact ⟨hK.block _ (by omega) fun h => h, hK.block _ (by omega) fun h => h, hK.block _ (by omega) fun h => h⟩
theorem KeptAt.trans {B g : Nat} {A C D : World} (h : KeptAt B g A C) (k : KeptAt B g C D) : KeptAt B g A D := ⟨k.1.trans h.1, k.2.1.trans h.2.1, k.2.2.trans h.2.2⟩

/-- A step on the shelf. -/
theorem WI.step (h : WI X0 s rm F0 Ib g i X) (hf : WF0 X0 F0 Ib) {Pe : Ending → Prop} {f : Nat} {args : Array Value}
    (hc : ∀ kvs F, Sf X s rm kvs F → Things kvs → Calls Try.prog f args X fun e X' => Pe e ∧ ∃ kvs', Things kvs' ∧ Now X X' s rm kvs' F) :
    Calls Try.prog f args X fun e X' => Pe e ∧ WI X0 s rm F0 Ib g i X' ∧ KeptAt X0.heap.size g X X' := by
  obtain ⟨kvs, F, h1, h2, h3⟩ := h.sh
  have hg := h.hi
  have hl := h.lo
  refine (hc kvs F h1 h2).mono ?_
  rintro e X' ⟨hp, kvs', ht, ⟨⟨F', hS, hF⟩, hK⟩⟩
  have nf : ∀ b, X0.heap.size ≤ b → (b < X0.heap.size + 2 ∨ b = g) → ¬ F b := fun b hb hb2 hfb => by
    rcases h3 b hfb with h' | h'
    · have := hf.lt b h'; omega
    · omega
  refine ⟨hp, ⟨Nat.lt_of_lt_of_le hg hK.size, hl, ⟨kvs', F', hS, ht, fun b hb => ?_⟩, h.k.trans hK fun b hb hfb => ?_, h.ib.kept hK fun hfb => ?_⟩, ⟨hK.block _ (by omega) (nf _ (by omega) (by omega)), hK.block _ (by omega) (nf _ (by omega) (by omega)), hK.block _ (by omega) (nf _ (by omega) (by omega))⟩⟩
  · rcases hF b hb with h' | h'
    · exact h3 b h'
    · exact .inr ⟨by omega, by omega⟩
  · rcases h3 b hfb with h' | h'
    · exact .inr h'
    · omega
  · rcases h3 _ hfb with h' | h'
    · exact hf.no h'
    · have := hf.ib; omega
/-- The count goes on. -/
theorem WI.count (h : WI X0 s rm F0 Ib g i X) (hf : WF0 X0 F0 Ib) (n : Nat) : WI X0 s rm F0 Ib g n (X.setCell ⟨Ib, 0, none⟩ (.int .i64 n)) ∧ KeptAt X0.heap.size g X (X.setCell ⟨Ib, 0, none⟩ (.int .i64 n)) := by
  obtain ⟨kvs, F, h1, h2, h3⟩ := h.sh
  have hg := h.hi
  have hl := h.lo
  have hib := hf.ib
  have hK : Keeps (· = Ib) X (X.setCell ⟨Ib, 0, none⟩ (.int .i64 n)) := (Keeps.refl _ X).setCell _ _ fun _ => rfl
  refine ⟨⟨Nat.lt_of_lt_of_le hg hK.size, hl, ⟨kvs, F, h1.kept hK fun b hb he => ?_, h2, h3⟩, h.k.trans hK fun b hb he => .inl he, h.ib.setCell 0 _⟩, ⟨hK.block _ (by omega) (by omega), hK.block _ (by omega) (by omega), hK.block _ (by omega) (by omega)⟩⟩
  rcases h3 b hb with h' | h'
  · rw [he] at h'; exact hf.no h'
  · omega
end

/-- A list of pairs that can be read. -/
def SegP (w : World) (a : Option Addr) (kvs : List (Int × Value)) : Prop := kvs = [] ∨ ∃ g, a = some ⟨g, 0, none⟩ ∧ ∀ j p, kvs[j]? = some p → w.cell? ⟨g, j * 2, none⟩ = some (.int .i64 p.1) ∧ w.cell? ⟨g, j * 2 + 1, none⟩ = some p.2
theorem SegP.kept {S : Nat → Prop} {w w' : World} {a : Option Addr} {ws : List (Int × Value)} (h : SegP w a ws) (hK : Keeps S w w') (hn : ∀ x, a = some x → x.block < w.heap.size → ¬ S x.block) : SegP w' a ws := by
  rcases h with h | ⟨g, ha, hc⟩
  · exact .inl h
  · refine .inr ⟨g, ha, fun j p hj => ?_⟩
    obtain ⟨h1, h2⟩ := hc j p hj
    have hlt : g < w.heap.size := World.block_lt_of_cell? w ⟨g, j * 2, none⟩ h1
    have hb := hK.block g hlt (hn _ ha hlt)
    exact ⟨(World.cell?_of_block (w := w) (a := ⟨g, j * 2, none⟩) hb).trans h1, (World.cell?_of_block (w := w) (a := ⟨g, j * 2 + 1, none⟩) hb).trans h2⟩

end Go.Proofs.Ytffhkapegmnklaa
