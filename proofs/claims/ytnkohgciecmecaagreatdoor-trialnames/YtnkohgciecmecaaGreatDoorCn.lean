import Derived.Test.YtnkohgciecmecaaGreatDoorCf
namespace Go.Proofs.YtnkohgciecmecaaGreatDoor
open Go.RowKit
set_option linter.unusedVariables false
set_option maxRecDepth 6000

theorem Cfg.In.keeps {x : Cfg} {w w' : World} {N : Nat} (h : x.In w N) (hN : N ≤ w.heap.size) (hK : Keeps (fun _ => False) w w') : x.In w' N := h.below (hK.below hN fun _ h => h.elim)
theorem Cfg.In.core {x : Cfg} {w : World} {N : Nat} (h : x.In w N) {k : Nat} {X : Core} (hX : x.cs[k]? = some X) :
    ∃ g o, x.ca = some ⟨g, o, none⟩ ∧ w.cell? ⟨g, o + k, none⟩ = some X.v := by
  obtain ⟨g, o, ha, hc⟩ := h.cseg.at hX
  refine ⟨g, o, ha, ?_⟩
  have := hc 0 _ rfl
  rw [Nat.mul_one, Nat.add_zero] at this
  exact this
/-- A configuration laid into a block. -/
abbrev Cfg.laid (w : World) (x : Cfg) : World := w.alloc (.cells #[.int .i64 x.frames, .int .i64 x.major, .int .i64 x.kernel, .int .i64 x.room, .slice x.ca x.cs.length x.cc, .slice x.pa x.ps.length x.pc, .slice x.ha x.hs.length x.hc] 29)

/-- A configuration in a block of its own. -/
structure One (w : World) (x : Cfg) (C N : Nat) (w' : World) : Prop where
  cfg : Blk w' C x.vs 29
  keeps : Keeps (fun _ => False) w w'
  cin : x.In w' N
  lo : w.heap.size ≤ C
  n : N ≤ w.heap.size
theorem One.mk' {w : World} {x : Cfg} {N : Nat} (hi : x.In w N) (hN : N ≤ w.heap.size) : One w x w.heap.size N (x.laid w) :=
  ⟨Blk.new w _ _, (Keeps.refl _ _).alloc _, hi.keeps hN ((Keeps.refl _ _).alloc _), Nat.le_refl _, hN⟩
theorem One.kept {w : World} {x : Cfg} {C N : Nat} {w' w'' : World} (h : One w x C N w') (hK : Keeps (fun _ => False) w' w'') : One w x C N w'' :=
  ⟨h.cfg.kept hK fun h => h, h.keeps.trans hK fun _ _ h => h, h.cin.keeps (Nat.le_trans h.n h.keeps.size) hK, h.lo, h.n⟩
theorem One.nn {w : World} {x : Cfg} {C N : Nat} {w' : World} (h : One w x C N w') : N ≤ w'.heap.size := Nat.le_trans h.n h.keeps.size


theorem One.kept' {w : World} {x : Cfg} {C N : Nat} {w' w'' : World} {S : Nat → Prop} (h : One w x C N w') (hK : Keeps S w' w'') (hC : ¬ S C) (hN : ∀ k, S k → N ≤ k) (hw : ∀ k, S k → w.heap.size ≤ k) : One w x C N w'' :=
  ⟨h.cfg.kept hK hC, h.keeps.trans hK fun k hk e => absurd hk (by have := hw k e; omega), h.cin.below (hK.below h.nn hN), h.lo, h.n⟩
theorem Cfg.In.par {x : Cfg} {w : World} {N : Nat} (h : x.In w N) {k : Nat} {X : Par} (hX : x.ps[k]? = some X) :
    ∃ g o, x.pa = some ⟨g, o, none⟩ ∧ ∀ i v, X.vs[i]? = some v → w.cell? ⟨g, o + k * 8 + i, none⟩ = some v := h.pseg.at hX
theorem Cfg.In.chn {x : Cfg} {w : World} {N : Nat} (h : x.In w N) {k : Nat} {X : Chn} (hX : x.hs[k]? = some X) :
    ∃ g o, x.ha = some ⟨g, o, none⟩ ∧ ∀ i v, X.vs[i]? = some v → w.cell? ⟨g, o + k * 3 + i, none⟩ = some v := h.hseg.at hX
theorem One.cells {w : World} {x : Cfg} {C N : Nat} {w' : World} (h : One w x C N w') :
    w'.cell? ⟨C, 0, none⟩ = some (.int .i64 x.frames) ∧ w'.cell? ⟨C, 1, none⟩ = some (.int .i64 x.major) ∧ w'.cell? ⟨C, 2, none⟩ = some (.int .i64 x.kernel) ∧ w'.cell? ⟨C, 3, none⟩ = some (.int .i64 x.room) ∧
    w'.cell? ⟨C, 4, none⟩ = some (.slice x.ca x.cs.length x.cc) ∧ w'.cell? ⟨C, 5, none⟩ = some (.slice x.pa x.ps.length x.pc) ∧ w'.cell? ⟨C, 6, none⟩ = some (.slice x.ha x.hs.length x.hc) :=
  ⟨h.cfg.cell rfl, h.cfg.cell rfl, h.cfg.cell rfl, h.cfg.cell rfl, h.cfg.cell rfl, h.cfg.cell rfl, h.cfg.cell rfl⟩
end Go.Proofs.YtnkohgciecmecaaGreatDoor
