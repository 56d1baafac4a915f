import Derived.Test.YtfbapgcopidbpaaGreatSq
namespace Go.Proofs.YtfbapgcopidbpaaGreat
open Go.RowKit
set_option linter.unusedVariables false
set_option linter.unusedSimpArgs false
set_option maxRecDepth 6000

/-- What whoever asks for a word of the kernel's area holds: the configuration in C, the word, the answer and what was found behind it; K is the counter's own variable, B what it counts with. -/
structure KO (w : World) (x : Cfg) (C N : Nat) (t : Int) (ok ob : Bool) (K B : Nat) (w' : World) : Prop where
  one : One w x C N w'
  word : Blk w' (C + 1) [.int .i64 t] 3
  res : Blk w' (C + 2) [.int .i64 0, .int .i64 0, .int .i64 0] 86
  found : Blk w' (C + 3) [.int .i64 0, .int .i64 0, .int .i64 0] 86
  sz : C + 4 ≤ w'.heap.size
  cw : C = w.heap.size
  kk : ok = true → Blk w' K [.nilFunc] 133 ∧ C + 4 ≤ K
  bb : ob = true → Blk w' B [.int .i64 (16 * x.kernel)] 3 ∧ C + 4 ≤ B
  ne : ok = true → ob = true → K ≠ B
theorem KO.kept {w : World} {x : Cfg} {C N : Nat} {t : Int} {ok ob : Bool} {K B : Nat} {w' w'' : World} (h : KO w x C N t ok ob K B w') (hK : Keeps (fun _ => False) w' w'') : KO w x C N t ok ob K B w'' :=
  ⟨h.one.kept hK, h.word.kept hK fun h => h, h.res.kept hK fun h => h, h.found.kept hK fun h => h, Nat.le_trans h.sz hK.size, h.cw, fun e => ⟨(h.kk e).1.kept hK fun h => h, (h.kk e).2⟩, fun e => ⟨(h.bb e).1.kept hK fun h => h, (h.bb e).2⟩, h.ne⟩
theorem KO.counts {w : World} {x : Cfg} {C N : Nat} {t : Int} {ok : Bool} {K B : Nat} {w' w'' : World} (h : KO w x C N t ok false K B w') (hK : Keeps (fun _ => False) w' w'') (hB : Blk w'' w'.heap.size [.int .i64 (16 * x.kernel)] 3) : KO w x C N t ok true K w'.heap.size w'' :=
  ⟨h.one.kept hK, h.word.kept hK fun h => h, h.res.kept hK fun h => h, h.found.kept hK fun h => h, Nat.le_trans h.sz hK.size, h.cw, fun e => ⟨(h.kk e).1.kept hK fun h => h, (h.kk e).2⟩, fun _ => ⟨hB, h.sz⟩, fun e _ => by have := (h.kk e).1.lt; omega⟩
theorem KO.var {w : World} {x : Cfg} {C N : Nat} {t : Int} {ob : Bool} {K B : Nat} {w' : World} (h : KO w x C N t false ob K B w') : KO w x C N t true ob w'.heap.size B (w'.alloc (.cells #[.nilFunc] 133)) := by
  have hK : Keeps (fun _ => False) w' (w'.alloc (.cells #[.nilFunc] 133)) := (Keeps.refl _ _).alloc _
  exact ⟨h.one.kept hK, h.word.kept hK fun h => h, h.res.kept hK fun h => h, h.found.kept hK fun h => h, Nat.le_trans h.sz hK.size, h.cw, fun _ => ⟨Blk.new _ _ _, h.sz⟩, fun e => ⟨(h.bb e).1.kept hK fun h => h, (h.bb e).2⟩, fun _ e => by have := (h.bb e).1.lt; omega⟩
/-- The same, with the counter in its variable. -/
structure KP (w : World) (x : Cfg) (C N : Nat) (t : Int) (K B : Nat) (w' : World) : Prop where
  one : One w x C N w'
  word : Blk w' (C + 1) [.int .i64 t] 3
  res : Blk w' (C + 2) [.int .i64 0, .int .i64 0, .int .i64 0] 86
  found : Blk w' (C + 3) [.int .i64 0, .int .i64 0, .int .i64 0] 86
  cw : C = w.heap.size
  fn : Blk w' K [.func (.func 96) #[] #[.pointer (some ⟨B, 0, none⟩)]] 133
  cnt : Blk w' B [.int .i64 (16 * x.kernel)] 3
  lo : C + 4 ≤ K ∧ C + 4 ≤ B ∧ K ≠ B
theorem KO.stored {w : World} {x : Cfg} {C N : Nat} {t : Int} {K B : Nat} {w' : World} (h : KO w x C N t true true K B w') : KP w x C N t K B (w'.setCell ⟨K, 0, none⟩ (.func (.func 96) #[] #[.pointer (some ⟨B, 0, none⟩)])) := by
  obtain ⟨hk, hl⟩ := h.kk rfl
  obtain ⟨hb, hm⟩ := h.bb rfl
  have hn := h.ne rfl rfl
  have hcw := h.cw
  have hN := h.one.n
  have hK : Keeps (fun k => k = K) w' (w'.setCell ⟨K, 0, none⟩ (.func (.func 96) #[] #[.pointer (some ⟨B, 0, none⟩)])) := (Keeps.refl _ _).setCell _ _ fun _ => rfl
  exact ⟨h.one.kept' hK (by omega) (fun k e => by omega) (fun k e => by omega), h.word.kept hK (by omega), h.res.kept hK (by omega), h.found.kept hK (by omega), h.cw, hk.setCell 0 _, hb.kept hK (by omega), hl, hm, hn⟩

end Go.Proofs.YtfbapgcopidbpaaGreat
