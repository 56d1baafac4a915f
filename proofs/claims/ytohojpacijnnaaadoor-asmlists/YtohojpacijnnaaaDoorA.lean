import Derived.Test.YtohojpacijnnaaaDoorProg
import Derived.Test.YtohojpacijnnaaaDoorMem
import Derived.WalkKit
import Derived.WalkSpells
import Derived.WalkLawsBesides
import Derived.Deep.QuietTactic
import Derived.BigQuiet
import Derived.Below
namespace Go.Proofs.YtohojpacijnnaaaDoor
open Go.RowKit
set_option linter.unusedVariables false

def wvs (ws : List UInt32) : List Value := ws.map fun x => .int .u32 (x.toNat : Int)
theorem wvs_length (ws : List UInt32) : (wvs ws).length = ws.length := by simp [wvs]
theorem wvs_get (ws : List UInt32) (i : Nat) (h : i < ws.length) : (wvs ws)[i]? = some (.int .u32 (ws[i].toNat : Int)) := by simp [wvs, h]
theorem wvs_append (a b : List UInt32) : wvs (a ++ b) = wvs a ++ wvs b := by simp [wvs]
theorem wvs_take (xs : List UInt32) (n : Nat) : wvs (xs.take n) = (wvs xs).take n := by simp [wvs, List.map_take]
theorem wvs_drop (xs : List UInt32) (n : Nat) : wvs (xs.drop n) = (wvs xs).drop n := by simp [wvs, List.map_drop]
theorem wvs_rep (n : Nat) (x : UInt32) : wvs (List.replicate n x) = List.replicate n (.int .u32 (x.toNat : Int)) := by simp [wvs]
theorem wvs_one (xs : List UInt32) : ∀ v ∈ wvs xs, v.oneCell' = true := by
  intro v hv
  obtain ⟨x, _, rfl⟩ := List.mem_map.1 hv
  rfl

/-- These words can be read at this address. -/
def SegW (w : World) (a : Option Addr) (ws : List UInt32) : Prop :=
  ws = [] ∨ ∃ g o, a = some ⟨g, o, none⟩ ∧ ∀ j, (h : j < ws.length) → w.cell? ⟨g, o + j, none⟩ = some (.int .u32 (ws[j].toNat : Int))

theorem SegW.kept {S : Nat → Prop} {w w' : World} {a : Option Addr} {ws : List UInt32} (h : SegW w a ws) (hK : Keeps S w w') (hn : ∀ x, a = some x → ¬ S x.block) : SegW w' a ws := by
  rcases h with h | ⟨g, o, ha, hc⟩
  · exact .inl h
  · refine .inr ⟨g, o, ha, fun j hj => ?_⟩
    have h1 := hc j hj
    have hlt : g < w.heap.size := World.block_lt_of_cell? w ⟨g, o + j, none⟩ h1
    rw [World.cell?_of_block (w := w) (hK.block g hlt (hn _ ha))]
    exact h1

theorem segW_of_blk {w : World} {g : Nat} {ws : List UInt32} {t : TypeId} (h : Blk w g (wvs ws) t) : SegW w (some ⟨g, 0, none⟩) ws :=
  .inr ⟨g, 0, rfl, fun j hj => h.cell (by rw [Nat.zero_add]; exact wvs_get ws j hj)⟩

theorem segW_part {w : World} {g : Nat} {ws : List UInt32} {t : TypeId} (h : Blk w g (wvs ws) t) (o n : Nat) (hf : o + n ≤ ws.length) : SegW w (some ⟨g, o, none⟩) ((ws.drop o).take n) := by
  refine .inr ⟨g, o, rfl, fun j hj => ?_⟩
  have hj' : j < n := by simp at hj; omega
  rw [h.cell (wvs_get ws (o + j) (by omega))]
  simp

theorem segW_cells {w : World} {a : Option Addr} {xs : List UInt32} (h : SegW w a xs) : wvs xs = [] ∨ ∃ b p, a = some ⟨b, p, none⟩ ∧ ∀ j u, (wvs xs)[j]? = some u → w.cell? ⟨b, p + j, none⟩ = some u := by
  rcases h with h | ⟨g, o, h, k⟩
  · left; rw [h]; rfl
  · right
    refine ⟨g, o, h, fun j u hj => ?_⟩
    have hlt : j < xs.length := by
      have := (List.getElem?_eq_some_iff.1 hj).1
      rw [wvs_length] at this
      exact this
    rw [wvs_get xs j hlt] at hj
    rw [k j hlt]; exact hj

theorem Tryd.info26 : (Tryd.prog.info? 26).map (fun i => (i.zero, i.size, i.bytes)) = some (some (.int .u32 0), 1, 4) := by kernel_rfl
theorem Tryd.size26 : (Tryd.prog.info? 26).map (·.size) = some 1 := by kernel_rfl
theorem Tryd.zero26 (w : World) : (zeroValue 26).run Tryd.prog w = .ok (.int .u32 0) w := by kernel_rfl

theorem madeCells_words (n : Nat) : madeCells (Value.int .u32 0).cells n = (wvs (List.replicate n 0)).toArray := by
  apply Array.ext'
  apply List.ext_getElem?
  intro i
  have hm : i % 1 = 0 := by omega
  simp [madeCells, wvs, List.getElem?_replicate]
  by_cases hi : i < n
  · simp [hi, Value.cells, hm]
  · simp [hi]

theorem run_make_words {w : World} (n : Nat) (hn : n ≤ 70368744177664) :
    (Instr.makeSlice 22 (.int .i64 n) (.int .i64 n)).run Tryd.prog w = .ok (.slice (some ⟨w.heap.size, 0, none⟩) n n) (w.alloc (.cells (wvs (List.replicate n 0)).toArray 26)) := by
  obtain ⟨i0, hi, hz0, hz1, hz2⟩ := info_parts Tryd.info26
  have h := run_make (P := Tryd.prog) w 22 26 i0 (.int .u32 0) Tryd.underlying22 hi hz0 .i64 .i64 n n (by omega) (by omega) (by rw [hz2]; omega) (by omega)
  rw [hz1, Nat.mul_one, Int.toNat_natCast, madeCells_words] at h
  exact h

/-- copy(dst, src), as many as there are in src, and dst has as many. -/
theorem run_copy_wb {w : World} (ty : TypeId) (g o dCap : Nat) (l : List Value) (t : TypeId) (hg : Blk w g l t) (a : Option Addr) (sCap : Nat) (xs : List UInt32)
    (hx : SegW w a xs) (hfit : o + xs.length ≤ l.length) :
    (Builtin.copy_ #[22, 22] ty #[.slice (some ⟨g, o, none⟩) xs.length dCap, .slice a xs.length sCap]).run Tryd.prog w = .ok (goInt xs.length) (w.setRow g (l.take o ++ wvs xs ++ l.drop (o + xs.length)).toArray) := by
  rcases segW_cells hx with h0 | ⟨b, p, rfl, hc⟩
  · have hl : xs.length = 0 := by rw [← wvs_length, h0]; rfl
    have h := run_copy_none (P := Tryd.prog) w 22 22 ty 26 (some ⟨g, o, none⟩) a 0 dCap 0 sCap Tryd.underlying22 Tryd.size26 rfl
    have h2 := setRow_self w g l.toArray t (0, 0) hg
    rw [hl, h0, List.append_nil, Nat.add_zero, List.take_append_drop, h2]
    exact h
  · have h := run_copy_row Tryd.prog w 22 22 ty 26 g o xs.length dCap ⟨b, p, none⟩ xs.length sCap l.toArray t (wvs xs) Tryd.underlying22 Tryd.size26 hg (by simp [wvs_length]) (by
      intro j v hj
      rw [addr_add]
      exact hc j v hj) (by rw [wvs_length]; simpa using hfit) (wvs_one xs)
    rw [wvs_length] at h
    exact h

/-- clear(s). -/
theorem run_clear_wb {w : World} (ty : TypeId) (g o n c : Nat) (l : List Value) (t : TypeId) (hg : Blk w g l t) (hfit : o + n ≤ l.length) :
    (Builtin.clear_ #[22] ty #[.slice (some ⟨g, o, none⟩) n c]).run Tryd.prog w = .ok (.tuple #[]) (w.setRow g (l.take o ++ List.replicate n (Value.int .u32 0) ++ l.drop (o + n)).toArray) := by
  by_cases hn : n = 0
  · subst hn
    have h2 := setRow_self w g l.toArray t (0, 0) hg
    rw [List.replicate_zero, List.append_nil, Nat.add_zero, List.take_append_drop, h2]
    simp [Builtin.clear_, run_underlying Tryd.underlying22]
  · obtain ⟨m, rfl⟩ : ∃ m, n = m + 1 := ⟨n - 1, by omega⟩
    have hzc : (Builtin.zeroCells (Value.int .u32 0).cells (m + 1)).toList = List.replicate (m + 1) (.int .u32 0) := by
      simp [Builtin.zeroCells, Value.cells]
      apply List.ext_getElem
      · simp
      · intro i h1 h2
        simp [Nat.mod_one]
    have hst := run_storeCells_at Tryd.prog g o t (List.replicate (m + 1) (.int .u32 0)) 0 l.toArray w hg (by simpa using hfit) (by intro v hv'; rw [List.eq_of_mem_replicate hv']; rfl)
    rw [List.length_replicate] at hst
    simp only [Nat.add_zero] at hst
    simp [Builtin.clear_, run_underlying Tryd.underlying22, hzc, hst]

theorem wpList_clear_run {ops : Array Oper} {rest : List Oper} {o : Oper} {a : Act} {Q : Exit → Act → World → Prop} {P : Program} {w : World} (hgd : o.guard = none) (s : Operand) (t : TypeId)
    (ho : o.op = .call { callee := .builtin .clear, args := #[s], argTypes := #[t] }) (vs v' : Value) (w' : World) (hs : a.eval s = vs)
    (hr : ∀ ty, (Builtin.clear_ #[t] ty #[vs]).run P w = .ok v' w') (h : wpList P ops Q rest (a.put o.dst v') w') : wpList P ops Q (o :: rest) a w :=
  wpList_plain hgd fun _ hK => by
    unfold Oper.wp execOp
    simp only [ho, resolve, invoke, builtin, Sem.run_bind, Sem.run_pure, Result.andThen_ok, List.map_toArray, List.map_cons, List.map_nil, hs, hr]
    exact hK _ _ h
/-- A guard: the next operation is this clear. -/
theorem isClear {ops : Array Oper} {rest : List Oper} {o : Oper} {a : Act} {Q : Exit → Act → World → Prop} {P : Program} {w : World} (s : Operand) (t : TypeId)
    (_ho : o.op = .call { callee := .builtin .clear, args := #[s], argTypes := #[t] }) (h : wpList P ops Q (o :: rest) a w) : wpList P ops Q (o :: rest) a w := h

/-- Words laid over words. -/
def lay (xs : List UInt32) (at' : Nat) (ys : List UInt32) : List UInt32 := xs.take at' ++ ys ++ xs.drop (at' + ys.length)
theorem lay_length (xs : List UInt32) (p : Nat) (ys : List UInt32) (h : p + ys.length ≤ xs.length) : (lay xs p ys).length = xs.length := by
  simp [lay]; omega

/-- Where a run lies: at its place; but one of no words at the end lies at the block's head. -/
def at0 (L p : Nat) : Nat := if p < L then p else 0
end Go.Proofs.YtohojpacijnnaaaDoor
