import Derived.WalkKit
import Derived.Laws.CopyRow
import Derived.Laws.IdiomCopy
import Derived.Laws.MakeOwn
import Derived.OwnWalk
import Derived.Laws.AppendOwn
import Derived.Deep.Draws
import Derived.Test.YtglhfijgnfignaaGreatProg
import Derived.WalkSpells
import Derived.WalkLawsBesides
import Derived.Deep.QuietTactic
import Derived.BigQuiet
import Derived.Below
namespace Go.Proofs.YtglhfijgnfignaaGreat
open Go.RowKit
structure Keeps (S : Nat → Prop) (w w' : World) : Prop where
 os : w'.os = w.os
 tape : w'.tape = w.tape
 output : w'.output = w.output
 size : w.heap.size ≤ w'.heap.size
 block : ∀ k, k < w.heap.size → ¬ S k → w'.heap[k]? = w.heap[k]?
def Blk (w : World) (g : Nat) (l : List Value) (t : TypeId) : Prop := w.heap[g]? = some (.cells l.toArray t (0, 0))
def bvs (xs : List UInt8) : List Value := xs.map fun x => .int .u8 (x.toNat : Int)
theorem addr_add (g o j : Nat) : (⟨g, o, none⟩ : Addr).add j = ⟨g, o + j, none⟩ := by
 unfold Addr.add
 split <;> simp_all
section
variable {S T : Nat → Prop} {w w' w'' : World}
theorem Keeps.refl (S : Nat → Prop) (w : World) : Keeps S w w := ⟨rfl, rfl, rfl, Nat.le_refl _, fun _ _ _ => rfl⟩
theorem Keeps.trans (h : Keeps S w w') (k : Keeps T w' w'') (hs : ∀ b, b < w.heap.size → T b → S b) : Keeps S w w'' :=
 ⟨k.os.trans h.os, k.tape.trans h.tape, k.output.trans h.output, Nat.le_trans h.size k.size,
  fun b hb hn => (k.block b (Nat.lt_of_lt_of_le hb h.size) fun ht => hn (hs b hb ht)).trans (h.block b hb hn)⟩
theorem Keeps.mono (h : Keeps S w w') (hs : ∀ b, b < w.heap.size → S b → T b) : Keeps T w w' :=
 ⟨h.os, h.tape, h.output, h.size, fun b hb hn => h.block b hb fun ht => hn (hs b hb ht)⟩
theorem Keeps.drewN (h : Keeps S w w') (n : Nat) : Keeps S w (w'.drewN n) := ⟨h.os, h.tape, h.output, h.size, h.block⟩
theorem Keeps.drew (h : Keeps S w w') : Keeps S w w'.drew := ⟨h.os, h.tape, h.output, h.size, h.block⟩
theorem Keeps.alloc (h : Keeps S w w') (o : Obj) : Keeps S w (w'.alloc o) :=
 ⟨h.os, h.tape, h.output, by simp; have := h.size; omega, fun b hb hn => by
  rw [Below.heap_alloc w' o b (Nat.lt_of_lt_of_le hb h.size)]; exact h.block b hb hn⟩
theorem Keeps.setCell (h : Keeps S w w') (a : Addr) (v : Value) (ha : a.block < w.heap.size → S a.block) : Keeps S w (w'.setCell a v) :=
 ⟨h.os, h.tape, h.output, by simp; exact h.size, fun b hb hn => by
  rw [Below.heap_setCell w' a v b (fun e => hn (e ▸ ha (e ▸ hb)))]; exact h.block b hb hn⟩
theorem heap_setRow_ne (w : World) (g k : Nat) (cs : Array Value) (h : k ≠ g) : (w.setRow g cs).heap[k]? = w.heap[k]? := by
 have : g ≠ k := fun e => h e.symm
 simp [World.setRow, Array.getElem?_modify, this]
theorem Keeps.setRow (h : Keeps S w w') (g : Nat) (cs : Array Value) (ha : g < w.heap.size → S g) : Keeps S w (w'.setRow g cs) :=
 ⟨h.os, h.tape, h.output, by simp [World.setRow]; exact h.size, fun b hb hn => by
  rw [heap_setRow_ne w' g b cs (fun e => hn (e ▸ ha (e ▸ hb)))]; exact h.block b hb hn⟩
theorem Keeps.below (h : Keeps S w w') {B : Nat} (hB : B ≤ w.heap.size) (hs : ∀ b, S b → B ≤ b) : Below B w w' :=
 ⟨h.os, h.tape, h.output, h.size, fun b hb => h.block b (Nat.lt_of_lt_of_le hb hB) fun hn => by have := hs b hn; omega⟩
variable {g : Nat} {l : List Value} {t : TypeId}
theorem Blk.lt (h : Blk w g l t) : g < w.heap.size := (Array.getElem?_eq_some_iff.1 h).1
theorem Blk.kept (h : Blk w g l t) (k : Keeps S w w') (hn : ¬ S g) : Blk w' g l t := by
 unfold Blk at *
 rw [k.block g (Blk.lt h) hn]; exact h
theorem Blk.drew (h : Blk w g l t) : Blk w.drew g l t := h
theorem Blk.alloc (h : Blk w g l t) (o : Obj) : Blk (w.alloc o) g l t := by
 unfold Blk at *
 rw [Below.heap_alloc w o g (Blk.lt h)]; exact h
theorem Blk.new (w : World) (cs : Array Value) (t : TypeId) : Blk (w.alloc (.cells cs t)) w.heap.size cs.toList t := by
 unfold Blk
 rw [Array.toArray_toList]
 exact heap_alloc_new w _
theorem Blk.cell (h : Blk w g l t) {i : Nat} {v : Value} (hv : l[i]? = some v) : w.cell? ⟨g, i, none⟩ = some v := by
 unfold Blk at h
 simp [World.cell?, h, hv]
theorem Blk.frozen (h : Blk w g l t) (i : Nat) : w.frozen? ⟨g, i, none⟩ = false := by
 unfold Blk at h
 simp [World.frozen?, h]
theorem Blk.setRow (h : Blk w g l t) (cs : List Value) : Blk (w.setRow g cs.toArray) g cs t := setRow_heap w g _ _ t _ h
theorem Blk.setRow_ne (h : Blk w g l t) {k : Nat} (hk : g ≠ k) (cs : Array Value) : Blk (w.setRow k cs) g l t := by
 unfold Blk at *
 rw [heap_setRow_ne w k g cs hk]; exact h
theorem Blk.setCell (h : Blk w g l t) (i : Nat) (v : Value) : Blk (w.setCell ⟨g, i, none⟩ v) g (l.set i v) t := by
 rw [setCell_eq_setRow w g i _ t _ v h]
 have e : l.toArray.setIfInBounds i v = (l.set i v).toArray := by simp
 rw [e]
 exact h.setRow _
theorem Blk.setCell_ne (h : Blk w g l t) {a : Addr} (hk : g ≠ a.block) (v : Value) : Blk (w.setCell a v) g l t := by
 unfold Blk at *
 rw [Below.heap_setCell w a v g hk]; exact h
end
section
variable {P : Program} (w : World)
end
section
variable {P : Program} {w : World}
theorem wpList_append_run {ops : Array Oper} {rest : List Oper} {o : Oper} {a : Act} {Q : Exit → Act → World → Prop} (hgd : o.guard = none) (s x : Operand) (t k : TypeId)
  (ho : o.op = .call { callee := .builtin .append, args := #[s, x], argTypes := #[t, k] }) (vs vx v' : Value) (w' : World) (hs : a.eval s = vs) (hx : a.eval x = vx)
  (hr : ∀ ty, (Builtin.append_ #[t, k] ty #[vs, vx]).run P w = .ok v' w') (h : wpList P ops Q rest (a.put o.dst v') w') : wpList P ops Q (o :: rest) a w :=
 wpList_plain hgd fun _ hK => by
  unfold Oper.wp execOp
  simp only [ho, resolve, invoke, builtin, Sem.run_bind, Sem.run_pure, Result.andThen_ok, List.map_toArray, List.map_cons, List.map_nil, hs, hx, hr]
  exact hK _ _ h
theorem isCopy {ops : Array Oper} {rest : List Oper} {o : Oper} {a : Act} {Q : Exit → Act → World → Prop} (s x : Operand) (t k : TypeId)
  (_ho : o.op = .call { callee := .builtin .copy, args := #[s, x], argTypes := #[t, k] }) (h : wpList P ops Q (o :: rest) a w) : wpList P ops Q (o :: rest) a w := h
theorem wpList_copy_run {ops : Array Oper} {rest : List Oper} {o : Oper} {a : Act} {Q : Exit → Act → World → Prop} (hgd : o.guard = none) (s x : Operand) (t k : TypeId)
  (ho : o.op = .call { callee := .builtin .copy, args := #[s, x], argTypes := #[t, k] }) (vs vx v' : Value) (w' : World) (hs : a.eval s = vs) (hx : a.eval x = vx)
  (hr : ∀ ty, (Builtin.copy_ #[t, k] ty #[vs, vx]).run P w = .ok v' w') (h : wpList P ops Q rest (a.put o.dst v') w') : wpList P ops Q (o :: rest) a w :=
 wpList_plain hgd fun _ hK => by
  unfold Oper.wp execOp
  simp only [ho, resolve, invoke, builtin, Sem.run_bind, Sem.run_pure, Result.andThen_ok, List.map_toArray, List.map_cons, List.map_nil, hs, hx, hr]
  exact hK _ _ h
end
section
variable {P : Program} {w : World}
theorem wpList_make_run {ops : Array Oper} {rest : List Oper} {o : Oper} {a : Act} {Q : Exit → Act → World → Prop} (hgd : o.guard = none) (s x : Operand) (t : TypeId)
  (ho : o.op = .makeSlice t s x) (vs vx v' : Value) (w' : World) (hs : a.eval s = vs) (hx : a.eval x = vx)
  (hr : (Instr.makeSlice t vs vx).run P w = .ok v' w') (h : wpList P ops Q rest (a.put o.dst v') w') : wpList P ops Q (o :: rest) a w :=
 wpList_plain hgd fun _ hK => by
  unfold Oper.wp execOp
  simp only [ho, hs, hx, Sem.run_bind, hr, Result.andThen_ok, Sem.run_pure]
  exact hK _ _ h
end
end Go.Proofs.YtglhfijgnfignaaGreat
namespace Go.Proofs.YtglhfijgnfignaaGreat
namespace Mq
open Go.RowKit
set_option linter.unusedVariables false
def wvs (ws : List UInt32) : List Value := ws.map fun x => .int .u32 (x.toNat : Int)
theorem wvs_length (ws : List UInt32) : (wvs ws).length = ws.length := by simp [wvs]
theorem wvs_get (ws : List UInt32) (i : Nat) (h : i < ws.length) : (wvs ws)[i]? = some (.int .u32 (ws[i].toNat : Int)) := by simp [wvs, h]
theorem wvs_append (a b : List UInt32) : wvs (a ++ b) = wvs a ++ wvs b := by simp [wvs]
theorem wvs_take (xs : List UInt32) (n : Nat) : wvs (xs.take n) = (wvs xs).take n := by simp [wvs, List.map_take]
theorem wvs_drop (xs : List UInt32) (n : Nat) : wvs (xs.drop n) = (wvs xs).drop n := by simp [wvs, List.map_drop]
theorem wvs_rep (n : Nat) (x : UInt32) : wvs (List.replicate n x) = List.replicate n (.int .u32 (x.toNat : Int)) := by simp [wvs]
theorem wvs_one (xs : List UInt32) : ∀ v ∈ wvs xs, v.oneCell' = true := by
 intro v hv
 obtain ⟨x, _, rfl⟩ := List.mem_map.1 hv
 rfl
def SegW (w : World) (a : Option Addr) (ws : List UInt32) : Prop :=
 ws = [] ∨ ∃ g o, a = some ⟨g, o, none⟩ ∧ ∀ j, (h : j < ws.length) → w.cell? ⟨g, o + j, none⟩ = some (.int .u32 (ws[j].toNat : Int))
theorem SegW.kept {S : Nat → Prop} {w w' : World} {a : Option Addr} {ws : List UInt32} (h : SegW w a ws) (hK : Keeps S w w') (hn : ∀ x, a = some x → ¬ S x.block) : SegW w' a ws := by
 rcases h with h | ⟨g, o, ha, hc⟩
 ·
  exact .inl h
 ·
  refine .inr ⟨g, o, ha, fun j hj => ?_⟩
  have h1 := hc j hj
  have hlt : g < w.heap.size := World.block_lt_of_cell? w ⟨g, o + j, none⟩ h1
  rw [World.cell?_of_block (w := w) (hK.block g hlt (hn _ ha))]
  exact h1
theorem segW_of_blk {w : World} {g : Nat} {ws : List UInt32} {t : TypeId} (h : Blk w g (wvs ws) t) : SegW w (some ⟨g, 0, none⟩) ws :=
 .inr ⟨g, 0, rfl, fun j hj => h.cell (by rw [Nat.zero_add]; exact wvs_get ws j hj)⟩
theorem segW_cells {w : World} {a : Option Addr} {xs : List UInt32} (h : SegW w a xs) : wvs xs = [] ∨ ∃ b p, a = some ⟨b, p, none⟩ ∧ ∀ j u, (wvs xs)[j]? = some u → w.cell? ⟨b, p + j, none⟩ = some u := by
 rcases h with h | ⟨g, o, h, k⟩
 ·
  left; rw [h]; rfl
 ·
  right
  refine ⟨g, o, h, fun j u hj => ?_⟩
  have hlt : j < xs.length := by
   have := (List.getElem?_eq_some_iff.1 hj).1
   rw [wvs_length] at this
   exact this
  rw [wvs_get xs j hlt] at hj
  rw [k j hlt]; exact hj
theorem Tryz.info58 : (Tryz.prog.info? 58).map (fun i => (i.zero, i.size, i.bytes)) = some (some (.int .u32 0), 1, 4) := by kernel_rfl
theorem Tryz.size58 : (Tryz.prog.info? 58).map (·.size) = some 1 := by kernel_rfl
theorem madeCells_words (n : Nat) : madeCells (Value.int .u32 0).cells n = (wvs (List.replicate n 0)).toArray := by
 apply Array.ext'
 apply List.ext_getElem?
 intro i
 have hm : i % 1 = 0 := by omega
 simp [madeCells, wvs, List.getElem?_replicate]
 by_cases hi : i < n
 ·
  simp [hi, Value.cells, hm]
 ·
  simp [hi]
theorem run_make_words {w : World} (n : Nat) (hn : n ≤ 70368744177664) :
  (Instr.makeSlice 43 (.int .i64 n) (.int .i64 n)).run Tryz.prog w = .ok (.slice (some ⟨w.heap.size, 0, none⟩) n n) (w.alloc (.cells (wvs (List.replicate n 0)).toArray 58)) := by
 obtain ⟨i0, hi, hz0, hz1, hz2⟩ := info_parts Tryz.info58
 have h := run_make (P := Tryz.prog) w 43 58 i0 (.int .u32 0) Tryz.underlying43 hi hz0 .i64 .i64 n n (by omega) (by omega) (by rw [hz2]; omega) (by omega)
 rw [hz1, Nat.mul_one, Int.toNat_natCast, madeCells_words] at h
 exact h
theorem run_copy_wb {w : World} (ty : TypeId) (g o dCap : Nat) (l : List Value) (t : TypeId) (hg : Blk w g l t) (a : Option Addr) (sCap : Nat) (xs : List UInt32)
  (hx : SegW w a xs) (hfit : o + xs.length ≤ l.length) :
  (Builtin.copy_ #[43, 43] ty #[.slice (some ⟨g, o, none⟩) xs.length dCap, .slice a xs.length sCap]).run Tryz.prog w = .ok (goInt xs.length) (w.setRow g (l.take o ++ wvs xs ++ l.drop (o + xs.length)).toArray) := by
 rcases segW_cells hx with h0 | ⟨b, p, rfl, hc⟩
 ·
  have hl : xs.length = 0 := by rw [← wvs_length, h0]; rfl
  have h := run_copy_none (P := Tryz.prog) w 43 43 ty 58 (some ⟨g, o, none⟩) a 0 dCap 0 sCap Tryz.underlying43 Tryz.size58 rfl
  have h2 := setRow_self w g l.toArray t (0, 0) hg
  rw [hl, h0, List.append_nil, Nat.add_zero, List.take_append_drop, h2]
  exact h
 ·
  have h := run_copy_row Tryz.prog w 43 43 ty 58 g o xs.length dCap ⟨b, p, none⟩ xs.length sCap l.toArray t (wvs xs) Tryz.underlying43 Tryz.size58 hg (by simp [wvs_length]) (by
   intro j v hj
   rw [addr_add]
   exact hc j v hj) (by rw [wvs_length]; simpa using hfit) (wvs_one xs)
  rw [wvs_length] at h
  exact h
theorem run_clear_wb {w : World} (ty : TypeId) (g o n c : Nat) (l : List Value) (t : TypeId) (hg : Blk w g l t) (hfit : o + n ≤ l.length) :
  (Builtin.clear_ #[43] ty #[.slice (some ⟨g, o, none⟩) n c]).run Tryz.prog w = .ok (.tuple #[]) (w.setRow g (l.take o ++ List.replicate n (Value.int .u32 0) ++ l.drop (o + n)).toArray) := by
 by_cases hn : n = 0
 ·
  subst hn
  have h2 := setRow_self w g l.toArray t (0, 0) hg
  rw [List.replicate_zero, List.append_nil, Nat.add_zero, List.take_append_drop, h2]
  simp [Builtin.clear_, run_underlying Tryz.underlying43]
 ·
  obtain ⟨m, rfl⟩ : ∃ m, n = m + 1 := ⟨n - 1, by omega⟩
  have hzc : (Builtin.zeroCells (Value.int .u32 0).cells (m + 1)).toList = List.replicate (m + 1) (.int .u32 0) := by
   simp [Builtin.zeroCells, Value.cells]
   apply List.ext_getElem
   ·
    simp
   ·
    intro i h1 h2
    simp [Nat.mod_one]
  have hst := run_storeCells_at Tryz.prog g o t (List.replicate (m + 1) (.int .u32 0)) 0 l.toArray w hg (by simpa using hfit) (by intro v hv'; rw [List.eq_of_mem_replicate hv']; rfl)
  rw [List.length_replicate] at hst
  simp only [Nat.add_zero] at hst
  simp [Builtin.clear_, run_underlying Tryz.underlying43, hzc, hst]
theorem wpList_clear_run {ops : Array Oper} {rest : List Oper} {o : Oper} {a : Act} {Q : Exit → Act → World → Prop} {P : Program} {w : World} (hgd : o.guard = none) (s : Operand) (t : TypeId)
  (ho : o.op = .call { callee := .builtin .clear, args := #[s], argTypes := #[t] }) (vs v' : Value) (w' : World) (hs : a.eval s = vs)
  (hr : ∀ ty, (Builtin.clear_ #[t] ty #[vs]).run P w = .ok v' w') (h : wpList P ops Q rest (a.put o.dst v') w') : wpList P ops Q (o :: rest) a w :=
 wpList_plain hgd fun _ hK => by
  unfold Oper.wp execOp
  simp only [ho, resolve, invoke, builtin, Sem.run_bind, Sem.run_pure, Result.andThen_ok, List.map_toArray, List.map_cons, List.map_nil, hs, hr]
  exact hK _ _ h
theorem isClear {ops : Array Oper} {rest : List Oper} {o : Oper} {a : Act} {Q : Exit → Act → World → Prop} {P : Program} {w : World} (s : Operand) (t : TypeId)
  (_ho : o.op = .call { callee := .builtin .clear, args := #[s], argTypes := #[t] }) (h : wpList P ops Q (o :: rest) a w) : wpList P ops Q (o :: rest) a w := h
structure Mm (w : World) (b g : Nat) (xs : List UInt32) : Prop where
 ne : b ≠ g
 blk : Blk w b [.slice (some ⟨g, 0, none⟩) xs.length xs.length] 88
 row : Blk w g (wvs xs) 58
 small : xs.length ≤ 16384
theorem Mm.kept {S : Nat → Prop} {w w' : World} {b g : Nat} {xs : List UInt32} (h : Mm w b g xs) (k : Keeps S w w') (hb : ¬ S b) (hg : ¬ S g) : Mm w' b g xs :=
 ⟨h.ne, h.blk.kept k hb, h.row.kept k hg, h.small⟩
def lay (xs : List UInt32) (at' : Nat) (ys : List UInt32) : List UInt32 := xs.take at' ++ ys ++ xs.drop (at' + ys.length)
theorem lay_length (xs : List UInt32) (p : Nat) (ys : List UInt32) (h : p + ys.length ≤ xs.length) : (lay xs p ys).length = xs.length := by
 simp [lay]; omega
theorem Mm.laid {w : World} {b g : Nat} {xs : List UInt32} (h : Mm w b g xs) (p : Nat) (ys : List UInt32) (hf : p + ys.length ≤ xs.length) :
  Mm (w.setRow g ((wvs xs).take p ++ wvs ys ++ (wvs xs).drop (p + ys.length)).toArray) b g (lay xs p ys) := by
 refine ⟨h.ne, ?_, ?_, ?_⟩
 ·
  rw [lay_length xs p ys hf]; exact h.blk.setRow_ne h.ne _
 ·
  have e : wvs (lay xs p ys) = (wvs xs).take p ++ wvs ys ++ (wvs xs).drop (p + ys.length) := by simp [lay, wvs_append, wvs_take, wvs_drop]
  rw [e]; exact h.row.setRow _
 ·
  rw [lay_length xs p ys hf]; exact h.small
def at0 (L p : Nat) : Nat := if p < L then p else 0
set_option maxHeartbeats 400000 in
theorem run_in (b g : Nat) (xs : List UInt32) (p n : Nat) (w : World) (h : Mm w b g xs) (hf : p + n ≤ xs.length) :
  Calls Tryz.prog 56 #[.pointer (some ⟨b, 0, none⟩), .int .i64 p, .int .i64 n] w fun e w' => e = .returned (.tuple #[.slice (some ⟨g, at0 xs.length p, none⟩) n (xs.length - p), .int .i64 0]) ∧ w' = w := by
 have c0 := h.blk.cell (i := 0) rfl
 have hs := h.small
 obtain ⟨L, hL⟩ : ∃ L, L = xs.length := ⟨_, rfl⟩
 rw [← hL] at c0 hf hs ⊢
 clear hL h
 have h1 : (p : Int) + (n : Int) ≤ (L : Int) := by omega
 have h2 : (L : Int) ≤ 16384 := by omega
 by_cases hp : p < L
 ·
  have e0 : at0 L p = p := if_pos hp
  rw [e0]
  have h3 : ¬ L = p := by omega
  clear hf hs e0
  go_enter Tryz.func56, Tryz.ntmps56
  go_wp2
  go_ret2
  exact ⟨by simp, rfl⟩
 ·
  have e0 : at0 L p = 0 := if_neg hp
  rw [e0]
  obtain rfl : p = L := by omega
  obtain rfl : n = 0 := by omega
  clear hf hs e0 hp h1
  go_enter Tryz.func56, Tryz.ntmps56
  go_wp2
  go_ret2
  exact ⟨by simp, rfl⟩
end Mq
end Go.Proofs.YtglhfijgnfignaaGreat
namespace Go.Proofs.YtglhfijgnfignaaGreat
namespace Mq
open Go.RowKit
set_option linter.unusedVariables false
theorem at0_in {L p n : Nat} (h : p + n ≤ L) (hn : 0 < n) : at0 L p = p := if_pos (by omega)
theorem at0_fit {L p n : Nat} (h : p + n ≤ L) : at0 L p + n ≤ L := by unfold at0; split <;> omega
theorem lay_at0 (xs : List UInt32) (p : Nat) (ys : List UInt32) (h : p + ys.length ≤ xs.length) : lay xs (at0 xs.length p) ys = lay xs p ys := by
 by_cases h0 : 0 < ys.length
 ·
  rw [at0_in h h0]
 ·
  obtain rfl : ys = [] := List.eq_nil_of_length_eq_zero (by omega)
  simp [lay]
theorem rep_wvs (xs : List UInt32) (p n : Nat) (x : UInt32) : List.take p (wvs xs) ++ List.replicate n (Value.int .u32 (x.toNat : Int)) ++ List.drop (p + n) (wvs xs) = List.take p (wvs xs) ++ wvs (List.replicate n x) ++ List.drop (p + (List.replicate n x).length) (wvs xs) := by
 rw [wvs_rep, List.length_replicate]
theorem ret_int {k : IntKind} {a b : Int} (h : a = b) : Ending.returned (.int k a) = .returned (.int k b) := by rw [h]
theorem ret_bool {a b : Bool} (h : a = b) : Ending.returned (.bool a) = .returned (.bool b) := by rw [h]
def pk (c : Int) (n : Nat) : Nat := ((if c < 0 then -(c + 1) else c) % n).toNat
set_option maxRecDepth 20000 in
set_option maxHeartbeats 400000 in
set_option maxHeartbeats 400000 in
theorem new_walk (n : Nat) (w W1 : World) (N : Nat) (hn1 : (n : Int) ≤ 1024) (hn2 : ¬ ((n : Int) < 1)) (HM : Hid ((Instr.makeSlice 43 (.int .i64 ((n : Int) * 16)) (.int .i64 ((n : Int) * 16))).run Tryz.prog w = .ok (.slice (some ⟨w.heap.size, 0, none⟩) N N) W1)) :
  Calls Tryz.prog 38 #[.int .i64 n] w fun e w' => e = .returned (.tuple #[.pointer (some ⟨W1.heap.size, 0, none⟩), .int .i64 0]) ∧ w' = W1.alloc (.cells #[.slice (some ⟨w.heap.size, 0, none⟩) N N] 88) := by
 go_enter Tryz.func38, Tryz.ntmps38
 go_wp2_with (at_make; refine wpList_make_run rfl (.tmp 11) (.tmp 11) 43 rfl (.int .i64 ((n : Int) * 16)) (.int .i64 ((n : Int) * 16)) (.slice (some ⟨w.heap.size, 0, none⟩) N N) W1 rfl rfl HM.out ?_; refine Hid.out ?_)
 unfold Hid
 go_wp2
 go_ret2
 exact ⟨rfl, rfl⟩
theorem new_in (n : Nat) (w : World) (h1 : 1 ≤ n) (h2 : n ≤ 1024) :
  Calls Tryz.prog 38 #[.int .i64 n] w fun e w' => e = .returned (.tuple #[.pointer (some ⟨w.heap.size + 1, 0, none⟩), .int .i64 0]) ∧ Mm w' (w.heap.size + 1) w.heap.size (List.replicate (n * 16) 0) ∧ Keeps (fun _ => False) w w' := by
 have hmk := run_make_words (w := w) (n * 16) (by omega)
 obtain ⟨W1, hW⟩ : ∃ W1, W1 = w.alloc (.cells (wvs (List.replicate (n * 16) 0)).toArray 58) := ⟨_, rfl⟩
 rw [← hW] at hmk
 have hK1 : Keeps (fun _ => False) w W1 := by rw [hW]; exact (Keeps.refl _ w).alloc _
 have hB1 : Blk W1 w.heap.size (wvs (List.replicate (n * 16) 0)) 58 := by rw [hW]; exact Blk.new w _ 58
 have hsz : W1.heap.size = w.heap.size + 1 := by rw [hW]; simp
 have e1 : ((n * 16 : Nat) : Int) = (n : Int) * 16 := by omega
 rw [e1] at hmk
 refine (new_walk n w W1 (n * 16) (by omega) (by omega) hmk).mono ?_
 rintro e w' ⟨rfl, rfl⟩
 have hB := Blk.new W1 #[.slice (some ⟨w.heap.size, 0, none⟩) (n * 16) (n * 16)] 88
 rw [hsz] at hB
 have e2 : (List.replicate (n * 16) (0 : UInt32)).length = n * 16 := List.length_replicate
 refine ⟨by rw [← hsz], ⟨by omega, ?_, hB1.alloc _, by rw [e2]; omega⟩, hK1.alloc _⟩
 rw [e2]; exact hB
end Mq
end Go.Proofs.YtglhfijgnfignaaGreat
namespace Go.Proofs.YtglhfijgnfignaaGreat
namespace Mq
open Go.RowKit
set_option linter.unusedVariables false
theorem setRow_keeps (w : World) (g : Nat) (cs : Array Value) : Keeps (· = g) w (w.setRow g cs) := (Keeps.refl _ w).setRow g cs fun _ => rfl
set_option maxHeartbeats 400000 in
theorem copied_any (a : Option Addr) (c : Nat) (xs : List UInt32) (w : World) (hx : SegW w a xs) (hl : xs.length ≤ 1048576) :
  Calls Tryz.prog 31 #[.slice a xs.length c] w fun e w' => e = .returned (.slice (some ⟨w.heap.size, 0, none⟩) xs.length xs.length) ∧ Blk w' w.heap.size (wvs xs) 58 ∧ Keeps (fun _ => False) w w' := by
 have hmk := run_make_words (w := w) xs.length (by omega)
 obtain ⟨W1, hW⟩ : ∃ W1, W1 = w.alloc (.cells (wvs (List.replicate xs.length 0)).toArray 58) := ⟨_, rfl⟩
 rw [← hW] at hmk
 have hK1 : Keeps (fun _ => False) w W1 := by rw [hW]; exact (Keeps.refl _ w).alloc _
 have hB1 : Blk W1 w.heap.size (wvs (List.replicate xs.length 0)) 58 := by rw [hW]; exact Blk.new w _ 58
 have hs1 : SegW W1 a xs := hx.kept hK1 (fun _ _ e => e)
 have hcp := fun ty => run_copy_wb (w := W1) ty w.heap.size 0 xs.length _ 58 hB1 a c xs hs1 (by simp [wvs_length])
 have e : (wvs (List.replicate xs.length 0)).take 0 ++ wvs xs ++ (wvs (List.replicate xs.length 0)).drop (0 + xs.length) = wvs xs := by simp [wvs]
 rw [e] at hcp
 obtain ⟨W3, hW3⟩ : ∃ W3, W3 = W1.setRow w.heap.size (wvs xs).toArray := ⟨_, rfl⟩
 have hB3 : Blk W3 w.heap.size (wvs xs) 58 := by rw [hW3]; exact hB1.setRow _
 have hK3 : Keeps (fun _ => False) w W3 := by rw [hW3]; exact hK1.setRow _ _ (fun h => by omega)
 rw [← hW3] at hcp
 obtain ⟨n, hnn⟩ : ∃ n, n = xs.length := ⟨_, rfl⟩
 rw [← hnn] at hmk hcp ⊢
 have HM : Hid (_ = _) := hmk
 have HC : Hid (∀ ty, _) := hcp
 clear hmk hnn hcp hW3 hW hs1 hB1 hK1 e
 go_enter Tryz.func31, Tryz.ntmps31
 go_wp2_with (at_make; refine wpList_make_run rfl (.tmp 5) (.tmp 5) 43 rfl (.int .i64 n) (.int .i64 n) (.slice (some ⟨w.heap.size, 0, none⟩) n n) W1 rfl rfl HM.out ?_; refine Hid.out ?_)
 unfold Hid
 go_wp2_with (refine isCopy (.tmp 7) (.tmp 8) 43 43 rfl ?_; go_must (refine wpList_copy_run rfl (.tmp 7) (.tmp 8) 43 43 rfl (.slice (some ⟨w.heap.size, 0, none⟩) n n) (.slice a n c) (goInt n) W3 rfl rfl HC.out ?_))
 go_ret
 exact ⟨rfl, hB3, hK3⟩
set_option maxRecDepth 20000 in
set_option maxHeartbeats 400000 in
theorem words_any (b g : Nat) (xs : List UInt32) (w : World) (h : Mm w b g xs) :
  Calls Tryz.prog 13 #[.pointer (some ⟨b, 0, none⟩)] w fun e w' => e = .returned (.slice (some ⟨w.heap.size, 0, none⟩) xs.length xs.length) ∧ Blk w' w.heap.size (wvs xs) 58 ∧ Keeps (fun _ => False) w w' := by
 have c0 := h.blk.cell (i := 0) rfl
 have HC := copied_any (some ⟨g, 0, none⟩) xs.length xs w (segW_of_blk h.row) (by have := h.small; omega)
 have HC : Hid (Calls _ _ _ _ _) := HC
 clear h
 go_enter Tryz.func13, Tryz.ntmps13
 go_wp2_with fail
 refine HC.out.mono ?_
 rintro e w1 ⟨rfl, h1, h2⟩
 have H1 : Hid (Blk _ _ _ _) := h1
 have H2 : Hid (Keeps _ _ _) := h2
 clear h1 h2 HC c0
 go_wp2
 go_ret
 exact ⟨rfl, H1.out, H2.out⟩
set_option maxHeartbeats 400000 in
set_option maxHeartbeats 400000 in
theorem lay_in (b g : Nat) (xs : List UInt32) (p : Nat) (a : Option Addr) (c : Nat) (ys : List UInt32) (w : World) (h : Mm w b g xs) (hy : SegW w a ys) (hf : p + ys.length ≤ xs.length) :
  Calls Tryz.prog 105 #[.pointer (some ⟨b, 0, none⟩), .int .i64 p, .slice a ys.length c] w fun e w' => e = .returned (.int .i64 0) ∧ Mm w' b g (lay xs p ys) ∧ Keeps (· = g) w w' := by
 have HC : Hid (Calls _ _ _ _ _) := run_in b g xs p ys.length w h hf
 have hfit := at0_fit hf
 have hM := h.laid (at0 xs.length p) ys hfit
 rw [lay_at0 xs p ys hf] at hM
 have hcp := fun ty => run_copy_wb (w := w) ty g (at0 xs.length p) (xs.length - p) _ 58 h.row a c ys hy (by rw [wvs_length]; exact hfit)
 obtain ⟨W1, hW1⟩ : ∃ W1, W1 = w.setRow g (List.take (at0 xs.length p) (wvs xs) ++ wvs ys ++ List.drop (at0 xs.length p + ys.length) (wvs xs)).toArray := ⟨_, rfl⟩
 have hK : Keeps (· = g) w W1 := by rw [hW1]; exact setRow_keeps w g _
 rw [← hW1] at hM hcp
 have HM : Hid (Mm _ _ _ _) := hM
 have HK : Hid (Keeps _ _ _) := hK
 obtain ⟨L, hL⟩ : ∃ L, L = xs.length - p := ⟨_, rfl⟩
 obtain ⟨o, ho⟩ : ∃ o, o = at0 xs.length p := ⟨_, rfl⟩
 obtain ⟨n, hn⟩ : ∃ n, n = ys.length := ⟨_, rfl⟩
 rw [← hL, ← ho, ← hn] at HC hcp
 rw [← hn]
 have HCP : Hid (∀ ty, _) := hcp
 clear hcp hM hK h hf hL ho hn hW1 hy hfit
 go_enter Tryz.func105, Tryz.ntmps105
 go_wp2_with fail
 refine HC.out.mono ?_
 rintro e w1 ⟨rfl, hw⟩
 obtain rfl := hw.symm
 clear hw HC
 go_wp2_with (refine isCopy (.tmp 20) (.tmp 21) 43 43 rfl ?_; go_must (refine wpList_copy_run rfl (.tmp 20) (.tmp 21) 43 43 rfl (.slice (some ⟨g, o, none⟩) n L) (.slice a n c) (goInt n) W1 rfl rfl HCP.out ?_))
 go_ret
 exact ⟨rfl, HM.out, HK.out⟩
theorem frames_any (b g : Nat) (xs : List UInt32) (w : World) (h : Mm w b g xs) :
  Calls Tryz.prog 36 #[.pointer (some ⟨b, 0, none⟩)] w fun e w' => e = .returned (.int .i64 ((xs.length / 16 : Nat) : Int)) ∧ w' = w := by
 have c0 := h.blk.cell (i := 0) rfl
 have hs := h.small
 obtain ⟨L, hL⟩ : ∃ L, xs.length = L := ⟨_, rfl⟩
 rw [hL] at c0 hs ⊢
 clear hL h
 have hq : IntKind.i64.wrap ((L : Int).tdiv 16) = ((L / 16 : Nat) : Int) := by rw [IntKind.wrap_i64, Int.tdiv_eq_ediv_of_nonneg (by omega)]; omega
 go_enter Tryz.func36, Tryz.ntmps36
 go_wp2
 go_ret
 exact ⟨rfl, rfl⟩
end Mq
end Go.Proofs.YtglhfijgnfignaaGreat
namespace Go.Proofs.YtglhfijgnfignaaGreat
namespace Mq
open Go.RowKit
set_option linter.unusedVariables false
set_option linter.unusedSimpArgs false
theorem framesN_any (b g : Nat) (xs : List UInt32) (n : Nat) (w : World) (h : Mm w b g xs) (hn : xs.length = n * 16) :
  Calls Tryz.prog 36 #[.pointer (some ⟨b, 0, none⟩)] w fun e w' => e = .returned (.int .i64 n) ∧ w' = w := by
 have c0 := h.blk.cell (i := 0) rfl
 have hs := h.small
 rw [hn] at c0 hs
 have h2 : (n : Int) ≤ 1024 := by omega
 clear h hn hs
 go_enter Tryz.func36, Tryz.ntmps36
 go_wp2
 go_ret
 exact ⟨ret_int (by omega), rfl⟩
def Done (w : World) (b g : Nat) (xs : List UInt32) (p n : Int) (ys : List UInt32) (e : Ending) (w' : World) : Prop :=
 ((0 ≤ p ∧ 0 ≤ n ∧ p + n ≤ xs.length) ∧ e = .returned (.int .i64 0) ∧ Mm w' b g (lay xs p.toNat ys) ∧ Keeps (· = g) w w') ∨
 (¬ (0 ≤ p ∧ 0 ≤ n ∧ p + n ≤ xs.length) ∧ e = .returned (.int .i64 51) ∧ w' = w)
theorem write_in (b g : Nat) (xs : List UInt32) (p : Nat) (x : UInt32) (w : World) (h : Mm w b g xs) (hf : p < xs.length) :
  Calls Tryz.prog 44 #[.pointer (some ⟨b, 0, none⟩), .int .i64 p, .int .u32 (x.toNat : Int)] w fun e w' => e = .returned (.int .i64 0) ∧ Mm w' b g (lay xs p [x]) ∧ Keeps (· = g) w w' := by
 have hc := h.row.cell (wvs_get xs p hf)
 have hz := h.row.frozen p
 have HC : Hid (Calls _ _ _ _ _) := run_in b g xs p 1 w h (by omega)
 have hfin : w.setCell ⟨g, p, none⟩ (.int .u32 (x.toNat : Int)) = w.setRow g ((wvs xs).take p ++ wvs [x] ++ (wvs xs).drop (p + [x].length)).toArray := by
  rw [setCell_eq_setRow w g p _ 58 _ _ h.row]
  congr 1
  have hl : p < (wvs xs).length := by rw [wvs_length]; exact hf
  have e : (wvs xs).set p (.int .u32 (x.toNat : Int)) = (wvs xs).take p ++ wvs [x] ++ (wvs xs).drop (p + [x].length) := by
   rw [List.set_eq_take_append_cons_drop, if_pos hl]; simp [wvs]
  rw [← e]; simp
 have hM := h.laid p [x] (by simp; omega)
 rw [← hfin] at hM
 have hK : Keeps (· = g) w (w.setCell ⟨g, p, none⟩ (.int .u32 (x.toNat : Int))) := (Keeps.refl _ w).setCell _ _ fun _ => rfl
 rw [at0_in (n := 1) (show p + 1 ≤ xs.length by omega) (by omega)] at HC
 have HM : Hid (Mm _ _ _ _) := hM
 have HK : Hid (Keeps _ _ _) := hK
 obtain ⟨L, hL⟩ : ∃ L, L = xs.length - p := ⟨_, rfl⟩
 rw [← hL] at HC
 have hL1 : 0 < L := by omega
 obtain ⟨y, hy⟩ : ∃ y : Nat, y = x.toNat := ⟨_, rfl⟩
 obtain ⟨z, hz'⟩ : ∃ z : Nat, z = xs[p].toNat := ⟨_, rfl⟩
 rw [← hz'] at hc
 rw [← hy] at HM HK ⊢
 clear hfin hM hK h hf hL hy hz'
 go_enter Tryz.func44, Tryz.ntmps44
 go_wp2_with fail
 refine HC.out.mono ?_
 rintro e w1 ⟨rfl, hw⟩
 obtain rfl := hw.symm
 clear hw HC
 go_wp2
 go_ret
 exact ⟨rfl, HM.out, HK.out⟩
theorem read_in (b g : Nat) (xs : List UInt32) (p : Nat) (w : World) (h : Mm w b g xs) (hf : p < xs.length) :
  Calls Tryz.prog 29 #[.pointer (some ⟨b, 0, none⟩), .int .i64 p] w fun e w' => e = .returned (.tuple #[.int .u32 (xs[p].toNat : Int), .int .i64 0]) ∧ w' = w := by
 have hc := h.row.cell (wvs_get xs p hf)
 have HC : Hid (Calls _ _ _ _ _) := run_in b g xs p 1 w h (by omega)
 rw [at0_in (n := 1) (show p + 1 ≤ xs.length by omega) (by omega)] at HC
 obtain ⟨L, hL⟩ : ∃ L, L = xs.length - p := ⟨_, rfl⟩
 rw [← hL] at HC
 obtain ⟨z, hz'⟩ : ∃ z : Nat, z = xs[p].toNat := ⟨_, rfl⟩
 rw [← hz'] at hc ⊢
 clear h hf hL hz'
 go_enter Tryz.func29, Tryz.ntmps29
 go_wp2_with fail
 refine HC.out.mono ?_
 rintro e w1 ⟨rfl, hw⟩
 obtain rfl := hw.symm
 clear hw HC
 go_wp2
 go_ret2
 exact ⟨rfl, rfl⟩
theorem cell_kept {S : Nat → Prop} {w w' : World} {b i : Nat} {v : Value} (h : w.cell? ⟨b, i, none⟩ = some v) (hK : Keeps S w w') (hn : ¬ S b) : w'.cell? ⟨b, i, none⟩ = some v := by
 rw [World.cell?_of_block (w := w) (hK.block b (World.block_lt_of_cell? w ⟨b, i, none⟩ h) hn)]; exact h
end Mq
end Go.Proofs.YtglhfijgnfignaaGreat
