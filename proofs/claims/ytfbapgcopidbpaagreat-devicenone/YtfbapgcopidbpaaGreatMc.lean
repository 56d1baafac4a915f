import Derived.WalkKit
import Derived.Laws.CopyRow
import Derived.Laws.IdiomCopy
import Derived.Laws.MakeOwn
import Derived.OwnWalk
import Derived.Laws.AppendOwn
import Derived.Deep.Draws
import Derived.Test.YtfbapgcopidbpaaGreatProg
import Derived.WalkSpells
import Derived.WalkLawsBesides
import Derived.Deep.QuietTactic
import Derived.BigQuiet
import Derived.Below
namespace Go.Proofs.YtfbapgcopidbpaaGreat
open Go.RowKit
structure Keeps (S : Nat → Prop) (w w' : World) : Prop where
 os : w'.os = w.os
 tape : w'.tape = w.tape
 output : w'.output = w.output
 size : w.heap.size ≤ w'.heap.size
 block : ∀ k, k < w.heap.size → ¬ S k → w'.heap[k]? = w.heap[k]?
def Blk (w : World) (g : Nat) (l : List Value) (t : TypeId) : Prop := w.heap[g]? = some (.cells l.toArray t (0, 0))
def bvs (xs : List UInt8) : List Value := xs.map fun x => .int .u8 (x.toNat : Int)
theorem addr_add (g o j : Nat) : (⟨g, o, none⟩ : Addr).add j = ⟨g, o + j, none⟩ := by
 unfold Addr.add
 split <;> simp_all
section
variable {S T : Nat → Prop} {w w' w'' : World}
theorem Keeps.refl (S : Nat → Prop) (w : World) : Keeps S w w := ⟨rfl, rfl, rfl, Nat.le_refl _, fun _ _ _ => rfl⟩
theorem Keeps.trans (h : Keeps S w w') (k : Keeps T w' w'') (hs : ∀ b, b < w.heap.size → T b → S b) : Keeps S w w'' :=
 ⟨k.os.trans h.os, k.tape.trans h.tape, k.output.trans h.output, Nat.le_trans h.size k.size,
  fun b hb hn => (k.block b (Nat.lt_of_lt_of_le hb h.size) fun ht => hn (hs b hb ht)).trans (h.block b hb hn)⟩
theorem Keeps.mono (h : Keeps S w w') (hs : ∀ b, b < w.heap.size → S b → T b) : Keeps T w w' :=
 ⟨h.os, h.tape, h.output, h.size, fun b hb hn => h.block b hb fun ht => hn (hs b hb ht)⟩
theorem Keeps.drewN (h : Keeps S w w') (n : Nat) : Keeps S w (w'.drewN n) := ⟨h.os, h.tape, h.output, h.size, h.block⟩
theorem Keeps.drew (h : Keeps S w w') : Keeps S w w'.drew := ⟨h.os, h.tape, h.output, h.size, h.block⟩
theorem Keeps.alloc (h : Keeps S w w') (o : Obj) : Keeps S w (w'.alloc o) :=
 ⟨h.os, h.tape, h.output, by simp; have := h.size; omega, fun b hb hn => by
  rw [Below.heap_alloc w' o b (Nat.lt_of_lt_of_le hb h.size)]; exact h.block b hb hn⟩
theorem Keeps.setCell (h : Keeps S w w') (a : Addr) (v : Value) (ha : a.block < w.heap.size → S a.block) : Keeps S w (w'.setCell a v) :=
 ⟨h.os, h.tape, h.output, by simp; exact h.size, fun b hb hn => by
  rw [Below.heap_setCell w' a v b (fun e => hn (e ▸ ha (e ▸ hb)))]; exact h.block b hb hn⟩
theorem heap_setRow_ne (w : World) (g k : Nat) (cs : Array Value) (h : k ≠ g) : (w.setRow g cs).heap[k]? = w.heap[k]? := by
 have : g ≠ k := fun e => h e.symm
 simp [World.setRow, Array.getElem?_modify, this]
theorem Keeps.setRow (h : Keeps S w w') (g : Nat) (cs : Array Value) (ha : g < w.heap.size → S g) : Keeps S w (w'.setRow g cs) :=
 ⟨h.os, h.tape, h.output, by simp [World.setRow]; exact h.size, fun b hb hn => by
  rw [heap_setRow_ne w' g b cs (fun e => hn (e ▸ ha (e ▸ hb)))]; exact h.block b hb hn⟩
theorem Keeps.below (h : Keeps S w w') {B : Nat} (hB : B ≤ w.heap.size) (hs : ∀ b, S b → B ≤ b) : Below B w w' :=
 ⟨h.os, h.tape, h.output, h.size, fun b hb => h.block b (Nat.lt_of_lt_of_le hb hB) fun hn => by have := hs b hn; omega⟩
variable {g : Nat} {l : List Value} {t : TypeId}
theorem Blk.lt (h : Blk w g l t) : g < w.heap.size := (Array.getElem?_eq_some_iff.1 h).1
theorem Blk.kept (h : Blk w g l t) (k : Keeps S w w') (hn : ¬ S g) : Blk w' g l t := by
 unfold Blk at *
 rw [k.block g (Blk.lt h) hn]; exact h
theorem Blk.drewN (h : Blk w g l t) (n : Nat) : Blk (w.drewN n) g l t := h
theorem Blk.drew (h : Blk w g l t) : Blk w.drew g l t := h
theorem Blk.alloc (h : Blk w g l t) (o : Obj) : Blk (w.alloc o) g l t := by
 unfold Blk at *
 rw [Below.heap_alloc w o g (Blk.lt h)]; exact h
theorem Blk.new (w : World) (cs : Array Value) (t : TypeId) : Blk (w.alloc (.cells cs t)) w.heap.size cs.toList t := by
 unfold Blk
 rw [Array.toArray_toList]
 exact heap_alloc_new w _
theorem Blk.cell (h : Blk w g l t) {i : Nat} {v : Value} (hv : l[i]? = some v) : w.cell? ⟨g, i, none⟩ = some v := by
 unfold Blk at h
 simp [World.cell?, h, hv]
theorem Blk.frozen (h : Blk w g l t) (i : Nat) : w.frozen? ⟨g, i, none⟩ = false := by
 unfold Blk at h
 simp [World.frozen?, h]
theorem Blk.setRow (h : Blk w g l t) (cs : List Value) : Blk (w.setRow g cs.toArray) g cs t := setRow_heap w g _ _ t _ h
theorem Blk.setRow_ne (h : Blk w g l t) {k : Nat} (hk : g ≠ k) (cs : Array Value) : Blk (w.setRow k cs) g l t := by
 unfold Blk at *
 rw [heap_setRow_ne w k g cs hk]; exact h
theorem Blk.setCell (h : Blk w g l t) (i : Nat) (v : Value) : Blk (w.setCell ⟨g, i, none⟩ v) g (l.set i v) t := by
 rw [setCell_eq_setRow w g i _ t _ v h]
 have e : l.toArray.setIfInBounds i v = (l.set i v).toArray := by simp
 rw [e]
 exact h.setRow _
end
section
variable {P : Program} (w : World)
end
section
variable {P : Program} {w : World}
theorem wpList_append_run {ops : Array Oper} {rest : List Oper} {o : Oper} {a : Act} {Q : Exit → Act → World → Prop} (hgd : o.guard = none) (s x : Operand) (t k : TypeId)
  (ho : o.op = .call { callee := .builtin .append, args := #[s, x], argTypes := #[t, k] }) (vs vx v' : Value) (w' : World) (hs : a.eval s = vs) (hx : a.eval x = vx)
  (hr : ∀ ty, (Builtin.append_ #[t, k] ty #[vs, vx]).run P w = .ok v' w') (h : wpList P ops Q rest (a.put o.dst v') w') : wpList P ops Q (o :: rest) a w :=
 wpList_plain hgd fun _ hK => by
  unfold Oper.wp execOp
  simp only [ho, resolve, invoke, builtin, Sem.run_bind, Sem.run_pure, Result.andThen_ok, List.map_toArray, List.map_cons, List.map_nil, hs, hx, hr]
  exact hK _ _ h
theorem isCopy {ops : Array Oper} {rest : List Oper} {o : Oper} {a : Act} {Q : Exit → Act → World → Prop} (s x : Operand) (t k : TypeId)
  (_ho : o.op = .call { callee := .builtin .copy, args := #[s, x], argTypes := #[t, k] }) (h : wpList P ops Q (o :: rest) a w) : wpList P ops Q (o :: rest) a w := h
theorem wpList_copy_run {ops : Array Oper} {rest : List Oper} {o : Oper} {a : Act} {Q : Exit → Act → World → Prop} (hgd : o.guard = none) (s x : Operand) (t k : TypeId)
  (ho : o.op = .call { callee := .builtin .copy, args := #[s, x], argTypes := #[t, k] }) (vs vx v' : Value) (w' : World) (hs : a.eval s = vs) (hx : a.eval x = vx)
  (hr : ∀ ty, (Builtin.copy_ #[t, k] ty #[vs, vx]).run P w = .ok v' w') (h : wpList P ops Q rest (a.put o.dst v') w') : wpList P ops Q (o :: rest) a w :=
 wpList_plain hgd fun _ hK => by
  unfold Oper.wp execOp
  simp only [ho, resolve, invoke, builtin, Sem.run_bind, Sem.run_pure, Result.andThen_ok, List.map_toArray, List.map_cons, List.map_nil, hs, hx, hr]
  exact hK _ _ h
end
section
variable {P : Program} {w : World}
theorem wpList_make_run {ops : Array Oper} {rest : List Oper} {o : Oper} {a : Act} {Q : Exit → Act → World → Prop} (hgd : o.guard = none) (s x : Operand) (t : TypeId)
  (ho : o.op = .makeSlice t s x) (vs vx v' : Value) (w' : World) (hs : a.eval s = vs) (hx : a.eval x = vx)
  (hr : (Instr.makeSlice t vs vx).run P w = .ok v' w') (h : wpList P ops Q rest (a.put o.dst v') w') : wpList P ops Q (o :: rest) a w :=
 wpList_plain hgd fun _ hK => by
  unfold Oper.wp execOp
  simp only [ho, hs, hx, Sem.run_bind, hr, Result.andThen_ok, Sem.run_pure]
  exact hK _ _ h
end
end Go.Proofs.YtfbapgcopidbpaaGreat
namespace Go.Proofs.YtfbapgcopidbpaaGreat
namespace Mq
open Go.RowKit
set_option linter.unusedVariables false
def wvs (ws : List UInt32) : List Value := ws.map fun x => .int .u32 (x.toNat : Int)
theorem wvs_length (ws : List UInt32) : (wvs ws).length = ws.length := by simp [wvs]
theorem wvs_get (ws : List UInt32) (i : Nat) (h : i < ws.length) : (wvs ws)[i]? = some (.int .u32 (ws[i].toNat : Int)) := by simp [wvs, h]
theorem wvs_append (a b : List UInt32) : wvs (a ++ b) = wvs a ++ wvs b := by simp [wvs]
theorem wvs_take (xs : List UInt32) (n : Nat) : wvs (xs.take n) = (wvs xs).take n := by simp [wvs, List.map_take]
theorem wvs_drop (xs : List UInt32) (n : Nat) : wvs (xs.drop n) = (wvs xs).drop n := by simp [wvs, List.map_drop]
theorem wvs_one (xs : List UInt32) : ∀ v ∈ wvs xs, v.oneCell' = true := by
 intro v hv
 obtain ⟨x, _, rfl⟩ := List.mem_map.1 hv
 rfl
def SegW (w : World) (a : Option Addr) (ws : List UInt32) : Prop :=
 ws = [] ∨ ∃ g o, a = some ⟨g, o, none⟩ ∧ ∀ j, (h : j < ws.length) → w.cell? ⟨g, o + j, none⟩ = some (.int .u32 (ws[j].toNat : Int))
theorem SegW.kept {S : Nat → Prop} {w w' : World} {a : Option Addr} {ws : List UInt32} (h : SegW w a ws) (hK : Keeps S w w') (hn : ∀ x, a = some x → ¬ S x.block) : SegW w' a ws := by
 rcases h with h | ⟨g, o, ha, hc⟩
 ·
  exact .inl h
 ·
  refine .inr ⟨g, o, ha, fun j hj => ?_⟩
  have h1 := hc j hj
  have hlt : g < w.heap.size := World.block_lt_of_cell? w ⟨g, o + j, none⟩ h1
  rw [World.cell?_of_block (w := w) (hK.block g hlt (hn _ ha))]
  exact h1
theorem segW_of_blk {w : World} {g : Nat} {ws : List UInt32} {t : TypeId} (h : Blk w g (wvs ws) t) : SegW w (some ⟨g, 0, none⟩) ws :=
 .inr ⟨g, 0, rfl, fun j hj => h.cell (by rw [Nat.zero_add]; exact wvs_get ws j hj)⟩
theorem segW_cells {w : World} {a : Option Addr} {xs : List UInt32} (h : SegW w a xs) : wvs xs = [] ∨ ∃ b p, a = some ⟨b, p, none⟩ ∧ ∀ j u, (wvs xs)[j]? = some u → w.cell? ⟨b, p + j, none⟩ = some u := by
 rcases h with h | ⟨g, o, h, k⟩
 ·
  left; rw [h]; rfl
 ·
  right
  refine ⟨g, o, h, fun j u hj => ?_⟩
  have hlt : j < xs.length := by
   have := (List.getElem?_eq_some_iff.1 hj).1
   rw [wvs_length] at this
   exact this
  rw [wvs_get xs j hlt] at hj
  rw [k j hlt]; exact hj
theorem Tryz.info27 : (Tryz.prog.info? 27).map (fun i => (i.zero, i.size, i.bytes)) = some (some (.int .u32 0), 1, 4) := by kernel_rfl
theorem Tryz.size27 : (Tryz.prog.info? 27).map (·.size) = some 1 := by kernel_rfl
theorem madeCells_words (n : Nat) : madeCells (Value.int .u32 0).cells n = (wvs (List.replicate n 0)).toArray := by
 apply Array.ext'
 apply List.ext_getElem?
 intro i
 have hm : i % 1 = 0 := by omega
 simp [madeCells, wvs, List.getElem?_replicate]
 by_cases hi : i < n
 ·
  simp [hi, Value.cells, hm]
 ·
  simp [hi]
theorem run_make_words {w : World} (n : Nat) (hn : n ≤ 70368744177664) :
  (Instr.makeSlice 57 (.int .i64 n) (.int .i64 n)).run Tryz.prog w = .ok (.slice (some ⟨w.heap.size, 0, none⟩) n n) (w.alloc (.cells (wvs (List.replicate n 0)).toArray 27)) := by
 obtain ⟨i0, hi, hz0, hz1, hz2⟩ := info_parts Tryz.info27
 have h := run_make (P := Tryz.prog) w 57 27 i0 (.int .u32 0) Tryz.underlying57 hi hz0 .i64 .i64 n n (by omega) (by omega) (by rw [hz2]; omega) (by omega)
 rw [hz1, Nat.mul_one, Int.toNat_natCast, madeCells_words] at h
 exact h
theorem run_copy_wb {w : World} (ty : TypeId) (g o dCap : Nat) (l : List Value) (t : TypeId) (hg : Blk w g l t) (a : Option Addr) (sCap : Nat) (xs : List UInt32)
  (hx : SegW w a xs) (hfit : o + xs.length ≤ l.length) :
  (Builtin.copy_ #[57, 57] ty #[.slice (some ⟨g, o, none⟩) xs.length dCap, .slice a xs.length sCap]).run Tryz.prog w = .ok (goInt xs.length) (w.setRow g (l.take o ++ wvs xs ++ l.drop (o + xs.length)).toArray) := by
 rcases segW_cells hx with h0 | ⟨b, p, rfl, hc⟩
 ·
  have hl : xs.length = 0 := by rw [← wvs_length, h0]; rfl
  have h := run_copy_none (P := Tryz.prog) w 57 57 ty 27 (some ⟨g, o, none⟩) a 0 dCap 0 sCap Tryz.underlying57 Tryz.size27 rfl
  have h2 := setRow_self w g l.toArray t (0, 0) hg
  rw [hl, h0, List.append_nil, Nat.add_zero, List.take_append_drop, h2]
  exact h
 ·
  have h := run_copy_row Tryz.prog w 57 57 ty 27 g o xs.length dCap ⟨b, p, none⟩ xs.length sCap l.toArray t (wvs xs) Tryz.underlying57 Tryz.size27 hg (by simp [wvs_length]) (by
   intro j v hj
   rw [addr_add]
   exact hc j v hj) (by rw [wvs_length]; simpa using hfit) (wvs_one xs)
  rw [wvs_length] at h
  exact h
structure Mm (w : World) (b g : Nat) (xs : List UInt32) : Prop where
 ne : b ≠ g
 blk : Blk w b [.slice (some ⟨g, 0, none⟩) xs.length xs.length] 66
 row : Blk w g (wvs xs) 27
 small : xs.length ≤ 16384
theorem Mm.kept {S : Nat → Prop} {w w' : World} {b g : Nat} {xs : List UInt32} (h : Mm w b g xs) (k : Keeps S w w') (hb : ¬ S b) (hg : ¬ S g) : Mm w' b g xs :=
 ⟨h.ne, h.blk.kept k hb, h.row.kept k hg, h.small⟩
def lay (xs : List UInt32) (at' : Nat) (ys : List UInt32) : List UInt32 := xs.take at' ++ ys ++ xs.drop (at' + ys.length)
theorem lay_length (xs : List UInt32) (p : Nat) (ys : List UInt32) (h : p + ys.length ≤ xs.length) : (lay xs p ys).length = xs.length := by
 simp [lay]; omega
theorem Mm.laid {w : World} {b g : Nat} {xs : List UInt32} (h : Mm w b g xs) (p : Nat) (ys : List UInt32) (hf : p + ys.length ≤ xs.length) :
  Mm (w.setRow g ((wvs xs).take p ++ wvs ys ++ (wvs xs).drop (p + ys.length)).toArray) b g (lay xs p ys) := by
 refine ⟨h.ne, ?_, ?_, ?_⟩
 ·
  rw [lay_length xs p ys hf]; exact h.blk.setRow_ne h.ne _
 ·
  have e : wvs (lay xs p ys) = (wvs xs).take p ++ wvs ys ++ (wvs xs).drop (p + ys.length) := by simp [lay, wvs_append, wvs_take, wvs_drop]
  rw [e]; exact h.row.setRow _
 ·
  rw [lay_length xs p ys hf]; exact h.small
def at0 (L p : Nat) : Nat := if p < L then p else 0
set_option maxHeartbeats 400000 in
theorem run_in (b g : Nat) (xs : List UInt32) (p n : Nat) (w : World) (h : Mm w b g xs) (hf : p + n ≤ xs.length) :
  Calls Tryz.prog 42 #[.pointer (some ⟨b, 0, none⟩), .int .i64 p, .int .i64 n] w fun e w' => e = .returned (.tuple #[.slice (some ⟨g, at0 xs.length p, none⟩) n (xs.length - p), .int .i64 0]) ∧ w' = w := by
 have c0 := h.blk.cell (i := 0) rfl
 have hs := h.small
 obtain ⟨L, hL⟩ : ∃ L, L = xs.length := ⟨_, rfl⟩
 rw [← hL] at c0 hf hs ⊢
 clear hL h
 have h1 : (p : Int) + (n : Int) ≤ (L : Int) := by omega
 have h2 : (L : Int) ≤ 16384 := by omega
 by_cases hp : p < L
 ·
  have e0 : at0 L p = p := if_pos hp
  rw [e0]
  have h3 : ¬ L = p := by omega
  clear hf hs e0
  go_enter Tryz.func42, Tryz.ntmps42
  go_wp2
  go_ret2
  exact ⟨by simp, rfl⟩
 ·
  have e0 : at0 L p = 0 := if_neg hp
  rw [e0]
  obtain rfl : p = L := by omega
  obtain rfl : n = 0 := by omega
  clear hf hs e0 hp h1
  go_enter Tryz.func42, Tryz.ntmps42
  go_wp2
  go_ret2
  exact ⟨by simp, rfl⟩
end Mq
end Go.Proofs.YtfbapgcopidbpaaGreat
namespace Go.Proofs.YtfbapgcopidbpaaGreat
namespace Mq
open Go.RowKit
set_option linter.unusedVariables false
theorem at0_in {L p n : Nat} (h : p + n ≤ L) (hn : 0 < n) : at0 L p = p := if_pos (by omega)
def pk (c : Int) (n : Nat) : Nat := ((if c < 0 then -(c + 1) else c) % n).toNat
set_option maxRecDepth 20000 in
set_option maxHeartbeats 400000 in
set_option maxHeartbeats 400000 in
theorem new_walk (n : Nat) (w W1 : World) (N : Nat) (hn1 : (n : Int) ≤ 1024) (hn2 : ¬ ((n : Int) < 1)) (HM : Hid ((Instr.makeSlice 57 (.int .i64 ((n : Int) * 16)) (.int .i64 ((n : Int) * 16))).run Tryz.prog w = .ok (.slice (some ⟨w.heap.size, 0, none⟩) N N) W1)) :
  Calls Tryz.prog 6 #[.int .i64 n] w fun e w' => e = .returned (.tuple #[.pointer (some ⟨W1.heap.size, 0, none⟩), .int .i64 0]) ∧ w' = W1.alloc (.cells #[.slice (some ⟨w.heap.size, 0, none⟩) N N] 66) := by
 go_enter Tryz.func6, Tryz.ntmps6
 go_wp2_with (at_make; refine wpList_make_run rfl (.tmp 11) (.tmp 11) 57 rfl (.int .i64 ((n : Int) * 16)) (.int .i64 ((n : Int) * 16)) (.slice (some ⟨w.heap.size, 0, none⟩) N N) W1 rfl rfl HM.out ?_; refine Hid.out ?_)
 unfold Hid
 go_wp2
 go_ret2
 exact ⟨rfl, rfl⟩
theorem new_in (n : Nat) (w : World) (h1 : 1 ≤ n) (h2 : n ≤ 1024) :
  Calls Tryz.prog 6 #[.int .i64 n] w fun e w' => e = .returned (.tuple #[.pointer (some ⟨w.heap.size + 1, 0, none⟩), .int .i64 0]) ∧ Mm w' (w.heap.size + 1) w.heap.size (List.replicate (n * 16) 0) ∧ Keeps (fun _ => False) w w' := by
 have hmk := run_make_words (w := w) (n * 16) (by omega)
 obtain ⟨W1, hW⟩ : ∃ W1, W1 = w.alloc (.cells (wvs (List.replicate (n * 16) 0)).toArray 27) := ⟨_, rfl⟩
 rw [← hW] at hmk
 have hK1 : Keeps (fun _ => False) w W1 := by rw [hW]; exact (Keeps.refl _ w).alloc _
 have hB1 : Blk W1 w.heap.size (wvs (List.replicate (n * 16) 0)) 27 := by rw [hW]; exact Blk.new w _ 27
 have hsz : W1.heap.size = w.heap.size + 1 := by rw [hW]; simp
 have e1 : ((n * 16 : Nat) : Int) = (n : Int) * 16 := by omega
 rw [e1] at hmk
 refine (new_walk n w W1 (n * 16) (by omega) (by omega) hmk).mono ?_
 rintro e w' ⟨rfl, rfl⟩
 have hB := Blk.new W1 #[.slice (some ⟨w.heap.size, 0, none⟩) (n * 16) (n * 16)] 66
 rw [hsz] at hB
 have e2 : (List.replicate (n * 16) (0 : UInt32)).length = n * 16 := List.length_replicate
 refine ⟨by rw [← hsz], ⟨by omega, ?_, hB1.alloc _, by rw [e2]; omega⟩, hK1.alloc _⟩
 rw [e2]; exact hB
end Mq
end Go.Proofs.YtfbapgcopidbpaaGreat
namespace Go.Proofs.YtfbapgcopidbpaaGreat
namespace Mq
open Go.RowKit
set_option linter.unusedVariables false
def Done (w : World) (b g : Nat) (xs : List UInt32) (p n : Int) (ys : List UInt32) (e : Ending) (w' : World) : Prop :=
 ((0 ≤ p ∧ 0 ≤ n ∧ p + n ≤ xs.length) ∧ e = .returned (.int .i64 0) ∧ Mm w' b g (lay xs p.toNat ys) ∧ Keeps (· = g) w w') ∨
 (¬ (0 ≤ p ∧ 0 ≤ n ∧ p + n ≤ xs.length) ∧ e = .returned (.int .i64 51) ∧ w' = w)
set_option maxHeartbeats 400000 in
theorem write_in (b g : Nat) (xs : List UInt32) (p : Nat) (x : UInt32) (w : World) (h : Mm w b g xs) (hf : p < xs.length) :
  Calls Tryz.prog 22 #[.pointer (some ⟨b, 0, none⟩), .int .i64 p, .int .u32 (x.toNat : Int)] w fun e w' => e = .returned (.int .i64 0) ∧ Mm w' b g (lay xs p [x]) ∧ Keeps (· = g) w w' := by
 have hc := h.row.cell (wvs_get xs p hf)
 have hz := h.row.frozen p
 have HC : Hid (Calls _ _ _ _ _) := run_in b g xs p 1 w h (by omega)
 have hfin : w.setCell ⟨g, p, none⟩ (.int .u32 (x.toNat : Int)) = w.setRow g ((wvs xs).take p ++ wvs [x] ++ (wvs xs).drop (p + [x].length)).toArray := by
  rw [setCell_eq_setRow w g p _ 27 _ _ h.row]
  congr 1
  have hl : p < (wvs xs).length := by rw [wvs_length]; exact hf
  have e : (wvs xs).set p (.int .u32 (x.toNat : Int)) = (wvs xs).take p ++ wvs [x] ++ (wvs xs).drop (p + [x].length) := by
   rw [List.set_eq_take_append_cons_drop, if_pos hl]; simp [wvs]
  rw [← e]; simp
 have hM := h.laid p [x] (by simp; omega)
 rw [← hfin] at hM
 have hK : Keeps (· = g) w (w.setCell ⟨g, p, none⟩ (.int .u32 (x.toNat : Int))) := (Keeps.refl _ w).setCell _ _ fun _ => rfl
 rw [at0_in (n := 1) (show p + 1 ≤ xs.length by omega) (by omega)] at HC
 have HM : Hid (Mm _ _ _ _) := hM
 have HK : Hid (Keeps _ _ _) := hK
 obtain ⟨L, hL⟩ : ∃ L, L = xs.length - p := ⟨_, rfl⟩
 rw [← hL] at HC
 have hL1 : 0 < L := by omega
 obtain ⟨y, hy⟩ : ∃ y : Nat, y = x.toNat := ⟨_, rfl⟩
 obtain ⟨z, hz'⟩ : ∃ z : Nat, z = xs[p].toNat := ⟨_, rfl⟩
 rw [← hz'] at hc
 rw [← hy] at HM HK ⊢
 clear hfin hM hK h hf hL hy hz'
 go_enter Tryz.func22, Tryz.ntmps22
 go_wp2_with fail
 refine HC.out.mono ?_
 rintro e w1 ⟨rfl, hw⟩
 obtain rfl := hw.symm
 clear hw HC
 go_wp2
 go_ret
 exact ⟨rfl, HM.out, HK.out⟩
set_option maxHeartbeats 400000 in
theorem read_in (b g : Nat) (xs : List UInt32) (p : Nat) (w : World) (h : Mm w b g xs) (hf : p < xs.length) :
  Calls Tryz.prog 36 #[.pointer (some ⟨b, 0, none⟩), .int .i64 p] w fun e w' => e = .returned (.tuple #[.int .u32 (xs[p].toNat : Int), .int .i64 0]) ∧ w' = w := by
 have hc := h.row.cell (wvs_get xs p hf)
 have HC : Hid (Calls _ _ _ _ _) := run_in b g xs p 1 w h (by omega)
 rw [at0_in (n := 1) (show p + 1 ≤ xs.length by omega) (by omega)] at HC
 obtain ⟨L, hL⟩ : ∃ L, L = xs.length - p := ⟨_, rfl⟩
 rw [← hL] at HC
 obtain ⟨z, hz'⟩ : ∃ z : Nat, z = xs[p].toNat := ⟨_, rfl⟩
 rw [← hz'] at hc ⊢
 clear h hf hL hz'
 go_enter Tryz.func36, Tryz.ntmps36
 go_wp2_with fail
 refine HC.out.mono ?_
 rintro e w1 ⟨rfl, hw⟩
 obtain rfl := hw.symm
 clear hw HC
 go_wp2
 go_ret2
 exact ⟨rfl, rfl⟩
end Mq
end Go.Proofs.YtfbapgcopidbpaaGreat
