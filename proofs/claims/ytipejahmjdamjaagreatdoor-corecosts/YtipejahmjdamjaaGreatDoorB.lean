import Derived.Test.YtipejahmjdamjaaGreatDoorProg
import Derived.Test.YtipejahmjdamjaaGreatDoorMem
import Derived.WalkKit
import Derived.WalkSpells
import Derived.WalkLawsBesides
import Derived.Deep.QuietTactic
import Derived.BigQuiet
import Derived.Below
namespace Go.Proofs.YtipejahmjdamjaaGreatDoor
open Go.RowKit
set_option linter.unusedVariables false

def wvs (ws : List UInt32) : List Value := ws.map fun x => .int .u32 (x.toNat : Int)
theorem wvs_length (ws : List UInt32) : (wvs ws).length = ws.length := by simp [wvs]
theorem wvs_get (ws : List UInt32) (i : Nat) (h : i < ws.length) : (wvs ws)[i]? = some (.int .u32 (ws[i].toNat : Int)) := by simp [wvs, h]
theorem wvs_append (a b : List UInt32) : wvs (a ++ b) = wvs a ++ wvs b := by simp [wvs]
theorem wvs_take (xs : List UInt32) (n : Nat) : wvs (xs.take n) = (wvs xs).take n := by simp [wvs, List.map_take]
theorem wvs_drop (xs : List UInt32) (n : Nat) : wvs (xs.drop n) = (wvs xs).drop n := by simp [wvs, List.map_drop]
theorem wvs_rep (n : Nat) (x : UInt32) : wvs (List.replicate n x) = List.replicate n (.int .u32 (x.toNat : Int)) := by simp [wvs]
theorem wvs_one (xs : List UInt32) : ∀ v ∈ wvs xs, v.oneCell' = true := by
  intro v hv
  obtain ⟨x, _, rfl⟩ := List.mem_map.1 hv
  rfl

/-- These words can be read at this address. -/
def SegW (w : World) (a : Option Addr) (ws : List UInt32) : Prop :=
  ws = [] ∨ ∃ g o, a = some ⟨g, o, none⟩ ∧ ∀ j, (h : j < ws.length) → w.cell? ⟨g, o + j, none⟩ = some (.int .u32 (ws[j].toNat : Int))

theorem SegW.kept {S : Nat → Prop} {w w' : World} {a : Option Addr} {ws : List UInt32} (h : SegW w a ws) (hK : Keeps S w w') (hn : ∀ x, a = some x → ¬ S x.block) : SegW w' a ws := by
  rcases h with h | ⟨g, o, ha, hc⟩
  · exact .inl h
  · refine .inr ⟨g, o, ha, fun j hj => ?_⟩
    have h1 := hc j hj
    have hlt : g < w.heap.size := World.block_lt_of_cell? w ⟨g, o + j, none⟩ h1
    rw [World.cell?_of_block (w := w) (hK.block g hlt (hn _ ha))]
    exact h1

theorem segW_of_blk {w : World} {g : Nat} {ws : List UInt32} {t : TypeId} (h : Blk w g (wvs ws) t) : SegW w (some ⟨g, 0, none⟩) ws :=
  .inr ⟨g, 0, rfl, fun j hj => h.cell (by rw [Nat.zero_add]; exact wvs_get ws j hj)⟩

theorem segW_part {w : World} {g : Nat} {ws : List UInt32} {t : TypeId} (h : Blk w g (wvs ws) t) (o n : Nat) (hf : o + n ≤ ws.length) : SegW w (some ⟨g, o, none⟩) ((ws.drop o).take n) := by
  refine .inr ⟨g, o, rfl, fun j hj => ?_⟩
  have hj' : j < n := by simp at hj; omega
  rw [h.cell (wvs_get ws (o + j) (by omega))]
  simp

theorem segW_cells {w : World} {a : Option Addr} {xs : List UInt32} (h : SegW w a xs) : wvs xs = [] ∨ ∃ b p, a = some ⟨b, p, none⟩ ∧ ∀ j u, (wvs xs)[j]? = some u → w.cell? ⟨b, p + j, none⟩ = some u := by
  rcases h with h | ⟨g, o, h, k⟩
  · left; rw [h]; rfl
  · right
    refine ⟨g, o, h, fun j u hj => ?_⟩
    have hlt : j < xs.length := by
      have := (List.getElem?_eq_some_iff.1 hj).1
      rw [wvs_length] at this
      exact this
    rw [wvs_get xs j hlt] at hj
    rw [k j hlt]; exact hj

theorem Tryz.info37 : (Tryz.prog.info? 37).map (fun i => (i.zero, i.size, i.bytes)) = some (some (.int .u32 0), 1, 4) := by kernel_rfl
theorem Tryz.size37 : (Tryz.prog.info? 37).map (·.size) = some 1 := by kernel_rfl
theorem Tryz.zero37 (w : World) : (zeroValue 37).run Tryz.prog w = .ok (.int .u32 0) w := by kernel_rfl

theorem madeCells_words (n : Nat) : madeCells (Value.int .u32 0).cells n = (wvs (List.replicate n 0)).toArray := by
  apply Array.ext'
  apply List.ext_getElem?
  intro i
  have hm : i % 1 = 0 := by omega
  simp [madeCells, wvs, List.getElem?_replicate]
  by_cases hi : i < n
  · simp [hi, Value.cells, hm]
  · simp [hi]

theorem run_make_words {w : World} (n : Nat) (hn : n ≤ 70368744177664) :
    (Instr.makeSlice 22 (.int .i64 n) (.int .i64 n)).run Tryz.prog w = .ok (.slice (some ⟨w.heap.size, 0, none⟩) n n) (w.alloc (.cells (wvs (List.replicate n 0)).toArray 37)) := by
  obtain ⟨i0, hi, hz0, hz1, hz2⟩ := info_parts Tryz.info37
  have h := run_make (P := Tryz.prog) w 22 37 i0 (.int .u32 0) Tryz.underlying22 hi hz0 .i64 .i64 n n (by omega) (by omega) (by rw [hz2]; omega) (by omega)
  rw [hz1, Nat.mul_one, Int.toNat_natCast, madeCells_words] at h
  exact h

/-- copy(dst, src), as many as there are in src, and dst has as many. -/
theorem run_copy_wb {w : World} (ty : TypeId) (g o dCap : Nat) (l : List Value) (t : TypeId) (hg : Blk w g l t) (a : Option Addr) (sCap : Nat) (xs : List UInt32)
    (hx : SegW w a xs) (hfit : o + xs.length ≤ l.length) :
    (Builtin.copy_ #[22, 22] ty #[.slice (some ⟨g, o, none⟩) xs.length dCap, .slice a xs.length sCap]).run Tryz.prog w = .ok (goInt xs.length) (w.setRow g (l.take o ++ wvs xs ++ l.drop (o + xs.length)).toArray) := by
  rcases segW_cells hx with h0 | ⟨b, p, rfl, hc⟩
  · have hl : xs.length = 0 := by rw [← wvs_length, h0]; rfl
    have h := run_copy_none (P := Tryz.prog) w 22 22 ty 37 (some ⟨g, o, none⟩) a 0 dCap 0 sCap Tryz.underlying22 Tryz.size37 rfl
    have h2 := setRow_self w g l.toArray t (0, 0) hg
    rw [hl, h0, List.append_nil, Nat.add_zero, List.take_append_drop, h2]
    exact h
  · have h := run_copy_row Tryz.prog w 22 22 ty 37 g o xs.length dCap ⟨b, p, none⟩ xs.length sCap l.toArray t (wvs xs) Tryz.underlying22 Tryz.size37 hg (by simp [wvs_length]) (by
      intro j v hj
      rw [addr_add]
      exact hc j v hj) (by rw [wvs_length]; simpa using hfit) (wvs_one xs)
    rw [wvs_length] at h
    exact h

/-- clear(s). -/
theorem run_clear_wb {w : World} (ty : TypeId) (g o n c : Nat) (l : List Value) (t : TypeId) (hg : Blk w g l t) (hfit : o + n ≤ l.length) :
    (Builtin.clear_ #[22] ty #[.slice (some ⟨g, o, none⟩) n c]).run Tryz.prog w = .ok (.tuple #[]) (w.setRow g (l.take o ++ List.replicate n (Value.int .u32 0) ++ l.drop (o + n)).toArray) := by
  by_cases hn : n = 0
  · subst hn
    have h2 := setRow_self w g l.toArray t (0, 0) hg
    rw [List.replicate_zero, List.append_nil, Nat.add_zero, List.take_append_drop, h2]
    simp [Builtin.clear_, run_underlying Tryz.underlying22]
  · obtain ⟨m, rfl⟩ : ∃ m, n = m + 1 := ⟨n - 1, by omega⟩
    have hzc : (Builtin.zeroCells (Value.int .u32 0).cells (m + 1)).toList = List.replicate (m + 1) (.int .u32 0) := by
      simp [Builtin.zeroCells, Value.cells]
      apply List.ext_getElem
      · simp
      · intro i h1 h2
        simp [Nat.mod_one]
    have hst := run_storeCells_at Tryz.prog g o t (List.replicate (m + 1) (.int .u32 0)) 0 l.toArray w hg (by simpa using hfit) (by intro v hv'; rw [List.eq_of_mem_replicate hv']; rfl)
    rw [List.length_replicate] at hst
    simp only [Nat.add_zero] at hst
    simp [Builtin.clear_, run_underlying Tryz.underlying22, hzc, hst]

theorem wpList_clear_run {ops : Array Oper} {rest : List Oper} {o : Oper} {a : Act} {Q : Exit → Act → World → Prop} {P : Program} {w : World} (hgd : o.guard = none) (s : Operand) (t : TypeId)
    (ho : o.op = .call { callee := .builtin .clear, args := #[s], argTypes := #[t] }) (vs v' : Value) (w' : World) (hs : a.eval s = vs)
    (hr : ∀ ty, (Builtin.clear_ #[t] ty #[vs]).run P w = .ok v' w') (h : wpList P ops Q rest (a.put o.dst v') w') : wpList P ops Q (o :: rest) a w :=
  wpList_plain hgd fun _ hK => by
    unfold Oper.wp execOp
    simp only [ho, resolve, invoke, builtin, Sem.run_bind, Sem.run_pure, Result.andThen_ok, List.map_toArray, List.map_cons, List.map_nil, hs, hr]
    exact hK _ _ h
/-- A guard: the next operation is this clear. -/
theorem isClear {ops : Array Oper} {rest : List Oper} {o : Oper} {a : Act} {Q : Exit → Act → World → Prop} {P : Program} {w : World} (s : Operand) (t : TypeId)
    (_ho : o.op = .call { callee := .builtin .clear, args := #[s], argTypes := #[t] }) (h : wpList P ops Q (o :: rest) a w) : wpList P ops Q (o :: rest) a w := h

/-- A memory: its pointer's block, its words' block, its words. -/
structure Mm (w : World) (b g : Nat) (xs : List UInt32) : Prop where
  ne : b ≠ g
  blk : Blk w b [.slice (some ⟨g, 0, none⟩) xs.length xs.length] 82
  row : Blk w g (wvs xs) 37
  small : xs.length ≤ 16384

theorem Mm.kept {S : Nat → Prop} {w w' : World} {b g : Nat} {xs : List UInt32} (h : Mm w b g xs) (k : Keeps S w w') (hb : ¬ S b) (hg : ¬ S g) : Mm w' b g xs :=
  ⟨h.ne, h.blk.kept k hb, h.row.kept k hg, h.small⟩

/-- Words laid over words. -/
def lay (xs : List UInt32) (at' : Nat) (ys : List UInt32) : List UInt32 := xs.take at' ++ ys ++ xs.drop (at' + ys.length)
theorem lay_length (xs : List UInt32) (p : Nat) (ys : List UInt32) (h : p + ys.length ≤ xs.length) : (lay xs p ys).length = xs.length := by
  simp [lay]; omega

theorem Mm.laid {w : World} {b g : Nat} {xs : List UInt32} (h : Mm w b g xs) (p : Nat) (ys : List UInt32) (hf : p + ys.length ≤ xs.length) :
    Mm (w.setRow g ((wvs xs).take p ++ wvs ys ++ (wvs xs).drop (p + ys.length)).toArray) b g (lay xs p ys) := by
  refine ⟨h.ne, ?_, ?_, ?_⟩
  · rw [lay_length xs p ys hf]; exact h.blk.setRow_ne h.ne _
  · have e : wvs (lay xs p ys) = (wvs xs).take p ++ wvs ys ++ (wvs xs).drop (p + ys.length) := by simp [lay, wvs_append, wvs_take, wvs_drop]
    rw [e]; exact h.row.setRow _
  · rw [lay_length xs p ys hf]; exact h.small

set_option maxHeartbeats 400000 in
theorem copied_any (a : Option Addr) (c : Nat) (xs : List UInt32) (w : World) (hx : SegW w a xs) (hl : xs.length ≤ 1048576) :
    Calls Tryz.prog 38 #[.slice a xs.length c] w fun e w' => e = .returned (.slice (some ⟨w.heap.size, 0, none⟩) xs.length xs.length) ∧ Blk w' w.heap.size (wvs xs) 37 ∧ Keeps (fun _ => False) w w' := by
  have hmk := run_make_words (w := w) xs.length (by omega)
  obtain ⟨W1, hW⟩ : ∃ W1, W1 = w.alloc (.cells (wvs (List.replicate xs.length 0)).toArray 37) := ⟨_, rfl⟩
  rw [← hW] at hmk
  have hK1 : Keeps (fun _ => False) w W1 := by rw [hW]; exact (Keeps.refl _ w).alloc _
  have hB1 : Blk W1 w.heap.size (wvs (List.replicate xs.length 0)) 37 := by rw [hW]; exact Blk.new w _ 37
  have hs1 : SegW W1 a xs := hx.kept hK1 (fun _ _ e => e)
  have hcp := fun ty => run_copy_wb (w := W1) ty w.heap.size 0 xs.length _ 37 hB1 a c xs hs1 (by simp [wvs_length])
  have e : (wvs (List.replicate xs.length 0)).take 0 ++ wvs xs ++ (wvs (List.replicate xs.length 0)).drop (0 + xs.length) = wvs xs := by simp [wvs]
  rw [e] at hcp
  obtain ⟨W3, hW3⟩ : ∃ W3, W3 = W1.setRow w.heap.size (wvs xs).toArray := ⟨_, rfl⟩
  have hB3 : Blk W3 w.heap.size (wvs xs) 37 := by rw [hW3]; exact hB1.setRow _
  have hK3 : Keeps (fun _ => False) w W3 := by rw [hW3]; exact hK1.setRow _ _ (fun h => by omega)
  rw [← hW3] at hcp
  obtain ⟨n, hnn⟩ : ∃ n, n = xs.length := ⟨_, rfl⟩
  rw [← hnn] at hmk hcp ⊢
  have HM : Hid (_ = _) := hmk
  have HC : Hid (∀ ty, _) := hcp
  clear hmk hnn hcp hW3 hW hs1 hB1 hK1 e
  go_enter Tryz.func38, Tryz.ntmps38
  go_wp2_with (at_make; refine wpList_make_run rfl (.tmp 5) (.tmp 5) 22 rfl (.int .i64 n) (.int .i64 n) (.slice (some ⟨w.heap.size, 0, none⟩) n n) W1 rfl rfl HM.out ?_; refine Hid.out ?_)
  unfold Hid
  go_wp2_with (refine isCopy (.tmp 7) (.tmp 8) 22 22 rfl ?_; go_must (refine wpList_copy_run rfl (.tmp 7) (.tmp 8) 22 22 rfl (.slice (some ⟨w.heap.size, 0, none⟩) n n) (.slice a n c) (goInt n) W3 rfl rfl HC.out ?_))
  go_ret
  exact ⟨rfl, hB3, hK3⟩

/-- Where a run lies: at its place; but one of no words at the end lies at the block's head. -/
def at0 (L p : Nat) : Nat := if p < L then p else 0

set_option maxHeartbeats 400000 in
theorem run_in (b g : Nat) (xs : List UInt32) (p n : Nat) (w : World) (h : Mm w b g xs) (hf : p + n ≤ xs.length) :
    Calls Tryz.prog 43 #[.pointer (some ⟨b, 0, none⟩), .int .i64 p, .int .i64 n] w fun e w' => e = .returned (.tuple #[.slice (some ⟨g, at0 xs.length p, none⟩) n (xs.length - p), .int .i64 0]) ∧ w' = w := by
  have c0 := h.blk.cell (i := 0) rfl
  have hs := h.small
  obtain ⟨L, hL⟩ : ∃ L, L = xs.length := ⟨_, rfl⟩
  rw [← hL] at c0 hf hs ⊢
  clear hL h
  have h1 : (p : Int) + (n : Int) ≤ (L : Int) := by omega
  have h2 : (L : Int) ≤ 16384 := by omega
  by_cases hp : p < L
  · have e0 : at0 L p = p := if_pos hp
    rw [e0]
    have h3 : ¬ L = p := by omega
    clear hf hs e0
    go_enter Tryz.func43, Tryz.ntmps43
    go_wp2
    go_ret2
    exact ⟨by simp, rfl⟩
  · have e0 : at0 L p = 0 := if_neg hp
    rw [e0]
    obtain rfl : p = L := by omega
    obtain rfl : n = 0 := by omega
    clear hf hs e0 hp h1
    go_enter Tryz.func43, Tryz.ntmps43
    go_wp2
    go_ret2
    exact ⟨by simp, rfl⟩

set_option maxHeartbeats 400000 in
theorem run_out (b g : Nat) (xs : List UInt32) (p n : Int) (w : World) (h : Mm w b g xs) (hf : ¬ (0 ≤ p ∧ 0 ≤ n ∧ p + n ≤ xs.length)) (hp : p ≤ 9223372036854775807) :
    Calls Tryz.prog 43 #[.pointer (some ⟨b, 0, none⟩), .int .i64 p, .int .i64 n] w fun e w' => e = .returned (.tuple #[.slice none 0 0, .int .i64 51]) ∧ w' = w := by
  have c0 := h.blk.cell (i := 0) rfl
  have hs := h.small
  obtain ⟨L, hL⟩ : ∃ L, L = xs.length := ⟨_, rfl⟩
  rw [← hL] at c0 hf hs
  clear hL h
  have h2 : (L : Int) ≤ 16384 := by omega
  clear hs
  by_cases h0 : p < 0
  · clear hf
    go_enter Tryz.func43, Tryz.ntmps43
    go_wp2
    go_ret2
    exact ⟨rfl, rfl⟩
  · by_cases h1 : n < 0
    · clear hf
      go_enter Tryz.func43, Tryz.ntmps43
      go_wp2
      go_ret2
      exact ⟨rfl, rfl⟩
    · have h3 : (L : Int) - p < n := by omega
      clear hf
      go_enter Tryz.func43, Tryz.ntmps43
      go_wp2
      go_ret2
      exact ⟨rfl, rfl⟩

end Go.Proofs.YtipejahmjdamjaaGreatDoor
namespace Go.Proofs.YtipejahmjdamjaaGreatDoor
open Go.RowKit
set_option linter.unusedVariables false

theorem at0_in {L p n : Nat} (h : p + n ≤ L) (hn : 0 < n) : at0 L p = p := if_pos (by omega)
theorem at0_fit {L p n : Nat} (h : p + n ≤ L) : at0 L p + n ≤ L := by unfold at0; split <;> omega
theorem lay_at0 (xs : List UInt32) (p : Nat) (ys : List UInt32) (h : p + ys.length ≤ xs.length) : lay xs (at0 xs.length p) ys = lay xs p ys := by
  by_cases h0 : 0 < ys.length
  · rw [at0_in h h0]
  · obtain rfl : ys = [] := List.eq_nil_of_length_eq_zero (by omega)
    simp [lay]
theorem rep_wvs (xs : List UInt32) (p n : Nat) (x : UInt32) : List.take p (wvs xs) ++ List.replicate n (Value.int .u32 (x.toNat : Int)) ++ List.drop (p + n) (wvs xs) = List.take p (wvs xs) ++ wvs (List.replicate n x) ++ List.drop (p + (List.replicate n x).length) (wvs xs) := by
  rw [wvs_rep, List.length_replicate]

theorem ret_int {k : IntKind} {a b : Int} (h : a = b) : Ending.returned (.int k a) = .returned (.int k b) := by rw [h]
theorem ret_bool {a b : Bool} (h : a = b) : Ending.returned (.bool a) = .returned (.bool b) := by rw [h]

/-- Which of n things the number c speaks of. -/
def pk (c : Int) (n : Nat) : Nat := ((if c < 0 then -(c + 1) else c) % n).toNat
theorem pk_lt (c : Int) (n : Nat) (h : 0 < n) : pk c n < n := by
  unfold pk
  have h1 := Int.emod_lt_of_pos (if c < 0 then -(c + 1) else c) (show (0 : Int) < n by omega)
  have h2 := Int.emod_nonneg (if c < 0 then -(c + 1) else c) (show (n : Int) ≠ 0 by omega)
  omega
theorem pk_cast (c : Int) (n : Nat) (h : 0 < n) : ((pk c n : Nat) : Int) = (if c < 0 then -(c + 1) else c) % n := by
  unfold pk
  have h2 := Int.emod_nonneg (if c < 0 then -(c + 1) else c) (show (n : Int) ≠ 0 by omega)
  omega

set_option maxHeartbeats 400000 in
theorem words_any (b g : Nat) (xs : List UInt32) (w : World) (h : Mm w b g xs) :
    Calls Tryz.prog 33 #[.pointer (some ⟨b, 0, none⟩)] w fun e w' => e = .returned (.slice (some ⟨w.heap.size, 0, none⟩) xs.length xs.length) ∧ Blk w' w.heap.size (wvs xs) 37 ∧ Keeps (fun _ => False) w w' := by
  have c0 := h.blk.cell (i := 0) rfl
  have HC := copied_any (some ⟨g, 0, none⟩) xs.length xs w (segW_of_blk h.row) (by have := h.small; omega)
  have HC : Hid (Calls _ _ _ _ _) := HC
  clear h
  go_enter Tryz.func33, Tryz.ntmps33
  go_wp2_with fail
  refine HC.out.mono ?_
  rintro e w1 ⟨rfl, h1, h2⟩
  have H1 : Hid (Blk _ _ _ _) := h1
  have H2 : Hid (Keeps _ _ _) := h2
  clear h1 h2 HC c0
  go_wp2
  go_ret
  exact ⟨rfl, H1.out, H2.out⟩

set_option maxHeartbeats 400000 in
theorem frames_any (b g : Nat) (xs : List UInt32) (n : Nat) (w : World) (h : Mm w b g xs) (hn : xs.length = n * 16) :
    Calls Tryz.prog 34 #[.pointer (some ⟨b, 0, none⟩)] w fun e w' => e = .returned (.int .i64 n) ∧ w' = w := by
  have c0 := h.blk.cell (i := 0) rfl
  have hs := h.small
  rw [hn] at c0 hs
  have h2 : (n : Int) ≤ 1024 := by omega
  clear h hn hs
  go_enter Tryz.func34, Tryz.ntmps34
  go_wp2
  go_ret
  exact ⟨ret_int (by omega), rfl⟩

end Go.Proofs.YtipejahmjdamjaaGreatDoor
