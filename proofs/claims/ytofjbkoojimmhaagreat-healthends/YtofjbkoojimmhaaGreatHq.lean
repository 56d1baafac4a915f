import Derived.Test.YtofjbkoojimmhaaGreatHf
import Derived.Test.YtofjbkoojimmhaaGreatGd
import Derived.Test.YtofjbkoojimmhaaGreatQ
import Derived.Test.YtofjbkoojimmhaaGreatP
namespace Go.Proofs.YtofjbkoojimmhaaGreat
open Go.RowKit Go.Shelf
open Mq
set_option linter.unusedVariables false
set_option maxRecDepth 6000
set_option linter.unusedSimpArgs false
theorem Tryz.size80 : (Tryz.prog.info? 80).map (·.size) = some 2 := by kernel_rfl
theorem one80 (f g : Nat) (u v : Array Value) : (#[.func (.func f) #[] u, .func (.func g) #[] v] : Array Value).all (·.oneCell') = true := by kernel_rfl
theorem careOf_0 (w : World) : Calls Tryz.prog 54 #[.int .i64 0] w fun e w' => e = .returned (.agg #[.func (.func 92) #[] #[], .func (.func 93) #[] #[]]) ∧ Keeps (fun _ => False) w w' := by
 obtain ⟨W, hW⟩ : ∃ W, W = (w.alloc (.cells #[.int .i64 0] 3)).alloc (.cells #[.nilFunc, .nilFunc] 80) := ⟨_, rfl⟩
 obtain ⟨D, hD⟩ : ∃ D, D = w.heap.size := ⟨_, rfl⟩
 have hB : Blk W (D + 1) [.nilFunc, .nilFunc] 80 := by
  have := Blk.new (w.alloc (.cells #[.int .i64 0] 3)) #[.nilFunc, .nilFunc] 80
  rw [hW, hD]
  simpa using this
 have hA : Blk W D [.int .i64 0] 3 := by rw [hW, hD]; exact (Blk.new w _ 3).alloc _
 have HB : Hid (Blk W (D + 1) [.nilFunc, .nilFunc] 80 ∧ Blk (W.setRow (D + 1) #[.func (.func 92) #[] #[], .func (.func 93) #[] #[]]) (D + 1) #[.func (.func 92) #[] #[], .func (.func 93) #[] #[]].toList 80 ∧ Keeps (fun _ => False) w (W.setRow (D + 1) #[.func (.func 92) #[] #[], .func (.func 93) #[] #[]]) ∧ Blk (W.setRow (D + 1) #[.func (.func 92) #[] #[], .func (.func 93) #[] #[]]) D [.int .i64 0] 3) :=
  ⟨hB, hB.setRow _, by rw [hW]; exact (((Keeps.refl _ w).alloc _).alloc _).setRow _ _ fun h => by omega, hA.setRow_ne (by omega) _⟩
 have c0 := hA.cell (i := 0) rfl
 go_enter Tryz.func54, Tryz.ntmps54
 go_upto_region 1 with fail
 rw [← hW, ← hD]
 clear hW hD hA hB
 go_wp2_with (refine wpList_store_row rfl 80 (.tmp 2) (.tmp 5) rfl (D + 1) #[.func (.func 92) #[] #[], .func (.func 93) #[] #[]] rfl rfl 80 #[.nilFunc, .nilFunc] HB.out.1 Tryz.size80 rfl (one80 _ _ _ _) ?_; refine Hid.out ?_)
 unfold Hid
 go_wp2
 refine bodyPost_ret (results_cell_row rfl _ _ (D + 1) 80 #[.func (.func 92) #[] #[], .func (.func 93) #[] #[]] (0, 0) _ rfl HB.out.2.1 Tryz.underlying80 rfl Tryz.size80) rfl ?_
 exact ⟨rfl, HB.out.2.2.1⟩
theorem careOf_1 (act : Int) (ha : ¬ act = 0) (w : World) : Calls Tryz.prog 54 #[.int .i64 act] w fun e w' => e = .returned (.agg #[.func (.func 94) #[] #[], .func (.func 95) #[] #[.pointer (some ⟨w.heap.size, 0, none⟩)]]) ∧ Keeps (fun _ => False) w w' ∧ Blk w' w.heap.size [.int .i64 act] 3 := by
 obtain ⟨W, hW⟩ : ∃ W, W = (w.alloc (.cells #[.int .i64 act] 3)).alloc (.cells #[.nilFunc, .nilFunc] 80) := ⟨_, rfl⟩
 obtain ⟨D, hD⟩ : ∃ D, D = w.heap.size := ⟨_, rfl⟩
 have hB : Blk W (D + 1) [.nilFunc, .nilFunc] 80 := by
  have := Blk.new (w.alloc (.cells #[.int .i64 act] 3)) #[.nilFunc, .nilFunc] 80
  rw [hW, hD]
  simpa using this
 have hA : Blk W D [.int .i64 act] 3 := by rw [hW, hD]; exact (Blk.new w _ 3).alloc _
 have HB : Hid (Blk W (D + 1) [.nilFunc, .nilFunc] 80 ∧ Blk (W.setRow (D + 1) #[.func (.func 94) #[] #[], .func (.func 95) #[] #[.pointer (some ⟨D, 0, none⟩)]]) (D + 1) #[.func (.func 94) #[] #[], .func (.func 95) #[] #[.pointer (some ⟨D, 0, none⟩)]].toList 80 ∧ Keeps (fun _ => False) w (W.setRow (D + 1) #[.func (.func 94) #[] #[], .func (.func 95) #[] #[.pointer (some ⟨D, 0, none⟩)]]) ∧ Blk (W.setRow (D + 1) #[.func (.func 94) #[] #[], .func (.func 95) #[] #[.pointer (some ⟨D, 0, none⟩)]]) D [.int .i64 act] 3) :=
  ⟨hB, hB.setRow _, by rw [hW]; exact (((Keeps.refl _ w).alloc _).alloc _).setRow _ _ fun h => by omega, hA.setRow_ne (by omega) _⟩
 have c0 := hA.cell (i := 0) rfl
 have g : (act == 0) = false := by simpa using ha
 have HD : Hid (w.heap.size = D) := hD.symm
 clear ha
 go_enter Tryz.func54, Tryz.ntmps54
 go_upto_region 1 with fail
 rw [← hW, ← hD]
 clear hW hD hA hB
 go_wp2_with (refine wpList_store_row rfl 80 (.tmp 2) (.tmp 7) rfl (D + 1) #[.func (.func 94) #[] #[], .func (.func 95) #[] #[.pointer (some ⟨D, 0, none⟩)]] rfl rfl 80 #[.nilFunc, .nilFunc] HB.out.1 Tryz.size80 rfl (one80 _ _ _ _) ?_; refine Hid.out ?_)
 unfold Hid
 go_wp2
 refine bodyPost_ret (results_cell_row rfl _ _ (D + 1) 80 #[.func (.func 94) #[] #[], .func (.func 95) #[] #[.pointer (some ⟨D, 0, none⟩)]] (0, 0) _ rfl HB.out.2.1 Tryz.underlying80 rfl Tryz.size80) rfl ?_
 exact ⟨by rw [HD.out], HB.out.2.2.1, by rw [HD.out]; exact HB.out.2.2.2⟩
theorem cut_at {α : Type} (xs : List α) (p : Nat) (ys : List α) (h : p + ys.length ≤ xs.length) (i : Nat) : (xs.take p ++ ys ++ xs.drop (p + ys.length))[i]? = if i < p then xs[i]? else if i < p + ys.length then ys[i - p]? else xs[i]? := by
 have hp : (xs.take p).length = p := by simp; omega
 by_cases h1 : i < p
 ·
  rw [if_pos h1, List.append_assoc, List.getElem?_append_left (by omega), List.getElem?_take, if_pos h1]
 ·
  rw [if_neg h1]
  by_cases h2 : i < p + ys.length
  ·
   rw [if_pos h2, List.getElem?_append_left (by simp; omega), List.getElem?_append_right (by omega), hp]
  ·
   rw [if_neg h2, List.getElem?_append_right (by simp; omega), List.getElem?_drop]
   congr 1
   simp
   omega
theorem cut_win {α : Type} (xs : List α) (ys : List α) (j i : Nat) (hy : ys.length = 7) (h : j * 7 + 7 ≤ xs.length) : ((xs.take (j * 7) ++ ys ++ xs.drop (j * 7 + ys.length)).drop (i * 7)).take 7 = if i = j then ys else (xs.drop (i * 7)).take 7 := by
 refine List.ext_getElem? fun k => ?_
 rw [List.getElem?_take, List.getElem?_drop]
 by_cases hk : k < 7
 ·
  rw [if_pos hk, cut_at xs (j * 7) ys (by omega)]
  by_cases e : i = j
  ·
   subst e
   rw [if_pos rfl, if_neg (by omega), if_pos (by omega)]
   congr 1
   omega
  ·
   rw [if_neg e, List.getElem?_take, if_pos hk, List.getElem?_drop]
   by_cases h1 : i * 7 + k < j * 7
   ·
    rw [if_pos h1]
   ·
    rw [if_neg h1, if_neg (by omega)]
 ·
  rw [if_neg hk]
  split
  ·
   exact (List.getElem?_eq_none (by omega)).symm
  ·
   rw [List.getElem?_take, if_neg hk]
structure IsW (w : World) (lo E : Nat) (sv st : Int) (P : Par) (d : Wrd) (a : Nat) : Prop where
 sv : (d.sv : Int) = sv
 st : (d.st : Int) = st
 en : (d.en.toNat : Int) = P.entry
 rs : d.rs = P.restarts
 ou : d.ou = P.outputs
 care : (P.action = 0 ∧ d.fh = .func (.func 92) #[] #[] ∧ d.fa = .func (.func 93) #[] #[]) ∨ (¬ P.action = 0 ∧ d.fh = .func (.func 94) #[] #[] ∧ d.fa = .func (.func 95) #[] #[.pointer (some ⟨a, 0, none⟩)] ∧ Blk w a [.int .i64 P.action] 3 ∧ lo ≤ a ∧ a ≠ E)
theorem IsW.kept {S : Nat → Prop} {w w' : World} {lo E : Nat} {sv st : Int} {P : Par} {d : Wrd} {a : Nat} (h : IsW w lo E sv st P d a) (hK : Keeps S w w') (hS : ∀ k, S k → k = E) : IsW w' lo E sv st P d a :=
 ⟨h.sv, h.st, h.en, h.rs, h.ou, h.care.imp id fun ⟨a, b, c, d, e, f⟩ => ⟨a, b, c, d.kept hK fun h => f (hS _ h), e, f⟩⟩
structure WRw (w : World) (lo E : Nat) (x : Cfg) (F G : Nat → Int) (n : Nat) (l : List Value) : Prop where
 len : l.length = x.ps.length * 7
 each : ∀ i P, i < n → x.ps[i]? = some P → ∃ d a, (l.drop (i * 7)).take 7 = d.vs ∧ IsW w lo E (F i) (G i) P d a
theorem WRw.kept {S : Nat → Prop} {w w' : World} {lo E : Nat} {x : Cfg} {F G : Nat → Int} {n : Nat} {l : List Value} (h : WRw w lo E x F G n l) (hK : Keeps S w w') (hS : ∀ k, S k → k = E) : WRw w' lo E x F G n l :=
 ⟨h.len, fun i P hi hP => (h.each i P hi hP).elim fun d ⟨a, h1, h2⟩ => ⟨d, a, h1, h2.kept hK hS⟩⟩
theorem WRw.next {w : World} {lo E : Nat} {x : Cfg} {F G : Nat → Int} {n : Nat} {l : List Value} (h : WRw w lo E x F G n l) {P : Par} (hP : x.ps[n]? = some P) (d : Wrd) (a : Nat) (hd : IsW w lo E (F n) (G n) P d a) : WRw w lo E x F G (n + 1) (l.take (n * 7) ++ d.vs ++ l.drop (n * 7 + d.vs.length)) := by
 have hn := (List.getElem?_eq_some_iff.1 hP).1
 have hl := h.len
 have hv : d.vs.length = 7 := rfl
 refine ⟨by simp [hl, hv]; omega, fun i Q hi hQ => ?_⟩
 rw [cut_win l d.vs n i rfl (by omega)]
 by_cases e : i = n
 ·
  subst e
  rw [if_pos rfl]
  rw [hP] at hQ
  cases hQ
  exact ⟨d, a, rfl, hd⟩
 ·
  rw [if_neg e]
  exact h.each i Q (by omega) hQ
theorem Tryz.info82 : (Tryz.prog.info? 82).map (fun i => (i.zero, i.size, i.bytes)) = some (some (.agg #[.int .i64 0, .int .i64 0, .int .u32 0, .int .u32 0, .int .u32 0, .nilFunc, .nilFunc]), 7, 48) := by kernel_rfl
def zWar (n : Nat) : List Value := (madeCells (Value.agg #[.int .i64 0, .int .i64 0, .int .u32 0, .int .u32 0, .int .u32 0, .nilFunc, .nilFunc]).cells (n * 7)).toList
theorem zWar_len (n : Nat) : (zWar n).length = n * 7 := by simp [zWar, madeCells]
theorem run_make_wards (w : World) (n : Nat) (hn : n ≤ 1000) :
  (Instr.makeSlice 117 (.int .i64 n) (.int .i64 n)).run Tryz.prog w = .ok (.slice (some ⟨w.heap.size, 0, none⟩) n n) (w.alloc (.cells (zWar n).toArray 82)) := by
 obtain ⟨i0, hi, hz0, hz1, hz2⟩ := info_parts Tryz.info82
 have h := run_make (P := Tryz.prog) w 117 82 i0 _ Tryz.underlying117 hi hz0 .i64 .i64 n n (by omega) (by omega) (by rw [hz2]; omega) (by omega)
 rw [Int.toNat_natCast, hz1] at h
 rw [h]
 simp [zWar]
def WarP (x : Cfg) (F G : Nat → Int) (w : World) (e : Ending) (w' : World) : Prop :=
 Keeps (fun _ => False) w w' ∧ ∃ E l, e = .returned (.slice (some ⟨E, 0, none⟩) x.ps.length x.ps.length) ∧ w.heap.size ≤ E ∧ Blk w' E l 82 ∧ WRw w' w.heap.size E x F G x.ps.length l
structure WaI (w : World) (x : Cfg) (C N A b1 : Nat) (lv : List Value) (F G : Nat → Int) (E n : Nat) (wr : World) : Prop where
 one : One w x C N wr
 lay : Blk wr A lv 58
 st : ∀ i, i < x.ps.length → wr.cell? ⟨b1, i * 5 + 1, none⟩ = some (.int .i64 (F i)) ∧ wr.cell? ⟨b1, i * 5 + 2, none⟩ = some (.int .i64 (G i))
 lo : w.heap.size ≤ E ∧ E ≠ C ∧ E ≠ A ∧ b1 < w.heap.size ∧ E < wr.heap.size
 rows : ∃ l, Blk wr E l 82 ∧ WRw wr w.heap.size E x F G n l
theorem WaI.kept {w : World} {x : Cfg} {C N A b1 : Nat} {lv : List Value} {F G : Nat → Int} {E n : Nat} {wr w' : World} (h : WaI w x C N A b1 lv F G E n wr) (hK : Keeps (fun _ => False) wr w') : WaI w x C N A b1 lv F G E n w' :=
 ⟨h.one.kept hK, h.lay.kept hK fun h => h, fun i hi => by
  have hc : ∀ o, w'.cell? ⟨b1, o, none⟩ = wr.cell? ⟨b1, o, none⟩ := fun o => World.cell?_of_block (hK.block b1 (Nat.lt_of_lt_of_le h.lo.2.2.2.1 h.one.keeps.size) fun h => h)
  rw [hc, hc]
  exact h.st i hi, ⟨h.lo.1, h.lo.2.1, h.lo.2.2.1, h.lo.2.2.2.1, Nat.lt_of_lt_of_le h.lo.2.2.2.2 hK.size⟩, h.rows.elim fun l hl => ⟨l, hl.1.kept hK fun h => h, hl.2.kept hK fun _ h => h.elim⟩⟩
theorem WaI.put {w : World} {x : Cfg} {C N A b1 : Nat} {lv : List Value} {F G : Nat → Int} {E n : Nat} {wr : World} (h : WaI w x C N A b1 lv F G E n wr) {l : List Value} (hl : Blk wr E l 82) (hr : WRw wr w.heap.size E x F G n l) {P : Par} (hP : x.ps[n]? = some P) (d : Wrd) (a : Nat) (hd : IsW wr w.heap.size E (F n) (G n) P d a) (cs : List Value) (hc : cs = d.vs) :
  WaI w x C N A b1 lv F G E (n + 1) (wr.setRow E (l.take (n * 7) ++ cs ++ l.drop (n * 7 + cs.length)).toArray) := by
 subst hc
 have hK : Keeps (fun b => b = E) wr (wr.setRow E (l.take (n * 7) ++ d.vs ++ l.drop (n * 7 + d.vs.length)).toArray) := (Keeps.refl (fun b => b = E) _).setRow _ _ fun _ => rfl
 have hlo := h.lo
 refine ⟨h.one.kept' hK (fun e => hlo.2.1 e.symm) (fun k e => by rw [e]; exact Nat.le_trans h.one.n hlo.1) (fun k e => by rw [e]; exact hlo.1), h.lay.kept hK (fun e => hlo.2.2.1 e.symm), fun i hi => ?_, ⟨hlo.1, hlo.2.1, hlo.2.2.1, hlo.2.2.2.1, Nat.lt_of_lt_of_le hlo.2.2.2.2 hK.size⟩, _, hl.setRow _, (hr.kept hK fun _ h => h).next hP d a (hd.kept hK fun _ h => h)⟩
 have hb : ¬ b1 = E := fun e => by have := hlo.1; have := hlo.2.2.2.1; omega
 have hc : ∀ o, (wr.setRow E (l.take (n * 7) ++ d.vs ++ l.drop (n * 7 + d.vs.length)).toArray).cell? ⟨b1, o, none⟩ = wr.cell? ⟨b1, o, none⟩ := fun o => World.cell?_of_block (hK.block b1 (Nat.lt_of_lt_of_le hlo.2.2.2.1 h.one.keeps.size) hb)
 rw [hc, hc]
 exact h.st i hi
theorem wone (f g : Nat) (u v : Array Value) (a b c d e : Int) : ∀ y ∈ [Value.int .i64 a, .int .i64 b, .int .u32 c, .int .u32 d, .int .u32 e, .func (.func f) #[] u, .func (.func g) #[] v], y.oneCell' = true := by
 intro y hy
 simp only [List.mem_cons, List.not_mem_nil, or_false] at hy
 rcases hy with rfl | rfl | rfl | rfl | rfl | rfl | rfl <;> rfl
set_option maxHeartbeats 4000000 in
theorem wards_any (x : Cfg) (b1 : Nat) (va vb vc : Int) (a2 : Option Addr) (n2 c2 : Nat) (F G : Nat → Int) (w : World) (N : Nat) (hi : x.In w N) (hN : N ≤ w.heap.size) (hp : x.ps.length ≤ 8) (hp1 : 1 ≤ x.ps.length)
  (hs : ∀ i, i < x.ps.length → (w.cell? ⟨b1, i * 5 + 1, none⟩ = some (.int .i64 (F i)) ∧ w.cell? ⟨b1, i * 5 + 2, none⟩ = some (.int .i64 (G i))) ∧ 0 ≤ F i ∧ 0 ≤ G i) (ho : ∀ P ∈ x.ps, (0 ≤ P.outputs ∧ P.outputs ≤ 1000000) ∧ (0 ≤ P.restarts ∧ P.restarts ≤ 1000000) ∧ 0 ≤ P.entry ∧ P.entry ≤ 1000000) :
  Calls Tryz.prog 35 #[x.v, .agg #[.int .i64 va, .slice (some ⟨b1, 0, none⟩) x.ps.length x.ps.length, .slice a2 n2 c2, .int .i64 vc]] w (WarP x F G w) := by
 have hb1 : b1 < w.heap.size := World.block_lt_of_cell? w ⟨b1, 0 * 5 + 1, none⟩ (hs 0 (by omega)).1.1
 obtain ⟨W0, hW0⟩ : ∃ W, W = (x.laid w).alloc (.cells #[.int .i64 va, .slice (some ⟨b1, 0, none⟩) x.ps.length x.ps.length, .slice a2 n2 c2, .int .i64 vc] 58) := ⟨_, rfl⟩
 obtain ⟨C, hC⟩ : ∃ C, C = w.heap.size := ⟨_, rfl⟩
 obtain ⟨L, hL⟩ : ∃ L, x.ps.length = L := ⟨_, rfl⟩
 obtain ⟨W, hW⟩ : ∃ W, W = W0.alloc (.cells (zWar L).toArray 82) := ⟨_, rfl⟩
 have hz0 : W0.heap.size = C + 2 := by rw [hW0, hC]; simp [Cfg.laid]
 have hmk := run_make_wards W0 L (by omega)
 rw [hz0, ← hW] at hmk
 have HI : Hid (WaI w x C N (C + 1) b1 [.int .i64 va, .slice (some ⟨b1, 0, none⟩) L L, .slice a2 n2 c2, .int .i64 vc] F G (C + 2) 0 W) := by
  have hK : Keeps (fun _ => False) w W := by rw [hW, hW0]; exact (((Keeps.refl _ _).alloc _).alloc _).alloc _
  refine ⟨?_, ?_, fun i hi => ?_, ⟨by omega, by omega, by omega, hb1, by rw [hW]; simp; omega⟩, zWar L, ?_, ⟨by rw [zWar_len, hL], fun i P h => absurd h (by omega)⟩⟩
  ·
   rw [hW, hW0, hC]; exact ((One.mk' hi hN).kept ((Keeps.refl _ _).alloc _)).kept ((Keeps.refl _ _).alloc _)
  ·
   rw [hW]
   have := Blk.new (x.laid w) #[.int .i64 va, .slice (some ⟨b1, 0, none⟩) x.ps.length x.ps.length, .slice a2 n2 c2, .int .i64 vc] 58
   rw [← hW0, hL] at this
   have e : (x.laid w).heap.size = C + 1 := by rw [hC]; simp [Cfg.laid]
   rw [e] at this
   exact this.alloc _
  ·
   have hc : ∀ o, W.cell? ⟨b1, o, none⟩ = w.cell? ⟨b1, o, none⟩ := fun o => World.cell?_of_block (hK.block b1 hb1 fun h => h)
   rw [hc, hc]
   exact (hs i hi).1
  ·
   rw [hW, ← hz0]; exact Blk.new W0 (zWar L).toArray 82
 have HS : Hid (x.ps.length = L ∧ L ≤ 8 ∧ (∀ i, i < x.ps.length → 0 ≤ F i ∧ 0 ≤ G i) ∧ (∀ P ∈ x.ps, (0 ≤ P.outputs ∧ P.outputs ≤ 1000000) ∧ (0 ≤ P.restarts ∧ P.restarts ≤ 1000000) ∧ 0 ≤ P.entry ∧ P.entry ≤ 1000000)) := ⟨hL, by omega, fun i hi => (hs i hi).2, ho⟩
 have hk0 : W0.cell? ⟨C, 5, none⟩ = some (.slice x.pa L x.pc) := by
  have h1 : One w x C N W0 := by rw [hW0, hC]; exact (One.mk' hi hN).kept ((Keeps.refl _ _).alloc _)
  have := h1.cells.2.2.2.2.2.1
  rw [hL] at this
  exact this
 obtain ⟨pa, hpa⟩ : ∃ pa, pa = x.pa := ⟨_, rfl⟩
 rw [← hpa] at hk0
 have hpc : L ≤ x.pc ∧ x.pc ≤ maxLen := by have := hi.plen; rw [hL] at this; exact this
 rw [hL]
 unfold Cfg.laid at hW0
 simp only [hL] at hW0
 have HC0 : Hid (w.heap.size = C) := hC.symm
 clear hi hN hp hp1 hs ho hb1 hz0
 go_enter Tryz.func35, Tryz.ntmps35
 go_upto_region 1 with fail
 rw [← hW0, ← hC]
 clear hW0 hC hW hL
 have hk1 : W.cell? ⟨C, 5, none⟩ = some (.slice pa L x.pc) := by
  have := HI.out.one.cells.2.2.2.2.2.1
  rw [HS.out.1, ← hpa] at this
  exact this
 have HP : Hid (pa = x.pa) := hpa
 have hpc1 : (L : Int) ≤ x.pc := by omega
 have hpc2 : (x.pc : Int) ≤ 9223372036854775807 := by have := hpc.2; unfold maxLen at this; omega
 clear hpa hpc
 go_wp2_with fail
 clear hk0 hk1 hmk
 go_loopw [15] (fun i wr => ∃ j : Nat, j ≤ L ∧ i = .int .i64 j ∧ WaI w x C N (C + 1) b1 [.int .i64 va, .slice (some ⟨b1, 0, none⟩) L L, .slice a2 n2 c2, .int .i64 vc] F G (C + 2) j wr) (fun i _ => L - (intOf i).toNat)
 case atStart => exact ⟨0, by omega, rfl, HI.out⟩
 case round =>
  obtain ⟨j, hj, rfl, hI⟩ := hrel
  clear HI
  by_cases hlt : j < L
  ·
   obtain ⟨P, hP⟩ : ∃ P, x.ps[j]? = some P := ⟨_, List.getElem?_eq_getElem (by have := HS.out.1; omega)⟩
   obtain ⟨g1, o1, hpa, hg1⟩ := hI.one.cin.par hP
   obtain ⟨W1, hW1⟩ : ∃ W1, W1 = wr.alloc (.cells P.vs.toArray 35) := ⟨_, rfl⟩
   have hI1 : WaI w x C N (C + 1) b1 [.int .i64 va, .slice (some ⟨b1, 0, none⟩) L L, .slice a2 n2 c2, .int .i64 vc] F G (C + 2) j W1 := by rw [hW1]; exact hI.kept ((Keeps.refl _ _).alloc _)
   obtain ⟨B, hB⟩ : ∃ B, B = wr.heap.size := ⟨_, rfl⟩
   have HB : Hid (Blk W1 B P.vs 35) := by rw [hW1, hB]; exact Blk.new _ _ _
   have HK : Hid (WaI w x C N (C + 1) b1 [.int .i64 va, .slice (some ⟨b1, 0, none⟩) L L, .slice a2 n2 c2, .int .i64 vc] F G (C + 2) j W1 ∧ x.ps[j]? = some P) := ⟨hI1, hP⟩
   have HBN : Hid (C + 2 < B) := by rw [hB]; exact hI.lo.2.2.2.2
   rw [← HP.out] at hpa
   subst hpa
   obtain ⟨nm, en, ac, re, ip, op, ra, rc, rs, pp, pq, ps⟩ := P
   have y0 := hg1 0 _ rfl
   rw [Nat.add_zero] at y0
   have y1 := hg1 1 _ rfl
   have y2 := hg1 2 _ rfl
   have y3 := hg1 3 _ rfl
   have y4 := hg1 4 _ rfl
   have y5 := hg1 5 _ rfl
   have y6 := hg1 6 _ rfl
   have y7 := hg1 7 _ rfl
   dsimp only at y0 y1 y2 y3 y4 y5 y6 y7
   simp only [Par.vs] at hW1
   clear hI hI1 hP hg1
   go_upto_region 5 with fail
   rw [← hW1, ← hB]
   clear hW1 hB y0 y1 y2 y3 y4 y5 y6 y7
   have b1' := HB.out.cell (i := 1) rfl
   have b2 := HB.out.cell (i := 2) rfl
   have b3 := HB.out.cell (i := 3) rfl
   have b5 := HB.out.cell (i := 5) rfl
   have l1 := HK.out.1.lay.cell (i := 1) rfl
   have s1 := (HK.out.1.st j (by have := HS.out.1; omega)).1
   have s2 := (HK.out.1.st j (by have := HS.out.1; omega)).2
   have hO := HS.out.2.2.2 _ (List.mem_of_getElem? HK.out.2)
   dsimp only at b1' b2 b3 b5 hO
   have hu1 : op % 4294967296 = op := by omega
   have hu2 : re % 4294967296 = re := by omega
   have hu3 : en % 4294967296 = en := by omega
   have HO : Hid (0 ≤ en ∧ en ≤ 1000000) := hO.2.2
   clear hO
   have hw1 : IntKind.u32.wrap op = op := by rw [IntKind.wrap_u32]; omega
   have hw2 : IntKind.u32.wrap re = re := by rw [IntKind.wrap_u32]; omega
   have hw3 : IntKind.u32.wrap en = en := by rw [IntKind.wrap_u32]; omega
   have hj1 : (j : Int) < L := by omega
   have HS0 : Hid (∀ w', Keeps (fun k => k = C + 2) W1 w' → w'.cell? ⟨C + 1, 1, none⟩ = some (.slice (some ⟨b1, 0, none⟩) L L) ∧ w'.cell? ⟨b1, j * 5 + 1, none⟩ = some (.int .i64 (F j)) ∧ w'.cell? ⟨b1, j * 5 + 2, none⟩ = some (.int .i64 (G j)) ∧ w'.cell? ⟨B, 1, none⟩ = some (.int .i64 en) ∧ w'.cell? ⟨B, 2, none⟩ = some (.int .i64 ac) ∧ w'.cell? ⟨B, 3, none⟩ = some (.int .i64 re) ∧ w'.cell? ⟨B, 5, none⟩ = some (.int .i64 op)) := by
    intro w' hK
    have hlo := HK.out.1.lo
    have k1 := HK.out.1.lay.kept hK (fun e => hlo.2.2.1 e.symm)
    have k2 := HB.out.kept hK (fun e => by have := HBN.out; omega)
    have hc : ∀ o, w'.cell? ⟨b1, o, none⟩ = W1.cell? ⟨b1, o, none⟩ := fun o => World.cell?_of_block (hK.block b1 (Nat.lt_of_lt_of_le hlo.2.2.2.1 HK.out.1.one.keeps.size) (fun e => by have := hlo.1; have := hlo.2.2.2.1; omega))
    exact ⟨k1.cell rfl, by rw [hc]; exact s1, by rw [hc]; exact s2, k2.cell rfl, k2.cell rfl, k2.cell rfl, k2.cell rfl⟩
   clear b1' b2 b3 b5 l1 s1 s2
   refine wp_region_held_drew (S := fun w' => w'.cell? ⟨C + 1, 1, none⟩ = some (.slice (some ⟨b1, 0, none⟩) L L) ∧ w'.cell? ⟨b1, j * 5 + 1, none⟩ = some (.int .i64 (F j)) ∧ w'.cell? ⟨b1, j * 5 + 2, none⟩ = some (.int .i64 (G j)) ∧ w'.cell? ⟨B, 1, none⟩ = some (.int .i64 en) ∧ w'.cell? ⟨B, 2, none⟩ = some (.int .i64 ac) ∧ w'.cell? ⟨B, 3, none⟩ = some (.int .i64 re) ∧ w'.cell? ⟨B, 5, none⟩ = some (.int .i64 op)) Tryz.mixh (HS0.out _ (Keeps.refl _ W1).drew) (fun hHeld => ?_)
   simp only [t1, t2, List.length_nil, Nat.reduceAdd, t4, Array.replicate_zero, t6, List.nil_append, t8]
   refine hk 0 (.slice (some ⟨C + 2, 0, none⟩) L L) hHeld ?_
   refine hk 1 (.int .i64 (j : Int)) hHeld ?_
   refine hk 2 (.pointer (some ⟨C + 1, 1, none⟩)) hHeld ?_
   refine hk 3 (.slice (some ⟨b1, 0, none⟩) L L) hHeld ?_
   refine hk 4 (.int .i64 (j : Int)) hHeld ?_
   refine hk 5 (.pointer (some ⟨b1, j * 5, none⟩)) hHeld ?_
   refine hk 6 (.pointer (some ⟨b1, j * 5 + 1, none⟩)) hHeld ?_
   refine hk 7 (.int .i64 (F j)) hHeld ?_
   refine hk 8 (.pointer (some ⟨C + 1, 1, none⟩)) hHeld ?_
   refine hk 9 (.slice (some ⟨b1, 0, none⟩) L L) hHeld ?_
   refine hk 10 (.int .i64 (j : Int)) hHeld ?_
   refine hk 11 (.pointer (some ⟨b1, j * 5, none⟩)) hHeld ?_
   refine hk 12 (.pointer (some ⟨b1, j * 5 + 2, none⟩)) hHeld ?_
   refine hk 13 (.int .i64 (G j)) hHeld ?_
   refine hk 14 (.pointer (some ⟨B, 1, none⟩)) hHeld ?_
   refine hk 15 (.int .i64 en) hHeld ?_
   refine hk 16 (.int .u32 en) hHeld ?_
   refine hk 17 (.pointer (some ⟨B, 3, none⟩)) hHeld ?_
   refine hk 18 (.int .i64 re) hHeld ?_
   refine hk 19 (.int .u32 re) hHeld ?_
   refine hk 20 (.pointer (some ⟨B, 5, none⟩)) hHeld ?_
   refine hk 21 (.int .i64 op) hHeld ?_
   refine hk 22 (.int .u32 op) hHeld ?_
   refine hk 23 (.pointer (some ⟨B, 2, none⟩)) hHeld ?_
   refine hk 24 (.int .i64 ac) hHeld ?_
   simp only [Act.put, s1, s2, s3]
   refine rd 25 fun Kq hK => ?_
   go_simp
   have hK1 : WaI w x C N (C + 1) b1 [.int .i64 va, .slice (some ⟨b1, 0, none⟩) L L, .slice a2 n2 c2, .int .i64 vc] F G (C + 2) j W1.drew := HK.out.1.kept (Keeps.refl _ W1).drew
   have HK1 : Hid _ := hK1
   clear hK1 hHeld
   by_cases ha : ac = 0
   ·
    subst ha
    refine (careOf_0 (W1.drew)).mono ?_
    rintro e w2 ⟨rfl, hK2⟩
    have hI2 := HK1.out.kept hK2
    obtain ⟨l, hl, hE⟩ := hI2.rows
    have hll : j * 7 + 7 ≤ l.length := by rw [hE.len]; have := HS.out.1; omega
    have hFG := HS.out.2.2.1 j (by have := HS.out.1; omega)
    have hen : ((UInt32.ofNat en.toNat).toNat : Int) = en := by have := HO.out; rw [UInt32.toNat_ofNat']; omega
    obtain ⟨W9, hW9⟩ : ∃ W9, W9 = w2.setRow (C + 2) (l.take (j * 7) ++ [Value.int .i64 (F j), .int .i64 (G j), .int .u32 en, .int .u32 re, .int .u32 op, .func (.func 92) #[] #[], .func (.func 93) #[] #[]] ++ l.drop (j * 7 + [Value.int .i64 (F j), .int .i64 (G j), .int .u32 en, .int .u32 re, .int .u32 op, .func (.func 92) #[] #[], .func (.func 93) #[] #[]].length)).toArray := ⟨_, rfl⟩
    have HJ : Hid (WaI w x C N (C + 1) b1 [.int .i64 va, .slice (some ⟨b1, 0, none⟩) L L, .slice a2 n2 c2, .int .i64 vc] F G (C + 2) (j + 1) W9) := by
     rw [hW9]
     exact hI2.put hl hE HK.out.2 ⟨(F j).toNat, (G j).toNat, UInt32.ofNat en.toNat, re, op, .func (.func 92) #[] #[], .func (.func 93) #[] #[]⟩ 0 ⟨Int.toNat_of_nonneg hFG.1, Int.toNat_of_nonneg hFG.2, hen, rfl, rfl, .inl ⟨rfl, rfl, rfl⟩⟩ _ (by simp only [Wrd.vs]; rw [Int.toNat_of_nonneg hFG.1, Int.toNat_of_nonneg hFG.2, hen])
    have HL : Hid (Blk w2 (C + 2) l 82 ∧ j * 7 + 7 ≤ l.length ∧ Keeps (fun _ => False) W1 w2 ∧ Keeps (fun k => k = C + 2) W1 W9) := ⟨hl, hll, (Keeps.refl _ W1).drew.trans hK2 fun _ _ h => h, by rw [hW9]; exact (((Keeps.refl _ W1).drew.trans hK2 fun _ _ h => h.elim).mono fun _ _ h => h).setRow _ _ fun _ => rfl⟩
    clear hK2 hI2 hl hE hll hFG hen
    refine hK _ _ (HS0.out _ (HL.out.2.2.1.mono fun _ _ h => h.elim)) (fun hHeld => ?_)
    simp only [Act.put, s1, s2, s3]
    refine hk 26 (.agg #[.int .i64 (F j), .int .i64 (G j), .int .u32 en, .int .u32 re, .int .u32 op, .func (.func 92) #[] #[], .func (.func 93) #[] #[]]) hHeld ?_
    refine hk 27 (.pointer (some ⟨C + 2, j * 7, none⟩)) hHeld ?_
    simp only [Act.put, s1, s2, s3]
    refine rd 28 fun Kq hK => ?_
    refine wp_store_mid 82 (.tmp 47) (.tmp 46) rfl (C + 2) (j * 7) [Value.int .i64 (F j), .int .i64 (G j), .int .u32 en, .int .u32 re, .int .u32 op, .func (.func 92) #[] #[], .func (.func 93) #[] #[]] (by rfl) (by rfl) 82 l HL.out.1 Tryz.size82 HL.out.2.1 (wone _ _ _ _ _ _ _ _ _) ?_
    rw [← hW9]
    clear hW9
    refine hK _ _ (HS0.out _ HL.out.2.2.2) (fun hHeld => ?_)
    simp only [Act.put, s1, s2, s3]
    refine wpAnyH_done (by kernel_rfl) ?_ _
    clear hHeld hK
    go_wp2
    exact ⟨⟨j + 1, by omega, by go_num, HJ.out⟩, by simp [intOf]; omega⟩
   ·
    skip
    refine (careOf_1 ac ha (W1.drew)).mono ?_
    rintro e w2 ⟨rfl, hK2, hbl⟩
    have hI2 := HK1.out.kept hK2
    obtain ⟨l, hl, hE⟩ := hI2.rows
    have hll : j * 7 + 7 ≤ l.length := by rw [hE.len]; have := HS.out.1; omega
    have hFG := HS.out.2.2.1 j (by have := HS.out.1; omega)
    have hen : ((UInt32.ofNat en.toNat).toNat : Int) = en := by have := HO.out; rw [UInt32.toNat_ofNat']; omega
    obtain ⟨W9, hW9⟩ : ∃ W9, W9 = w2.setRow (C + 2) (l.take (j * 7) ++ [Value.int .i64 (F j), .int .i64 (G j), .int .u32 en, .int .u32 re, .int .u32 op, .func (.func 94) #[] #[], .func (.func 95) #[] #[.pointer (some ⟨(W1.drew).heap.size, 0, none⟩)]] ++ l.drop (j * 7 + [Value.int .i64 (F j), .int .i64 (G j), .int .u32 en, .int .u32 re, .int .u32 op, .func (.func 94) #[] #[], .func (.func 95) #[] #[.pointer (some ⟨(W1.drew).heap.size, 0, none⟩)]].length)).toArray := ⟨_, rfl⟩
    have HJ : Hid (WaI w x C N (C + 1) b1 [.int .i64 va, .slice (some ⟨b1, 0, none⟩) L L, .slice a2 n2 c2, .int .i64 vc] F G (C + 2) (j + 1) W9) := by
     rw [hW9]
     exact hI2.put hl hE HK.out.2 ⟨(F j).toNat, (G j).toNat, UInt32.ofNat en.toNat, re, op, .func (.func 94) #[] #[], .func (.func 95) #[] #[.pointer (some ⟨(W1.drew).heap.size, 0, none⟩)]⟩ (W1.drew).heap.size ⟨Int.toNat_of_nonneg hFG.1, Int.toNat_of_nonneg hFG.2, hen, rfl, rfl, .inr ⟨ha, rfl, rfl, hbl, Nat.le_trans HK1.out.one.keeps.size (Nat.le_refl _), fun e => by have := HK1.out.lo.2.2.2.2; omega⟩⟩ _ (by simp only [Wrd.vs]; rw [Int.toNat_of_nonneg hFG.1, Int.toNat_of_nonneg hFG.2, hen])
    have HL : Hid (Blk w2 (C + 2) l 82 ∧ j * 7 + 7 ≤ l.length ∧ Keeps (fun _ => False) W1 w2 ∧ Keeps (fun k => k = C + 2) W1 W9) := ⟨hl, hll, (Keeps.refl _ W1).drew.trans hK2 fun _ _ h => h, by rw [hW9]; exact (((Keeps.refl _ W1).drew.trans hK2 fun _ _ h => h.elim).mono fun _ _ h => h).setRow _ _ fun _ => rfl⟩
    clear hK2 hI2 hl hE hll hFG hen
    refine hK _ _ (HS0.out _ (HL.out.2.2.1.mono fun _ _ h => h.elim)) (fun hHeld => ?_)
    simp only [Act.put, s1, s2, s3]
    refine hk 26 (.agg #[.int .i64 (F j), .int .i64 (G j), .int .u32 en, .int .u32 re, .int .u32 op, .func (.func 94) #[] #[], .func (.func 95) #[] #[.pointer (some ⟨(W1.drew).heap.size, 0, none⟩)]]) hHeld ?_
    refine hk 27 (.pointer (some ⟨C + 2, j * 7, none⟩)) hHeld ?_
    simp only [Act.put, s1, s2, s3]
    refine rd 28 fun Kq hK => ?_
    refine wp_store_mid 82 (.tmp 47) (.tmp 46) rfl (C + 2) (j * 7) [Value.int .i64 (F j), .int .i64 (G j), .int .u32 en, .int .u32 re, .int .u32 op, .func (.func 94) #[] #[], .func (.func 95) #[] #[.pointer (some ⟨(W1.drew).heap.size, 0, none⟩)]] (by rfl) (by rfl) 82 l HL.out.1 Tryz.size82 HL.out.2.1 (wone _ _ _ _ _ _ _ _ _) ?_
    rw [← hW9]
    clear hW9
    refine hK _ _ (HS0.out _ HL.out.2.2.2) (fun hHeld => ?_)
    simp only [Act.put, s1, s2, s3]
    refine wpAnyH_done (by kernel_rfl) ?_ _
    clear hHeld hK
    go_wp2
    exact ⟨⟨j + 1, by omega, by go_num, HJ.out⟩, by simp [intOf]; omega⟩
  ·
   obtain rfl : j = L := by omega
   have HK : Hid (WaI w x C N (C + 1) b1 [.int .i64 va, .slice (some ⟨b1, 0, none⟩) j j, .slice a2 n2 c2, .int .i64 vc] F G (C + 2) j wr) := hI
   clear hI
   go_wp2
   go_ret
   obtain ⟨l, h1, h2⟩ := HK.out.rows
   exact ⟨HK.out.one.keeps, C + 2, l, by rw [HS.out.1]; rfl, HK.out.lo.1, h1, by rw [HS.out.1]; exact h2⟩
end Go.Proofs.YtofjbkoojimmhaaGreat
namespace Go.Proofs.YtofjbkoojimmhaaGreat
open Go.RowKit Go.Shelf
set_option linter.unusedVariables false
set_option maxRecDepth 6000
set_option linter.unusedSimpArgs false
def stA (x : Cfg) (i : Nat) : Int := 16 * x.kernel + 2 + 24 * i + 2 + 17
theorem Gd.fit {x : Cfg} (g : Gd x) : x.mayB = true ∧ 0 ≤ x.kernel ∧ x.kernel + x.room ≤ x.frames ∧ 1 ≤ x.room ∧ x.endW ≤ x.kernel + x.room := by
 have h := g.ker
 unfold Cfg.kerB Cfg.fitB at h
 simp only [Bool.and_eq_true, inR_iff, decide_eq_true_eq] at h
 obtain ⟨⟨h1, h2⟩, ⟨h3, h4⟩, h5, h6, h7⟩ := h
 exact ⟨h6, h1, by omega, h3, by omega⟩
theorem Gd.at {x : Cfg} (g : Gd x) {i : Nat} (hi : i < x.ps.length) : 0 ≤ stA x i ∧ stA x i + 5 ≤ 16 * x.frames := by
 obtain ⟨hm, h0, h1, h2, h3⟩ := g.fit
 have h4 := chAt_bd hm (chB x (16 * x.kernel)) x.hs.length
 have h5 : 0 ≤ fillN (chE x (16 * x.kernel)) ∧ (chE x (16 * x.kernel) + fillN (chE x (16 * x.kernel))) % 16 = 0 := by unfold fillN; split <;> omega
 have h6 : rtB x (16 * x.kernel) = chE x (16 * x.kernel) + fillN (chE x (16 * x.kernel)) := rfl
 have h7 : chE x (16 * x.kernel) = chAt x (chB x (16 * x.kernel)) x.hs.length := rfl
 have h8 : chB x (16 * x.kernel) = 16 * x.kernel + 2 + 24 * (x.ps.length : Int) := rfl
 have h9 := rtAt_bd x (rtB x (16 * x.kernel)) x.ps.length
 have h10 := h9.2.2 (by rw [h6]; exact h5.2)
 unfold Cfg.endW at h3
 unfold stA
 omega
def svA (x : Cfg) (i : Nat) : Int := 16 * x.kernel + 2 + 24 * i + 2
theorem svA_st (x : Cfg) (i : Nat) : svA x i + 17 = stA x i := rfl
theorem Gd.sv {x : Cfg} (g : Gd x) {i : Nat} : 0 ≤ svA x i := by have := g.fit.2.1; unfold svA; omega
theorem IsW.low {w : World} {lo lo' E : Nat} {sv st : Int} {P : Par} {d : Wrd} {a : Nat} (h : IsW w lo E sv st P d a) (hl : lo' ≤ lo) : IsW w lo' E sv st P d a :=
 ⟨h.sv, h.st, h.en, h.rs, h.ou, h.care.imp id fun ⟨a, b, c, d, e, f⟩ => ⟨a, b, c, d, Nat.le_trans hl e, f⟩⟩
theorem WRw.low {w : World} {lo lo' E : Nat} {x : Cfg} {F G : Nat → Int} {n : Nat} {l : List Value} (h : WRw w lo E x F G n l) (hl : lo' ≤ lo) : WRw w lo' E x F G n l :=
 ⟨h.len, fun i P hi hP => (h.each i P hi hP).elim fun d ⟨a, h1, h2⟩ => ⟨d, a, h1, h2.low hl⟩⟩
def NewP (x : Cfg) (w : World) (e : Ending) (w' : World) : Prop :=
 Keeps (fun _ => False) w w' ∧ ((¬ Gd x ∧ e = .returned (.tuple #[.pointer none, .int .i64 232])) ∨
  (Gd x ∧ ∃ d E l, e = .returned (.tuple #[.pointer (some ⟨d, 0, none⟩), .int .i64 0]) ∧ (w.heap.size ≤ d ∧ w.heap.size ≤ E) ∧ Blk w' d [.int .i64 x.frames, .slice (some ⟨E, 0, none⟩) x.ps.length x.ps.length] 120 ∧ Blk w' E l 82 ∧ WRw w' w.heap.size E x (svA x) (stA x) x.ps.length l))
theorem GP.num {x : Cfg} {p : Nat} {P : Par} (g : GP x p P) : (0 ≤ P.outputs ∧ P.outputs ≤ 1000000) ∧ (0 ≤ P.restarts ∧ P.restarts ≤ 1000000) ∧ 0 ≤ P.entry ∧ P.entry ≤ 1000000 := by
 have h1 := g.dev.2
 have h2 := g.act.2
 have h3 := g.beg
 rw [inR_iff] at h1 h2
 unfold Par.begB at h3
 simp only [Bool.and_eq_true, inR_iff] at h3
 omega
set_option maxHeartbeats 4000000 in
theorem new_any (x : Cfg) (w : World) (N : Nat) (hi : x.In w N) (hN : N ≤ w.heap.size) :
  Calls Tryz.prog 15 #[x.v] w (NewP x w) := by
 obtain ⟨W, hW⟩ : ∃ W, W = x.laid w := ⟨_, rfl⟩
 obtain ⟨C, hC⟩ : ∃ C, C = w.heap.size := ⟨_, rfl⟩
 have hO : One w x C N W := by rw [hW, hC]; exact One.mk' hi hN
 have HO : Hid (One w x C N W) := hO
 have HC : Hid (Calls Tryz.prog 33 #[x.v] W (ChkP x W)) := Check_any x W N hO.cin hO.nn
 obtain ⟨q0, q1, q2, q3, q4, q5, q6⟩ := HO.out.cells
 unfold Cfg.laid at hW
 clear hi hN hO
 go_enter Tryz.func15, Tryz.ntmps15
 go_upto_region 1 with fail
 rw [← hW, ← hC]
 clear hW hC
 go_wp2_with fail
 refine HC.out.mono ?_
 rintro e w1 ⟨rfl, hK1⟩
 obtain ⟨W1, hW1⟩ : ∃ W1, W1 = w1.alloc (.cells #[.int .i64 (chk x).a, .int .i64 (chk x).b] 114) := ⟨_, rfl⟩
 have hK2 : Keeps (fun _ => False) W W1 := by rw [hW1]; exact hK1.alloc _
 have HO1 : Hid (One w x C N W1) := HO.out.kept hK2
 clear hK1 hK2 HC q0 q1 q2 q3 q4 q5 q6
 go_upto_region 2 with fail
 rw [← hW1]
 clear hW1
 by_cases hn : (chk x).n = 0
 case neg =>
  have HN : Hid (¬ Gd x) := fun g => hn (chk_n.2 g)
  go_wp2_with fail
  go_ret2
  exact ⟨HO1.out.keeps, .inl ⟨HN.out, rfl⟩⟩
 have HG : Hid (Gd x) := chk_n.1 hn
 have HC : Hid (Calls Tryz.prog 34 #[x.v] W1 (OfP x W1)) := Of_any x W1 N HO1.out.cin HO1.out.nn
 obtain ⟨q0, q1, q2, q3, q4, q5, q6⟩ := HO1.out.cells
 go_wp2_with fail
 refine HC.out.mono ?_
 rintro e w2 ⟨hK2, ⟨hm, _⟩ | ⟨hm, b1, b2, F, G, T, D, rfl, hLD, hF, hG⟩⟩
 ·
  exact absurd hm (by rw [HG.out.fit.1]; decide)
 obtain ⟨Z, hZ⟩ : ∃ Z, Z = rtAt x (rtB x (16 * x.kernel)) x.ps.length / 16 := ⟨_, rfl⟩
 rw [← hZ]
 clear hZ hG hm
 obtain ⟨A, hA⟩ : ∃ A, A = w2.heap.size := ⟨_, rfl⟩
 obtain ⟨W2, hW2⟩ : ∃ W2, W2 = w2.alloc (.cells #[.int .i64 (16 * x.kernel), .slice (some ⟨b1, 0, none⟩) x.ps.length x.ps.length, .slice (some ⟨b2, 0, none⟩) x.hs.length x.hs.length, .int .i64 Z] 58) := ⟨_, rfl⟩
 have hK3 : Keeps (fun _ => False) W1 W2 := by rw [hW2]; exact hK2.alloc _
 have HO2 : Hid (One w x C N W2 ∧ Blk W2 A [.int .i64 (16 * x.kernel), .slice (some ⟨b1, 0, none⟩) x.ps.length x.ps.length, .slice (some ⟨b2, 0, none⟩) x.hs.length x.hs.length, .int .i64 Z] 58 ∧ Blk W2 b1 (row5 (fun i => (F i).vs) x.ps.length) 65 ∧ ∀ i, i < x.ps.length → (F i).save = svA x i ∧ (F i).state = stA x i) := by
  refine ⟨HO1.out.kept hK3, ?_, ?_, fun i hi => ⟨(hF i hi).2.1, (hF i hi).2.2.1⟩⟩
  ·
   rw [hW2, hA]; exact Blk.new _ _ _
  ·
   rw [hW2]; exact hLD.p.alloc _
 clear hK2 hK3 HC q0 q1 q2 q3 q4 q5 q6 hLD hF hn
 go_upto_region 7 with fail
 rw [← hW2, ← hA]
 clear hW2 hA
 have HS4 : Hid (∀ w', Keeps (fun _ => False) W2 w' → w'.cell? ⟨C, 0, none⟩ = some (.int .i64 x.frames) ∧ w'.cell? ⟨C, 1, none⟩ = some (.int .i64 x.major) ∧ w'.cell? ⟨C, 2, none⟩ = some (.int .i64 x.kernel) ∧ w'.cell? ⟨C, 3, none⟩ = some (.int .i64 x.room) ∧ w'.cell? ⟨C, 4, none⟩ = some (.slice x.ca x.cs.length x.cc) ∧ w'.cell? ⟨C, 5, none⟩ = some (.slice x.pa x.ps.length x.pc) ∧ w'.cell? ⟨C, 6, none⟩ = some (.slice x.ha x.hs.length x.hc) ∧ w'.cell? ⟨A, 0, none⟩ = some (.int .i64 (16 * x.kernel)) ∧ w'.cell? ⟨A, 1, none⟩ = some (.slice (some ⟨b1, 0, none⟩) x.ps.length x.ps.length) ∧ w'.cell? ⟨A, 2, none⟩ = some (.slice (some ⟨b2, 0, none⟩) x.hs.length x.hs.length) ∧ w'.cell? ⟨A, 3, none⟩ = some (.int .i64 Z)) := fun w' hK => by
  have h1 := (HO2.out.1.kept hK).cells
  have h2 := HO2.out.2.1.kept hK fun h => h
  exact ⟨h1.1, h1.2.1, h1.2.2.1, h1.2.2.2.1, h1.2.2.2.2.1, h1.2.2.2.2.2.1, h1.2.2.2.2.2.2, h2.cell rfl, h2.cell rfl, h2.cell rfl, h2.cell rfl⟩
 have HCE : Hid (∀ w', Keeps (fun _ => False) W2 w' → Calls Tryz.prog 35 #[x.v, .agg #[.int .i64 (16 * x.kernel), .slice (some ⟨b1, 0, none⟩) x.ps.length x.ps.length, .slice (some ⟨b2, 0, none⟩) x.hs.length x.hs.length, .int .i64 Z]] w' fun e w'' =>
   Keeps (fun _ => False) W2 w'' ∧ ∃ E l, e = .returned (.slice (some ⟨E, 0, none⟩) x.ps.length x.ps.length) ∧ W2.heap.size ≤ E ∧ Blk w'' E l 82 ∧ WRw w'' W2.heap.size E x (svA x) (stA x) x.ps.length l) := fun w' hK => by
  have hg := HG.out
  refine (wards_any x b1 (16 * x.kernel) 0 Z (some ⟨b2, 0, none⟩) x.hs.length x.hs.length (svA x) (stA x) w' N (HO2.out.1.kept hK).cin (HO2.out.1.kept hK).nn hg.ps.2 hg.ps.1 (fun i hi => ⟨⟨?_, ?_⟩, hg.sv, (hg.at hi).1⟩) (fun P hP => ?_)).mono ?_
  ·
   have h3 := HO2.out.2.2.1.kept hK fun h => h
   refine h3.cell ?_
   rw [row5_get (fun _ => rfl) hi (by decide), ← (HO2.out.2.2.2 i hi).1]
   rfl
  ·
   have h3 := HO2.out.2.2.1.kept hK fun h => h
   refine h3.cell ?_
   rw [row5_get (fun _ => rfl) hi (by decide), ← (HO2.out.2.2.2 i hi).2]
   rfl
  ·
   obtain ⟨p, hp⟩ := List.getElem?_of_mem hP
   exact (hg.gp p P hp).num
  ·
   rintro e w'' ⟨h1, E, l, h2, h3, h4, h5⟩
   exact ⟨hK.trans h1 fun _ _ h => h, E, l, h2, Nat.le_trans hK.size h3, h4, h5.low hK.size⟩
 refine wp_region_held_drew (S := (fun w' => w'.cell? ⟨C, 0, none⟩ = some (.int .i64 x.frames) ∧ w'.cell? ⟨C, 1, none⟩ = some (.int .i64 x.major) ∧ w'.cell? ⟨C, 2, none⟩ = some (.int .i64 x.kernel) ∧ w'.cell? ⟨C, 3, none⟩ = some (.int .i64 x.room) ∧ w'.cell? ⟨C, 4, none⟩ = some (.slice x.ca x.cs.length x.cc) ∧ w'.cell? ⟨C, 5, none⟩ = some (.slice x.pa x.ps.length x.pc) ∧ w'.cell? ⟨C, 6, none⟩ = some (.slice x.ha x.hs.length x.hc) ∧ w'.cell? ⟨A, 0, none⟩ = some (.int .i64 (16 * x.kernel)) ∧ w'.cell? ⟨A, 1, none⟩ = some (.slice (some ⟨b1, 0, none⟩) x.ps.length x.ps.length) ∧ w'.cell? ⟨A, 2, none⟩ = some (.slice (some ⟨b2, 0, none⟩) x.hs.length x.hs.length) ∧ w'.cell? ⟨A, 3, none⟩ = some (.int .i64 Z))) Tryz.mixh (HS4.out _ (Keeps.refl _ W2).drew) (fun hHeld => ?_)
 simp only [t1, t2, List.length_nil, Nat.reduceAdd, t4, Array.replicate_zero, t6, List.nil_append, t8]
 refine hk 0 (.pointer (some ⟨C, 0, none⟩)) hHeld ?_
 refine hk 1 (.int .i64 x.frames) hHeld ?_
 refine hk 2 (.agg #[.int .i64 x.frames, .int .i64 x.major, .int .i64 x.kernel, .int .i64 x.room, .slice x.ca x.cs.length x.cc, .slice x.pa x.ps.length x.pc, .slice x.ha x.hs.length x.hc]) hHeld ?_
 refine hk 3 (.agg #[.int .i64 (16 * x.kernel), .slice (some ⟨b1, 0, none⟩) x.ps.length x.ps.length, .slice (some ⟨b2, 0, none⟩) x.hs.length x.hs.length, .int .i64 Z]) hHeld ?_
 simp only [Act.put, s1, s2, s3]
 refine rd 4 fun Kq hK => ?_
 go_simp
 refine (HCE.out _ (Keeps.refl _ W2).drew).mono ?_
 rintro e w5 ⟨hK5, E, l, rfl, hE1, hE2, hE3⟩
 refine hK _ _ (HS4.out w5 hK5) (fun hHeld => ?_)
 simp only [Act.put, s1, s2, s3]
 refine hk 5 (.agg #[.int .i64 x.frames, .slice (some ⟨E, 0, none⟩) x.ps.length x.ps.length]) hHeld ?_
 simp only [Act.put, s1, s2, s3]
 refine rd 6 fun Kq hK => ?_
 go_simp
 refine hK _ _ (HS4.out _ (hK5.alloc _)) (fun hHeld => ?_)
 simp only [Act.put, s1, s2, s3]
 refine hk 7 (.pointer (some ⟨w5.heap.size, 0, none⟩)) hHeld ?_
 refine hk 8 (.int .i64 0) hHeld ?_
 simp only [Act.put, s1, s2, s3]
 refine wpAnyH_done (by kernel_rfl) ?_ _
 clear hHeld
 go_wp2
 go_ret2
 have hz2 : w.heap.size ≤ W2.heap.size := HO2.out.1.keeps.size
 refine ⟨(HO2.out.1.keeps.trans hK5 fun _ _ h => h).alloc _, .inr ⟨HG.out, w5.heap.size, E, l, rfl, ⟨Nat.le_trans hz2 hK5.size, Nat.le_trans hz2 hE1⟩, Blk.new _ _ _, hE2.alloc _, (hE3.low hz2).kept ((Keeps.refl (fun _ => False) _).alloc _) fun _ h => h.elim⟩⟩
end Go.Proofs.YtofjbkoojimmhaaGreat
