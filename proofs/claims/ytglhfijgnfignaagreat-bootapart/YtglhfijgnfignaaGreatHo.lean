import Derived.Test.YtglhfijgnfignaaGreatHf
import Derived.Test.YtglhfijgnfignaaGreatGd
import Derived.Test.YtglhfijgnfignaaGreatQ
import Derived.Test.YtglhfijgnfignaaGreatP
namespace Go.Proofs.YtglhfijgnfignaaGreat
open Go.RowKit Go.Shelf
open Mq
set_option linter.unusedVariables false
set_option maxRecDepth 6000
set_option linter.unusedSimpArgs false
theorem Tryz.size147 : (Tryz.prog.info? 147).map (·.size) = some 2 := by kernel_rfl
theorem one80 (f g : Nat) (u v : Array Value) : (#[.func (.func f) #[] u, .func (.func g) #[] v] : Array Value).all (·.oneCell') = true := by kernel_rfl
theorem careOf_0 (w : World) : Calls Tryz.prog 98 #[.int .i64 0] w fun e w' => e = .returned (.agg #[.func (.func 139) #[] #[], .func (.func 140) #[] #[]]) ∧ Keeps (fun _ => False) w w' := by
 obtain ⟨W, hW⟩ : ∃ W, W = (w.alloc (.cells #[.int .i64 0] 3)).alloc (.cells #[.nilFunc, .nilFunc] 147) := ⟨_, rfl⟩
 obtain ⟨D, hD⟩ : ∃ D, D = w.heap.size := ⟨_, rfl⟩
 have hB : Blk W (D + 1) [.nilFunc, .nilFunc] 147 := by
  have := Blk.new (w.alloc (.cells #[.int .i64 0] 3)) #[.nilFunc, .nilFunc] 147
  rw [hW, hD]
  simpa using this
 have hA : Blk W D [.int .i64 0] 3 := by rw [hW, hD]; exact (Blk.new w _ 3).alloc _
 have HB : Hid (Blk W (D + 1) [.nilFunc, .nilFunc] 147 ∧ Blk (W.setRow (D + 1) #[.func (.func 139) #[] #[], .func (.func 140) #[] #[]]) (D + 1) #[.func (.func 139) #[] #[], .func (.func 140) #[] #[]].toList 147 ∧ Keeps (fun _ => False) w (W.setRow (D + 1) #[.func (.func 139) #[] #[], .func (.func 140) #[] #[]]) ∧ Blk (W.setRow (D + 1) #[.func (.func 139) #[] #[], .func (.func 140) #[] #[]]) D [.int .i64 0] 3) :=
  ⟨hB, hB.setRow _, by rw [hW]; exact (((Keeps.refl _ w).alloc _).alloc _).setRow _ _ fun h => by omega, hA.setRow_ne (by omega) _⟩
 have c0 := hA.cell (i := 0) rfl
 go_enter Tryz.func98, Tryz.ntmps98
 go_upto_region 1 with fail
 rw [← hW, ← hD]
 clear hW hD hA hB
 go_wp2_with (refine wpList_store_row rfl 147 (.tmp 2) (.tmp 5) rfl (D + 1) #[.func (.func 139) #[] #[], .func (.func 140) #[] #[]] rfl rfl 147 #[.nilFunc, .nilFunc] HB.out.1 Tryz.size147 rfl (one80 _ _ _ _) ?_; refine Hid.out ?_)
 unfold Hid
 go_wp2
 refine bodyPost_ret (results_cell_row rfl _ _ (D + 1) 147 #[.func (.func 139) #[] #[], .func (.func 140) #[] #[]] (0, 0) _ rfl HB.out.2.1 Tryz.underlying147 rfl Tryz.size147) rfl ?_
 exact ⟨rfl, HB.out.2.2.1⟩
theorem careOf_1 (act : Int) (ha : ¬ act = 0) (w : World) : Calls Tryz.prog 98 #[.int .i64 act] w fun e w' => e = .returned (.agg #[.func (.func 141) #[] #[], .func (.func 142) #[] #[.pointer (some ⟨w.heap.size, 0, none⟩)]]) ∧ Keeps (fun _ => False) w w' ∧ Blk w' w.heap.size [.int .i64 act] 3 := by
 obtain ⟨W, hW⟩ : ∃ W, W = (w.alloc (.cells #[.int .i64 act] 3)).alloc (.cells #[.nilFunc, .nilFunc] 147) := ⟨_, rfl⟩
 obtain ⟨D, hD⟩ : ∃ D, D = w.heap.size := ⟨_, rfl⟩
 have hB : Blk W (D + 1) [.nilFunc, .nilFunc] 147 := by
  have := Blk.new (w.alloc (.cells #[.int .i64 act] 3)) #[.nilFunc, .nilFunc] 147
  rw [hW, hD]
  simpa using this
 have hA : Blk W D [.int .i64 act] 3 := by rw [hW, hD]; exact (Blk.new w _ 3).alloc _
 have HB : Hid (Blk W (D + 1) [.nilFunc, .nilFunc] 147 ∧ Blk (W.setRow (D + 1) #[.func (.func 141) #[] #[], .func (.func 142) #[] #[.pointer (some ⟨D, 0, none⟩)]]) (D + 1) #[.func (.func 141) #[] #[], .func (.func 142) #[] #[.pointer (some ⟨D, 0, none⟩)]].toList 147 ∧ Keeps (fun _ => False) w (W.setRow (D + 1) #[.func (.func 141) #[] #[], .func (.func 142) #[] #[.pointer (some ⟨D, 0, none⟩)]]) ∧ Blk (W.setRow (D + 1) #[.func (.func 141) #[] #[], .func (.func 142) #[] #[.pointer (some ⟨D, 0, none⟩)]]) D [.int .i64 act] 3) :=
  ⟨hB, hB.setRow _, by rw [hW]; exact (((Keeps.refl _ w).alloc _).alloc _).setRow _ _ fun h => by omega, hA.setRow_ne (by omega) _⟩
 have c0 := hA.cell (i := 0) rfl
 have g : (act == 0) = false := by simpa using ha
 have HD : Hid (w.heap.size = D) := hD.symm
 clear ha
 go_enter Tryz.func98, Tryz.ntmps98
 go_upto_region 1 with fail
 rw [← hW, ← hD]
 clear hW hD hA hB
 go_wp2_with (refine wpList_store_row rfl 147 (.tmp 2) (.tmp 7) rfl (D + 1) #[.func (.func 141) #[] #[], .func (.func 142) #[] #[.pointer (some ⟨D, 0, none⟩)]] rfl rfl 147 #[.nilFunc, .nilFunc] HB.out.1 Tryz.size147 rfl (one80 _ _ _ _) ?_; refine Hid.out ?_)
 unfold Hid
 go_wp2
 refine bodyPost_ret (results_cell_row rfl _ _ (D + 1) 147 #[.func (.func 141) #[] #[], .func (.func 142) #[] #[.pointer (some ⟨D, 0, none⟩)]] (0, 0) _ rfl HB.out.2.1 Tryz.underlying147 rfl Tryz.size147) rfl ?_
 exact ⟨by rw [HD.out], HB.out.2.2.1, by rw [HD.out]; exact HB.out.2.2.2⟩
theorem cut_at {α : Type} (xs : List α) (p : Nat) (ys : List α) (h : p + ys.length ≤ xs.length) (i : Nat) : (xs.take p ++ ys ++ xs.drop (p + ys.length))[i]? = if i < p then xs[i]? else if i < p + ys.length then ys[i - p]? else xs[i]? := by
 have hp : (xs.take p).length = p := by simp; omega
 by_cases h1 : i < p
 ·
  rw [if_pos h1, List.append_assoc, List.getElem?_append_left (by omega), List.getElem?_take, if_pos h1]
 ·
  rw [if_neg h1]
  by_cases h2 : i < p + ys.length
  ·
   rw [if_pos h2, List.getElem?_append_left (by simp; omega), List.getElem?_append_right (by omega), hp]
  ·
   rw [if_neg h2, List.getElem?_append_right (by simp; omega), List.getElem?_drop]
   congr 1
   simp
   omega
theorem cut_win {α : Type} (xs : List α) (ys : List α) (j i : Nat) (hy : ys.length = 7) (h : j * 7 + 7 ≤ xs.length) : ((xs.take (j * 7) ++ ys ++ xs.drop (j * 7 + ys.length)).drop (i * 7)).take 7 = if i = j then ys else (xs.drop (i * 7)).take 7 := by
 refine List.ext_getElem? fun k => ?_
 rw [List.getElem?_take, List.getElem?_drop]
 by_cases hk : k < 7
 ·
  rw [if_pos hk, cut_at xs (j * 7) ys (by omega)]
  by_cases e : i = j
  ·
   subst e
   rw [if_pos rfl, if_neg (by omega), if_pos (by omega)]
   congr 1
   omega
  ·
   rw [if_neg e, List.getElem?_take, if_pos hk, List.getElem?_drop]
   by_cases h1 : i * 7 + k < j * 7
   ·
    rw [if_pos h1]
   ·
    rw [if_neg h1, if_neg (by omega)]
 ·
  rw [if_neg hk]
  split
  ·
   exact (List.getElem?_eq_none (by omega)).symm
  ·
   rw [List.getElem?_take, if_neg hk]
structure IsW (w : World) (lo E : Nat) (sv st : Int) (P : Par) (d : Wrd) (a : Nat) : Prop where
 sv : (d.sv : Int) = sv
 st : (d.st : Int) = st
 en : (d.en.toNat : Int) = P.entry
 rs : d.rs = P.restarts
 ou : d.ou = P.outputs
 care : (P.action = 0 ∧ d.fh = .func (.func 139) #[] #[] ∧ d.fa = .func (.func 140) #[] #[]) ∨ (¬ P.action = 0 ∧ d.fh = .func (.func 141) #[] #[] ∧ d.fa = .func (.func 142) #[] #[.pointer (some ⟨a, 0, none⟩)] ∧ Blk w a [.int .i64 P.action] 3 ∧ lo ≤ a ∧ a ≠ E)
theorem IsW.kept {S : Nat → Prop} {w w' : World} {lo E : Nat} {sv st : Int} {P : Par} {d : Wrd} {a : Nat} (h : IsW w lo E sv st P d a) (hK : Keeps S w w') (hS : ∀ k, S k → k = E) : IsW w' lo E sv st P d a :=
 ⟨h.sv, h.st, h.en, h.rs, h.ou, h.care.imp id fun ⟨a, b, c, d, e, f⟩ => ⟨a, b, c, d.kept hK fun h => f (hS _ h), e, f⟩⟩
structure WRw (w : World) (lo E : Nat) (x : Cfg) (F G : Nat → Int) (n : Nat) (l : List Value) : Prop where
 len : l.length = x.ps.length * 7
 each : ∀ i P, i < n → x.ps[i]? = some P → ∃ d a, (l.drop (i * 7)).take 7 = d.vs ∧ IsW w lo E (F i) (G i) P d a
theorem WRw.kept {S : Nat → Prop} {w w' : World} {lo E : Nat} {x : Cfg} {F G : Nat → Int} {n : Nat} {l : List Value} (h : WRw w lo E x F G n l) (hK : Keeps S w w') (hS : ∀ k, S k → k = E) : WRw w' lo E x F G n l :=
 ⟨h.len, fun i P hi hP => (h.each i P hi hP).elim fun d ⟨a, h1, h2⟩ => ⟨d, a, h1, h2.kept hK hS⟩⟩
theorem WRw.next {w : World} {lo E : Nat} {x : Cfg} {F G : Nat → Int} {n : Nat} {l : List Value} (h : WRw w lo E x F G n l) {P : Par} (hP : x.ps[n]? = some P) (d : Wrd) (a : Nat) (hd : IsW w lo E (F n) (G n) P d a) : WRw w lo E x F G (n + 1) (l.take (n * 7) ++ d.vs ++ l.drop (n * 7 + d.vs.length)) := by
 have hn := (List.getElem?_eq_some_iff.1 hP).1
 have hl := h.len
 have hv : d.vs.length = 7 := rfl
 refine ⟨by simp [hl, hv]; omega, fun i Q hi hQ => ?_⟩
 rw [cut_win l d.vs n i rfl (by omega)]
 by_cases e : i = n
 ·
  subst e
  rw [if_pos rfl]
  rw [hP] at hQ
  cases hQ
  exact ⟨d, a, rfl, hd⟩
 ·
  rw [if_neg e]
  exact h.each i Q (by omega) hQ
end Go.Proofs.YtglhfijgnfignaaGreat
