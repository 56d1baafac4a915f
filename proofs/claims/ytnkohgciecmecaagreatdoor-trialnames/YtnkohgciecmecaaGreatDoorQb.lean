import Derived.Test.YtnkohgciecmecaaGreatDoorQa
namespace Go.Proofs.YtnkohgciecmecaaGreatDoor
open Go.RowKit
set_option linter.unusedVariables false
set_option linter.unusedSimpArgs false
set_option maxRecDepth 6000

/-- A question: its function, what it captured, its answer. -/
abbrev Qn := Nat × Array Value × Flt
abbrev QV (q : Qn) : Value := .func (.func q.1) #[] q.2.1
/-- Questions that may be asked in turn while E holds. -/
structure Qs (qs : List Qn) (E : World → Prop) : Prop where
  kept : ∀ w w', E w → Keeps (fun _ => False) w w' → E w'
  ent : ∀ q ∈ qs, ∀ args w, (callFunc q.1 args).run Tryz.prog w = .ok (.enter q.1 args) w
  ask : ∀ (j : Nat) (q : Qn), qs[j]? = some q → (∀ i, i < j → ∀ r : Qn, qs[i]? = some r → r.2.2.n = 0) → Ask q.1 q.2.1 E q.2.2
  len : qs.length ≤ 100
theorem firstF_take {fs : List Flt} {j : Nat} {f : Flt} (h : fs[j]? = some f) (h0 : ∀ i, i < j → ∀ r : Flt, fs[i]? = some r → r.n = 0) (hf : f.n ≠ 0) : firstF fs = f := by
  induction fs generalizing j with
  | nil => simp at h
  | cons g fs ih =>
    cases j with
    | zero => simp at h; subst h; simp [firstF, hf]
    | succ j =>
      have := h0 0 (by omega) g rfl
      simp only [firstF, this, if_true]
      exact ih (by simpa using h) fun i hi r hr => h0 (i + 1) (by omega) r (by simpa using hr)
theorem firstF_no {fs : List Flt} (h0 : ∀ (i : Nat) (r : Flt), fs[i]? = some r → r.n = 0) : firstF fs = Flt.no := by
  induction fs with
  | nil => rfl
  | cons g fs ih =>
    have := h0 0 g rfl
    simp only [firstF, this, if_true]
    exact ih fun i r hr => h0 (i + 1) r (by simpa using hr)
theorem firstF_eq0 {fs : List Flt} : (firstF fs).n = 0 ↔ ∀ f ∈ fs, f.n = 0 := by
  induction fs with
  | nil => simp [firstF, Flt.no]
  | cons g fs ih =>
    by_cases h : g.n = 0
    · simp [firstF, h, ih]
    · simp [firstF, h]

/-- While the questions are asked: the row of questions in g, the answer's block in R. -/
structure FfI (w : World) (E : World → Prop) (g R : Nat) (cs : List Value) (t : TypeId) (w' : World) : Prop where
  env : E w'
  row : Blk w' g cs t
  ans : Blk w' R [.int .i64 0, .int .i64 0, .int .i64 0] 290
  keeps : Keeps (fun _ => False) w w'
  lo : w.heap.size ≤ R
theorem FfI.kept {w : World} {E : World → Prop} {g R : Nat} {cs : List Value} {t : TypeId} {w' w'' : World} (h : FfI w E g R cs t w') (hE : ∀ w w', E w → Keeps (fun _ => False) w w' → E w') (hK : Keeps (fun _ => False) w' w'') : FfI w E g R cs t w'' :=
  ⟨hE _ _ h.env hK, h.row.kept hK fun h => h, h.ans.kept hK fun h => h, h.keeps.trans hK fun _ _ h => h, h.lo⟩

set_option maxHeartbeats 4000000 in
theorem firstFault_any (qs : List Qn) (E : World → Prop) (g : Nat) (t : TypeId) (hQ : Qs qs E) (w : World) (hE : E w) (hB : Blk w g (qs.map QV) t) :
    Calls Tryz.prog 134 #[.slice (some ⟨g, 0, none⟩) qs.length qs.length] w fun e w' => e = .returned (firstF (qs.map (·.2.2))).v ∧ Keeps (fun _ => False) w w' := by
  obtain ⟨W, hW⟩ : ∃ W, W = w.alloc (.cells #[.int .i64 0, .int .i64 0, .int .i64 0] 290) := ⟨_, rfl⟩
  obtain ⟨R, hR⟩ : ∃ R, R = w.heap.size := ⟨_, rfl⟩
  have HQ : Hid (Qs qs E) := hQ
  have HO : Hid (FfI w E g R (qs.map QV) t W) := by
    rw [hW, hR]
    exact ⟨hQ.kept _ _ hE ((Keeps.refl _ _).alloc _), hB.alloc _, Blk.new _ _ _, (Keeps.refl _ _).alloc _, Nat.le_refl _⟩
  obtain ⟨L, hL⟩ : ∃ L, qs.length = L := ⟨_, rfl⟩
  have hl := hQ.len
  have HL : Hid (qs.length = L) := hL
  rw [hL] at hl ⊢
  clear hQ hE hB hL
  go_enter Tryz.func134, Tryz.ntmps134
  go_upto_region 1 with fail
  rw [← hW, ← hR]
  clear hW hR
  go_wp2
  go_loopw [8] (fun i wr => ∃ j : Nat, j ≤ L ∧ i = .int .i64 j ∧ (∀ i, i < j → ∀ r : Qn, qs[i]? = some r → r.2.2.n = 0) ∧ FfI w E g R (qs.map QV) t wr) (fun i _ => L - (intOf i).toNat)
  case atStart => exact ⟨0, by omega, rfl, fun i hi => by omega, HO.out⟩
  case round =>
    obtain ⟨k, hk, rfl, hno, hO⟩ := hrel
    by_cases hlt : k < L
    · obtain ⟨q, hq⟩ : ∃ q, qs[k]? = some q := ⟨_, List.getElem?_eq_getElem (by have := HL.out; omega)⟩
      have hent := HQ.out.ent q (List.mem_of_getElem? hq)
      have HC : Hid (Ask q.1 q.2.1 E q.2.2) := HQ.out.ask k q hq hno
      have c0 : wr.cell? ⟨g, k, none⟩ = some (.func (.func q.1) #[] q.2.1) := hO.row.cell (i := k) (by simp [hq])
      obtain ⟨f, bs, v⟩ := q
      have HK : Hid (FfI w E g R (qs.map QV) t wr ∧ (∀ i, i < k → ∀ r : Qn, qs[i]? = some r → r.2.2.n = 0) ∧ qs[k]? = some (f, bs, v)) := ⟨hO, hno, hq⟩
      dsimp only at hent c0 HC
      clear hno hO hq
      go_wp2_with fail
      refine (HC.out _ HK.out.1.env).mono ?_
      rintro e w1 ⟨rfl, hK⟩
      have HO1 : Hid (FfI w E g R (qs.map QV) t w1) := HK.out.1.kept HQ.out.kept hK
      clear hK c0
      obtain ⟨vn, va, vb⟩ := v
      obtain ⟨W2, hW2⟩ : ∃ W2, W2 = w1.alloc (.cells #[.int .i64 vn, .int .i64 va, .int .i64 vb] 290) := ⟨_, rfl⟩
      obtain ⟨D, hD⟩ : ∃ D, D = w1.heap.size := ⟨_, rfl⟩
      have HO2 : Hid (FfI w E g R (qs.map QV) t W2) := by rw [hW2]; exact HO1.out.kept HQ.out.kept ((Keeps.refl _ _).alloc _)
      have hB2 : Blk W2 D [.int .i64 vn, .int .i64 va, .int .i64 vb] 290 := by rw [hW2, hD]; exact Blk.new _ _ _
      have m0 := HO2.out.ans.cell (i := 0) rfl
      have m1 := HO2.out.ans.cell (i := 1) rfl
      have m2 := HO2.out.ans.cell (i := 2) rfl
      have n0 := HO2.out.ans.frozen 0
      have n1 := HO2.out.ans.frozen 1
      have n2 := HO2.out.ans.frozen 2
      have d0 := hB2.cell (i := 0) rfl
      have d1 := hB2.cell (i := 1) rfl
      have d2 := hB2.cell (i := 2) rfl
      clear hB2
      go_upto_region 5 with fail
      rw [← hW2, ← hD]
      clear hW2 hD
      by_cases hv : vn = 0
      · subst hv
        go_wp2
        go_roundw
        case rel =>
          refine ⟨k + 1, by omega, by go_num, fun i hi r hr => ?_, HO2.out⟩
          by_cases e : i = k
          · subst e; rw [HK.out.2.2] at hr; cases hr; rfl
          · exact HK.out.2.1 i (by omega) r hr
        case measure => simp [intOf]; omega
      · have qv : (vn == 0) = false := by simpa using hv
        go_wp2
        obtain ⟨hB, hK3⟩ := set3 HO2.out.ans (.int .i64 vn) (.int .i64 va) (.int .i64 vb)
        obtain ⟨Wb, hWb⟩ : ∃ Wb, Wb = (((W2.setCell ⟨R, 0, none⟩ (.int .i64 vn)).setCell ⟨R, 1, none⟩ (.int .i64 va)).setCell ⟨R, 2, none⟩ (.int .i64 vb)) := ⟨_, rfl⟩
        rw [← hWb] at hB hK3 ⊢
        (try simp only [Exit.inBlock, Exit.then])
        refine bodyPost_ret (results_cell_row rfl _ _ R 290 _ (0, 0) _ rfl hB Tryz.underlying290 rfl (by kernel_rfl)) rfl ?_
        have hlo := HO2.out.lo
        refine ⟨?_, HO2.out.keeps.trans hK3 fun k hk e => by omega⟩
        have := firstF_take (fs := qs.map (·.2.2)) (j := k) (f := ⟨vn, va, vb⟩) (by simp [HK.out.2.2]) (fun i hi r hr => by
          rw [List.getElem?_map] at hr
          obtain ⟨q, hq, rfl⟩ := Option.map_eq_some_iff.1 hr
          exact HK.out.2.1 i hi q hq) hv
        rw [this]
    · have hkL : k = L := by omega
      subst hkL
      have m0 := hO.ans.cell (i := 0) rfl
      have m1 := hO.ans.cell (i := 1) rfl
      have m2 := hO.ans.cell (i := 2) rfl
      have n0 := hO.ans.frozen 0
      have n1 := hO.ans.frozen 1
      have n2 := hO.ans.frozen 2
      have HK : Hid (FfI w E g R (qs.map QV) t wr ∧ (∀ i, i < k → ∀ r : Qn, qs[i]? = some r → r.2.2.n = 0)) := ⟨hO, hno⟩
      clear hO hno
      go_wp2
      obtain ⟨hB, hK3⟩ := set3 HK.out.1.ans (.int .i64 0) (.int .i64 0) (.int .i64 0)
      obtain ⟨Wb, hWb⟩ : ∃ Wb, Wb = (((wr.setCell ⟨R, 0, none⟩ (.int .i64 0)).setCell ⟨R, 1, none⟩ (.int .i64 0)).setCell ⟨R, 2, none⟩ (.int .i64 0)) := ⟨_, rfl⟩
      rw [← hWb] at hB hK3 ⊢
      (try simp only [Exit.inBlock, Exit.then])
      refine bodyPost_ret (results_cell_row rfl _ _ R 290 _ (0, 0) _ rfl hB Tryz.underlying290 rfl (by kernel_rfl)) rfl ?_
      have hlo := HK.out.1.lo
      refine ⟨?_, HK.out.1.keeps.trans hK3 fun k hk e => by omega⟩
      rw [firstF_no fun i r hr => by
        rw [List.getElem?_map] at hr
        obtain ⟨q, hq, rfl⟩ := Option.map_eq_some_iff.1 hr
        have := (List.getElem?_eq_some_iff.1 hq).1
        exact HK.out.2 i (by rw [HL.out] at this; omega) q hq]
      rfl
end Go.Proofs.YtnkohgciecmecaaGreatDoor
