import Derived.Test.YtnkohgciecmecaaGreatDoorQb
namespace Go.Proofs.YtnkohgciecmecaaGreatDoor
open Go.RowKit
set_option linter.unusedVariables false
set_option linter.unusedSimpArgs false
set_option maxRecDepth 6000

def MkP (v : Flt) (w : World) (e : Ending) (w' : World) : Prop :=
  Keeps (fun _ => False) w w' ∧ ∃ (g : Nat) (t : TypeId) (qs : List Qn) (E : World → Prop), e = .returned (.slice (some ⟨g, 0, none⟩) qs.length qs.length) ∧ Blk w' g (qs.map QV) t ∧ E w' ∧ Qs qs E ∧ firstF (qs.map (·.2.2)) = v
/-- A function that makes questions; the first answer of them that is a fault. -/
def Makes (f : Nat) (args : Array Value) (E : World → Prop) (v : Flt) : Prop := ∀ w, E w → Calls Tryz.prog f args w (MkP v w)

structure ObI (w : World) (E : World → Prop) (R : Nat) (w' : World) : Prop where
  env : E w'
  ans : Blk w' R [.int .i64 0, .int .i64 0, .int .i64 0] 290
  keeps : Keeps (fun _ => False) w w'
  lo : w.heap.size ≤ R
theorem ObI.kept {w : World} {E : World → Prop} {R : Nat} {w' w'' : World} (h : ObI w E R w') (hE : ∀ w w', E w → Keeps (fun _ => False) w w' → E w') (hK : Keeps (fun _ => False) w' w'') : ObI w E R w'' :=
  ⟨hE _ _ h.env hK, h.ans.kept hK fun h => h, h.keeps.trans hK fun _ _ h => h, h.lo⟩

set_option maxHeartbeats 4000000 in
theorem oneByOne_any (n f : Nat) (bs : Array Value) (E : World → Prop) (an : Nat → Flt) (hn : n ≤ 1000000000) (hent : ∀ args w, (callFunc f args).run Tryz.prog w = .ok (.enter f args) w)
    (hEk : ∀ w w', E w → Keeps (fun _ => False) w w' → E w') (hM : ∀ i, i < n → (∀ j, j < i → (an j).n = 0) → Makes f (#[.int .i64 (i : Int)] ++ bs) E (an i)) (w : World) (hE : E w) :
    Calls Tryz.prog 199 #[.int .i64 (n : Int), .func (.func f) #[] bs] w fun e w' => e = .returned (firstF ((List.range n).map an)).v ∧ Keeps (fun _ => False) w w' := by
  obtain ⟨W, hW⟩ : ∃ W, W = w.alloc (.cells #[.int .i64 0, .int .i64 0, .int .i64 0] 290) := ⟨_, rfl⟩
  obtain ⟨R, hR⟩ : ∃ R, R = w.heap.size := ⟨_, rfl⟩
  have HE : Hid (∀ w w', E w → Keeps (fun _ => False) w w' → E w') := hEk
  have HM : Hid (∀ i, i < n → (∀ j, j < i → (an j).n = 0) → Makes f (#[.int .i64 (i : Int)] ++ bs) E (an i)) := hM
  have HO : Hid (ObI w E R W) := by
    rw [hW, hR]
    exact ⟨hEk _ _ hE ((Keeps.refl _ _).alloc _), Blk.new _ _ _, (Keeps.refl _ _).alloc _, Nat.le_refl _⟩
  clear hE hEk hM
  go_enter Tryz.func199, Tryz.ntmps199
  go_upto_region 1 with fail
  rw [← hW, ← hR]
  clear hW hR
  go_wp2
  go_loopw [8] (fun i wr => ∃ j : Nat, j ≤ n ∧ i = .int .i64 j ∧ (∀ i, i < j → (an i).n = 0) ∧ ObI w E R wr) (fun i _ => n - (intOf i).toNat)
  case atStart => exact ⟨0, by omega, rfl, fun i hi => by omega, HO.out⟩
  case round =>
    obtain ⟨k, hk, rfl, hno, hO⟩ := hrel
    by_cases hlt : k < n
    · have HC : Hid (Makes f (#[.int .i64 (k : Int)] ++ bs) E (an k)) := HM.out k hlt hno
      have HK : Hid (ObI w E R wr ∧ (∀ i, i < k → (an i).n = 0)) := ⟨hO, hno⟩
      clear hno hO
      go_wp2_with fail
      refine (HC.out _ HK.out.1.env).mono ?_
      rintro e w0 ⟨hK0, g, t, qs, E', rfl, hB, hE', hQ, hf⟩
      have HC1 : Hid (Calls Tryz.prog 134 #[.slice (some ⟨g, 0, none⟩) qs.length qs.length] w0 fun e w' => e = .returned (an k).v ∧ Keeps (fun _ => False) w0 w') := by rw [← hf]; exact firstFault_any qs E' g t hQ w0 hE' hB
      have HO0 : Hid (ObI w E R w0) := HK.out.1.kept HE.out hK0
      clear hB hE' hQ hf hK0
      go_wp2_with fail
      refine HC1.out.mono ?_
      rintro e w1 ⟨rfl, hK⟩
      have HO1 : Hid (ObI w E R w1) := HO0.out.kept HE.out hK
      clear hK HC1
      obtain ⟨v, hv⟩ : ∃ v, an k = v := ⟨_, rfl⟩
      have HV : Hid (an k = v) := hv
      rw [hv]
      clear hv
      obtain ⟨vn, va, vb⟩ := v
      obtain ⟨W2, hW2⟩ : ∃ W2, W2 = w1.alloc (.cells #[.int .i64 vn, .int .i64 va, .int .i64 vb] 290) := ⟨_, rfl⟩
      obtain ⟨D, hD⟩ : ∃ D, D = w1.heap.size := ⟨_, rfl⟩
      have HO2 : Hid (ObI w E R W2) := by rw [hW2]; exact HO1.out.kept HE.out ((Keeps.refl _ _).alloc _)
      have hB2 : Blk W2 D [.int .i64 vn, .int .i64 va, .int .i64 vb] 290 := by rw [hW2, hD]; exact Blk.new _ _ _
      have m0 := HO2.out.ans.cell (i := 0) rfl
      have m1 := HO2.out.ans.cell (i := 1) rfl
      have m2 := HO2.out.ans.cell (i := 2) rfl
      have n0 := HO2.out.ans.frozen 0
      have n1 := HO2.out.ans.frozen 1
      have n2 := HO2.out.ans.frozen 2
      have d0 := hB2.cell (i := 0) rfl
      have d1 := hB2.cell (i := 1) rfl
      have d2 := hB2.cell (i := 2) rfl
      clear hB2
      go_upto_region 5 with fail
      rw [← hW2, ← hD]
      clear hW2 hD
      by_cases hv : vn = 0
      · subst hv
        go_wp2
        go_roundw
        case rel =>
          refine ⟨k + 1, by omega, by go_num, fun i hi => ?_, HO2.out⟩
          by_cases e : i = k
          · subst e; rw [HV.out]
          · exact HK.out.2 i (by omega)
        case measure => simp [intOf]; omega
      · have qv : (vn == 0) = false := by simpa using hv
        go_wp2
        obtain ⟨hB, hK3⟩ := set3 HO2.out.ans (.int .i64 vn) (.int .i64 va) (.int .i64 vb)
        obtain ⟨Wb, hWb⟩ : ∃ Wb, Wb = (((W2.setCell ⟨R, 0, none⟩ (.int .i64 vn)).setCell ⟨R, 1, none⟩ (.int .i64 va)).setCell ⟨R, 2, none⟩ (.int .i64 vb)) := ⟨_, rfl⟩
        rw [← hWb] at hB hK3 ⊢
        (try simp only [Exit.inBlock, Exit.then])
        refine bodyPost_ret (results_cell_row rfl _ _ R 290 _ (0, 0) _ rfl hB Tryz.underlying290 rfl (by kernel_rfl)) rfl ?_
        have hlo := HO2.out.lo
        refine ⟨?_, HO2.out.keeps.trans hK3 fun k hk e => by omega⟩
        have := firstF_take (fs := (List.range n).map an) (j := k) (f := ⟨vn, va, vb⟩) (by rw [List.getElem?_map, List.getElem?_range hlt, Option.map_some, HV.out]) (fun i hi r hr => by
          rw [List.getElem?_map, List.getElem?_range (by omega)] at hr
          cases hr
          exact HK.out.2 i hi) hv
        rw [this]
    · have hkL : k = n := by omega
      subst hkL
      have m0 := hO.ans.cell (i := 0) rfl
      have m1 := hO.ans.cell (i := 1) rfl
      have m2 := hO.ans.cell (i := 2) rfl
      have n0 := hO.ans.frozen 0
      have n1 := hO.ans.frozen 1
      have n2 := hO.ans.frozen 2
      have HK : Hid (ObI w E R wr ∧ (∀ i, i < k → (an i).n = 0)) := ⟨hO, hno⟩
      clear hO hno
      go_wp2
      obtain ⟨hB, hK3⟩ := set3 HK.out.1.ans (.int .i64 0) (.int .i64 0) (.int .i64 0)
      obtain ⟨Wb, hWb⟩ : ∃ Wb, Wb = (((wr.setCell ⟨R, 0, none⟩ (.int .i64 0)).setCell ⟨R, 1, none⟩ (.int .i64 0)).setCell ⟨R, 2, none⟩ (.int .i64 0)) := ⟨_, rfl⟩
      rw [← hWb] at hB hK3 ⊢
      (try simp only [Exit.inBlock, Exit.then])
      refine bodyPost_ret (results_cell_row rfl _ _ R 290 _ (0, 0) _ rfl hB Tryz.underlying290 rfl (by kernel_rfl)) rfl ?_
      have hlo := HK.out.1.lo
      refine ⟨?_, HK.out.1.keeps.trans hK3 fun k hk e => by omega⟩
      rw [firstF_no fun i r hr => by
        rw [List.getElem?_map] at hr
        obtain ⟨q, hq, rfl⟩ := Option.map_eq_some_iff.1 hr
        have := (List.getElem?_eq_some_iff.1 hq).1
        rw [List.length_range] at this
        rw [List.getElem?_range this] at hq
        cases hq
        exact HK.out.2 i this]
      rfl
end Go.Proofs.YtnkohgciecmecaaGreatDoor
