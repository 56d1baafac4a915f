import Derived.Test.YtadhldpeklkcmaaT
import Derived.Test.YtadhldpeklkcmaaR
import Derived.Deep.RegionHeld3
namespace Go.Proofs.Ytadhldpeklkcmaa
open Go.RowKit
set_option linter.unusedVariables false

/-- Is it not kept waiting? -/
def Ck.rdy (C : Ck) (Q : List Int) : Prop := C.held = C.lk.length ∨ C.ask = false ∨ Q.getD (C.lk.getD C.held 0 * 2 + 1) 0 = C.plc

theorem lkI_get (l : List Nat) {i : Nat} (h : i < l.length) : (lkI l).getD i 0 = 2 * ((l.getD i 0 : Nat) : Int) := by
  simp [lkI, List.getD, List.getElem?_eq_getElem h]
theorem lkI_len (l : List Nat) : (lkI l).length = l.length := by simp [lkI]

set_option maxRecDepth 20000 in
set_option maxHeartbeats 2000000 in
theorem ready_any (Cs : List Ck) (rest : List Value) (kb : Nat) (cap : Nat) (qb : Nat) (Q : List Int) (d : Nat) (w : World) (hne : Cs ≠ []) (hB : Blk w kb (kvs Cs ++ rest) 54) (hQ : Blk w qb (ivs Q) 66) (hql : Q.length = 10) (hok : ∀ C ∈ Cs, C.Ok w) (hh : ∀ C ∈ Cs, C.held ≤ C.lk.length)
    (hr : ∃ C ∈ Cs, C.rdy Q) (hn5 : Cs.length ≤ 5) :
    Calls Try.prog 24 #[.slice (some ⟨kb, 0, none⟩) Cs.length cap, .slice (some ⟨qb, 0, none⟩) 5 d] w fun e w' => e = .returned (.bool true) ∧ Keeps (fun _ => False) w w' := by
  obtain ⟨n, hn⟩ : ∃ n, n = Cs.length := ⟨_, rfl⟩
  have H : Hid (Cs ≠ [] ∧ Blk w kb (kvs Cs ++ rest) 54 ∧ Blk w qb (ivs Q) 66 ∧ Q.length = 10 ∧ (∀ C ∈ Cs, C.Ok w) ∧ (∀ C ∈ Cs, C.held ≤ C.lk.length) ∧ (∃ C ∈ Cs, C.rdy Q) ∧ n = Cs.length) := ⟨hne, hB, hQ, hql, hok, hh, hr, hn⟩
  rw [← hn] at hn5 ⊢
  have hn5' : (n : Int) ≤ 5 := by omega
  clear hne hB hQ hql hok hh hr hn
  go_enter Try.func24, Try.ntmps24
  go_wp2_with fail
  go_loopw [5] (fun i wr => ∃ j : Nat, j ≤ n ∧ i = .int .i64 j ∧ Keeps (fun _ => False) w wr ∧ ∀ i C, i < j → Cs[i]? = some C → ¬ C.rdy Q) (fun i _ => n - (intOf i).toNat)
  case atStart => exact ⟨0, by omega, rfl, Keeps.refl _ _, fun i C h => by omega⟩
  case round =>
    obtain ⟨j, hj, rfl, hK, hno⟩ := hrel
    have HK : Hid (Keeps (fun _ => False) w wr ∧ ∀ i C, i < j → Cs[i]? = some C → ¬ C.rdy Q) := ⟨hK, hno⟩
    by_cases hlt : j < n
    · have hlt' : (j : Int) < n := by omega
      have hjx : j < Cs.length := by have := H.out.2.2.2.2.2.2.2; omega
      obtain ⟨C, hC⟩ : ∃ C, Cs[j]? = some C := ⟨_, List.getElem?_eq_getElem hjx⟩
      have hmem : C ∈ Cs := List.mem_of_getElem? hC
      have hB := H.out.2.1.kept hK (fun e => e)
      have hg : ∀ t, t < 5 → (kvs Cs ++ rest)[j * 5 + t]? = C.vs[t]? := fun t ht => by
        rw [List.getElem?_append_left (by rw [kvs_length]; omega)]; exact kvs_get Cs j t C hC ht
      have hO := (H.out.2.2.2.2.1 C hmem).kept hK (fun _ _ e => e) (fun _ _ e => e)
      have hhl := H.out.2.2.2.2.2.1 C hmem
      obtain ⟨al, cl, hlv, -, -⟩ := owns_slice hO.row
      have c0 := hB.cell (hg 0 (by omega))
      have c1 := hB.cell (hg 1 (by omega))
      have c2 := hB.cell (hg 2 (by omega))
      have c3 := hB.cell (hg 3 (by omega))
      have c4 := hB.cell (hg 4 (by omega))
      rw [Nat.add_zero] at c0
      replace c1 : wr.cell? ⟨kb, j * 5 + 1, none⟩ = some C.lv := c1
      rw [hlv] at c1
      have hseg : SegI wr al (lkI C.lk) := owns_segI (c := cl) (by rw [lkI_len, ← hlv]; exact hO.row)
      have hQb := H.out.2.2.1.kept hK (fun e => e)
      obtain ⟨nl, hnl⟩ : ∃ nl, nl = C.lk.length := ⟨_, rfl⟩
      obtain ⟨hd, hhd⟩ : ∃ hd, hd = C.held := ⟨_, rfl⟩
      obtain ⟨xb, hxb⟩ : ∃ xb, xb = C.X.b := ⟨_, rfl⟩
      obtain ⟨pc, hpc⟩ : ∃ pc, pc = C.plc := ⟨_, rfl⟩
      replace c0 : wr.cell? ⟨kb, j * 5, none⟩ = some (.pointer (some ⟨xb, 0, none⟩)) := by rw [hxb]; exact c0
      replace c2 : wr.cell? ⟨kb, j * 5 + 2, none⟩ = some (.int .i64 (hd : Int)) := by rw [hhd]; exact c2
      replace c3 : wr.cell? ⟨kb, j * 5 + 3, none⟩ = some (.bool C.ask) := c3
      replace c4 : wr.cell? ⟨kb, j * 5 + 4, none⟩ = some (.int .i64 pc) := by rw [hpc]; exact c4
      rw [← hnl] at c1
      have hnl5 : (nl : Int) ≤ 4294967296 := by have := hO.ch.small; rw [hO.lk, lkI_len] at this; omega
      have hrd : C.rdy Q ↔ (hd = nl ∨ C.ask = false ∨ Q.getD (C.lk.getD hd 0 * 2 + 1) 0 = pc) := by unfold Ck.rdy; rw [hhd, hnl, hpc]
      have HR : Hid (C.rdy Q ↔ (hd = nl ∨ C.ask = false ∨ Q.getD (C.lk.getD hd 0 * 2 + 1) 0 = pc)) := hrd
      have HC : Hid (Cs[j]? = some C) := hC
      by_cases h1 : hd = nl
      · subst h1
        clear hhl hseg hO hB hg hmem hC hK hno hlv hQb hrd hnl hhd hxb hpc hjx HC HR
        go_wp2_with fail
        go_quiet (fail)
        go_wp2
        go_ret
        exact ⟨rfl, (HK.out.1.alloc _).drewN _⟩
      · have h1' : ¬ ((hd : Int) = nl) := by omega
        have hdl : hd < C.lk.length := by omega
        obtain ⟨ga, oa, ha, hcell⟩ := hseg.at (by rw [lkI_len]; exact hdl)
        rw [lkI_get _ hdl] at hcell
        obtain ⟨rr, hrr⟩ : ∃ rr, rr = C.lk.getD hd 0 := ⟨_, rfl⟩
        rw [← hrr] at hcell
        have hr5 : rr < 5 := by
          rw [hrr]
          apply hO.top
          have e : C.lk.getD hd 0 = C.lk[hd] := by simp [List.getD, List.getElem?_eq_getElem hdl]
          rw [e]; exact List.getElem_mem hdl
        have hr5' : (rr : Int) < 5 := by omega
        obtain ⟨Z, hZ⟩ : ∃ Z : Int, Z = 2 * (rr : Int) := ⟨_, rfl⟩
        have hdv : IntKind.i64.wrap (Z.tdiv 2) = rr := by rw [IntKind.wrap_i64, hZ, Int.mul_tdiv_cancel_left _ (by omega)]; omega
        have hdv2 : Z.tdiv 2 = rr := by rw [hZ, Int.mul_tdiv_cancel_left _ (by omega)]
        rw [← hZ] at hcell
        have hql := H.out.2.2.2.1
        obtain ⟨A, hA⟩ : ∃ A, A = Q.getD (rr * 2 + 1) 0 := ⟨_, rfl⟩
        have cq := hQb.cell (i := rr * 2 + 1) (v := .int .i64 A) (by rw [ivs_get Q _ (by omega), hA]; simp [List.getD, List.getElem?_eq_getElem (show rr * 2 + 1 < Q.length by omega)])
        have hd2 : (hd : Int) < nl := by omega
        have h1a : ((hd : Int) == (nl : Int)) = false := beq_eq_false_iff_ne.2 h1'
        have HR2 : Hid (C.rdy Q ↔ (hd = nl ∨ C.ask = false ∨ A = pc)) := by rw [hA, hrr]; exact hrd
        subst ha
        by_cases h2 : C.ask = false
        · rw [h2] at c3
          clear hhl hseg hO hB hg hmem hC hK hno hlv hQb hrd hnl hhd hxb hpc hjx HC HR HR2 hrr hZ hA hql h2
          go_wp2_with fail
          go_quiet (fail)
          go_wp2
          go_ret
          exact ⟨rfl, (HK.out.1.alloc _).drewN _⟩
        · have h2' : C.ask = true := by simpa using h2
          rw [h2'] at c3
          have HAs : Hid (C.ask = true) := h2'
          by_cases h3 : A = pc
          · subst h3
            clear hhl hseg hO hB hg hmem hC hK hno hlv hQb hrd hnl hhd hxb hpc hjx HC HR HR2 hrr hZ hA hql h2 h2'
            go_wp2_with fail
            obtain ⟨W1, hW1⟩ : ∃ W1, W1 = wr.alloc (.cells #[.pointer (some ⟨xb, 0, none⟩), .slice (some ⟨ga, oa, none⟩) nl cl, .int .i64 (hd : Int), .bool true, .int .i64 A] 54) := ⟨_, rfl⟩
            have hBn := Blk.new wr #[.pointer (some ⟨xb, 0, none⟩), .slice (some ⟨ga, oa, none⟩) nl cl, .int .i64 (hd : Int), .bool true, .int .i64 A] 54
            have hKn : Keeps (fun _ => False) wr W1 := by rw [hW1]; exact (Keeps.refl _ _).alloc _
            rw [← hW1] at hBn ⊢
            have e1 := hBn.cell (i := 1) rfl
            have e2 := hBn.cell (i := 2) rfl
            have e3 := hBn.cell (i := 3) rfl
            have e4 := hBn.cell (i := 4) rfl
            have hc1 := cell_kept hcell hKn (fun e => e)
            have cq1 := cell_kept cq hKn (fun e => e)
            have HKn : Hid (Keeps (fun _ => False) w W1) := HK.out.1.trans hKn fun _ _ e => e
            clear hW1 hBn hKn c0 c1 c2 c3 c4 hcell cq
            go_quiet (fail)
            go_wp2
            go_ret
            exact ⟨rfl, HKn.out.drewN _⟩
          · have h3a : (A == pc) = false := beq_eq_false_iff_ne.2 h3
            have HN : Hid (¬ hd = nl ∧ ¬ A = pc) := ⟨h1, h3⟩
            clear hhl hseg hO hB hg hmem hC hK hno hlv hQb hrd hnl hhd hxb hpc hjx HR hrr hZ hA hql h2 h2'
            go_wp2_with fail
            obtain ⟨W1, hW1⟩ : ∃ W1, W1 = wr.alloc (.cells #[.pointer (some ⟨xb, 0, none⟩), .slice (some ⟨ga, oa, none⟩) nl cl, .int .i64 (hd : Int), .bool true, .int .i64 pc] 54) := ⟨_, rfl⟩
            have hBn := Blk.new wr #[.pointer (some ⟨xb, 0, none⟩), .slice (some ⟨ga, oa, none⟩) nl cl, .int .i64 (hd : Int), .bool true, .int .i64 pc] 54
            have hKn : Keeps (fun _ => False) wr W1 := by rw [hW1]; exact (Keeps.refl _ _).alloc _
            rw [← hW1] at hBn ⊢
            have e1 := hBn.cell (i := 1) rfl
            have e2 := hBn.cell (i := 2) rfl
            have e3 := hBn.cell (i := 3) rfl
            have e4 := hBn.cell (i := 4) rfl
            have hc1 := cell_kept hcell hKn (fun e => e)
            have cq1 := cell_kept cq hKn (fun e => e)
            have HKn : Hid (Keeps (fun _ => False) w W1) := HK.out.1.trans hKn fun _ _ e => e
            clear hW1 hBn hKn c0 c1 c2 c3 c4 hcell cq
            go_quiet (fail)
            go_wp2
            go_roundw
            case rel =>
              refine ⟨j + 1, by omega, by go_num, HKn.out.drewN _, fun i D hi hD => ?_⟩
              by_cases e : i < j
              · exact HK.out.2 i D e hD
              · obtain rfl : i = j := by omega
                rw [HC.out] at hD
                cases hD
                intro hq
                rcases HR2.out.1 hq with h | h | h
                · exact HN.out.1 h
                · rw [HAs.out] at h; cases h
                · exact HN.out.2 h
            case measure => simp [intOf]; omega
    · obtain rfl : j = n := by omega
      exfalso
      obtain ⟨C, hC, hrd⟩ := H.out.2.2.2.2.2.2.1
      obtain ⟨i, hi⟩ := List.getElem?_of_mem hC
      have hil := (List.getElem?_eq_some_iff.1 hi).1
      exact hno i C (by have := H.out.2.2.2.2.2.2.2; omega) hi hrd

end Go.Proofs.Ytadhldpeklkcmaa
