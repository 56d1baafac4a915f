import Derived.Test.YtfbapgcopidbpaaGreatQf
namespace Go.Proofs.YtfbapgcopidbpaaGreat
open Go.RowKit
set_option linter.unusedVariables false
set_option linter.unusedSimpArgs false
set_option maxRecDepth 6000

def Prt.is (q : Prt) (p : Prt) : Bool := decide (p.ch = q.ch) && (p.src == q.src)
/-- How many ports are like this one. -/
def cntQ (q : Prt) (ps : List Par) : Nat := (ps.flatMap (·.ps)).countP q.is
theorem cntQ_take {q : Prt} {ps : List Par} {k : Nat} {X : Par} (h : ps[k]? = some X) : cntQ q (ps.take (k + 1)) = cntQ q (ps.take k) + X.ps.countP q.is := by
  unfold cntQ
  rw [List.take_add_one, h]
  simp [List.flatMap_append, List.countP_append]
theorem cntQ_le {q : Prt} {ps : List Par} (h : ∀ P ∈ ps, P.ps.length ≤ 1000) : cntQ q ps ≤ ps.length * 1000 := by
  induction ps with
  | nil => simp [cntQ]
  | cons P ps ih =>
    have h1 := ih fun y hy => h y (List.mem_cons_of_mem _ hy)
    have h2 := h P (List.mem_cons_self ..)
    have h3 := List.countP_le_length (l := P.ps) (p := q.is)
    unfold cntQ at h1 ⊢
    simp only [List.flatMap_cons, List.countP_append, List.length_cons]
    omega
theorem countP_take1 {q : Prt} {ps : List Prt} {k : Nat} {X : Prt} (h : ps[k]? = some X) : (ps.take (k + 1)).countP q.is = (ps.take k).countP q.is + (if q.is X then 1 else 0) := by
  rw [List.take_add_one, h]
  simp [List.countP_append, List.countP_cons]

structure CpI (w : World) (x : Cfg) (q : Prt) (C Q N : Nat) (w' : World) : Prop where
  one : One w x C N w'
  lk : Blk w' Q [.int .i64 q.ch, .bool q.src] 116
theorem CpI.kept {w : World} {x : Cfg} {q : Prt} {C Q N : Nat} {w' w'' : World} (h : CpI w x q C Q N w') (hK : Keeps (fun _ => False) w' w'') : CpI w x q C Q N w'' :=
  ⟨h.one.kept hK, h.lk.kept hK fun h => h⟩

set_option maxHeartbeats 4000000 in
theorem countPorts_any (x : Cfg) (q : Prt) (w : World) (N : Nat) (hi : x.In w N) (hN : N ≤ w.heap.size) (hp : x.ps.length ≤ 1000) (hpp : ∀ P ∈ x.ps, P.ps.length ≤ 1000) :
    Calls Tryz.prog 121 #[x.v, q.v] w fun e w' => e = .returned (.int .i64 (cntQ q x.ps : Int)) ∧ Keeps (fun _ => False) w w' := by
  obtain ⟨f, mj, kn, rm, ca, cc, cs, pa, pc, ps, qa, qc, qs⟩ := x
  obtain ⟨ch, src⟩ := q
  dsimp only at hp hpp
  have HO := One.mk' hi hN
  obtain ⟨W0, hW0⟩ : ∃ W0, W0 = Cfg.laid w ⟨f, mj, kn, rm, ca, cc, cs, pa, pc, ps, qa, qc, qs⟩ := ⟨_, rfl⟩
  obtain ⟨C, hC⟩ : ∃ C, C = w.heap.size := ⟨_, rfl⟩
  rw [← hW0, ← hC] at HO
  obtain ⟨W, hW⟩ : ∃ W, W = W0.alloc (.cells #[.int .i64 ch, .bool src] 116) := ⟨_, rfl⟩
  obtain ⟨Q, hQ⟩ : ∃ Q, Q = w.heap.size + 1 := ⟨_, rfl⟩
  have hQ0 : Q = W0.heap.size := by rw [hQ, hW0]; simp [Cfg.laid]
  have HO : Hid (CpI w ⟨f, mj, kn, rm, ca, cc, cs, pa, pc, ps, qa, qc, qs⟩ ⟨ch, src⟩ C Q N W) := by
    rw [hW]; exact ⟨HO.kept ((Keeps.refl _ _).alloc _), by rw [hQ0]; exact Blk.new _ _ _⟩
  obtain ⟨L, hL⟩ : ∃ L, ps.length = L := ⟨_, rfl⟩
  have HL : Hid (ps.length = L ∧ (∀ P ∈ ps, P.ps.length ≤ 1000) ∧ (ps.length ≤ 1000)) := ⟨hL, hpp, hp⟩
  have hcc : (L : Int) ≤ pc ∧ (pc : Int) ≤ 9223372036854775807 := by have := hi.plen; unfold maxLen at this; dsimp only at this; omega
  simp only [Cfg.v, Cfg.laid, hL] at hW0 ⊢
  have c5 : W.cell? ⟨C, 5, none⟩ = some (.slice pa L pc) := by have := HO.out.one.cfg.cell (i := 5) rfl; rw [← hL]; exact this
  clear hi hN hL hp hpp hQ0
  go_enter Tryz.func121, Tryz.ntmps121
  go_upto_region 1 with fail
  rw [← hW0, ← hW, ← hQ, ← hC]
  clear hW hC hW0 hQ
  go_wp2
  go_loopw [5, 13] (fun s i wr => ∃ j : Nat, j ≤ L ∧ i = .int .i64 j ∧ s = .int .i64 (cntQ ⟨ch, src⟩ (ps.take j) : Int) ∧ CpI w ⟨f, mj, kn, rm, ca, cc, cs, pa, pc, ps, qa, qc, qs⟩ ⟨ch, src⟩ C Q N wr) (fun _ i _ => L - (intOf i).toNat)
  case atStart => exact ⟨0, by omega, rfl, rfl, HO.out⟩
  case round =>
    obtain ⟨k, hk, rfl, rfl, hO⟩ := hrel
    clear c5
    by_cases hlt : k < L
    · obtain ⟨X, hX⟩ : ∃ X, ps[k]? = some X := ⟨_, List.getElem?_eq_getElem (by have := HL.out.1; omega)⟩
      obtain ⟨g0, o0, e, hc⟩ := hO.one.cin.par hX
      dsimp only at e
      subst e
      obtain ⟨wz, hwz⟩ : ∃ wz, wz = wr := ⟨_, rfl⟩
      subst hwz
      have hXi := hO.one.cin.pin X (List.mem_of_getElem? hX)
      have p0 := hc 0 _ rfl
      rw [Nat.add_zero] at p0
      have p1 := hc 1 _ rfl
      have p2 := hc 2 _ rfl
      have p3 := hc 3 _ rfl
      have p4 := hc 4 _ rfl
      have p5 := hc 5 _ rfl
      have p6 := hc 6 _ rfl
      have p7 := hc 7 _ rfl
      obtain ⟨XL, hXL⟩ : ∃ XL, X.ps.length = XL := ⟨_, rfl⟩
      obtain ⟨RL, hRL⟩ : ∃ RL, X.rs.length = RL := ⟨_, rfl⟩
      rw [hXL] at p7
      rw [hRL] at p6
      have hxc : (XL : Int) ≤ X.pc ∧ (X.pc : Int) ≤ 9223372036854775807 := by have := hXi.plen; unfold maxLen at this; omega
      have hn : cntQ ⟨ch, src⟩ (ps.take k) ≤ 1000000 := by
        have h1 := cntQ_le (q := ⟨ch, src⟩) (ps := ps.take k) fun P hP => HL.out.2.1 P (List.mem_of_mem_take hP)
        have h2 := HL.out.2.2
        rw [List.length_take] at h1
        omega
      have hX1 : XL ≤ 1000 := by have := HL.out.2.1 X (List.mem_of_getElem? hX); omega
      obtain ⟨S, hS⟩ : ∃ S, cntQ ⟨ch, src⟩ (ps.take k) = S := ⟨_, rfl⟩
      rw [hS] at hn ⊢
      obtain ⟨W1, hW1⟩ : ∃ W1, W1 = wz.alloc (.cells #[.string X.name, .int .i64 X.entry, .int .i64 X.action, .int .i64 X.restarts, .int .i64 X.inputs, .int .i64 X.outputs, .slice X.ra RL X.rc, .slice X.pa XL X.pc] 55) := ⟨_, rfl⟩
      obtain ⟨D, hD⟩ : ∃ D, D = wz.heap.size := ⟨_, rfl⟩
      have HK : Hid (CpI w ⟨f, mj, kn, rm, ca, cc, cs, some ⟨g0, o0, none⟩, pc, ps, qa, qc, qs⟩ ⟨ch, src⟩ C Q N W1 ∧ cntQ ⟨ch, src⟩ (ps.take k) = S ∧ ps[k]? = some X ∧ X.ps.length = XL) := by
        rw [hW1]; exact ⟨hO.kept ((Keeps.refl _ _).alloc _), hS, hX, hXL⟩
      have d7 : W1.cell? ⟨D, 7, none⟩ = some (.slice X.pa XL X.pc) := by rw [hW1, hD]; exact (Blk.new wz _ _).cell rfl
      clear hO hX hXL hRL hXi hc hS
      go_upto_region 5 with fail
      rw [← hW1, ← hD]
      clear hW1 hD p0 p1 p2 p3 p4 p5 p6 p7
      go_wp2
      go_loopw [5, 20] (fun s i wr => ∃ j : Nat, j ≤ XL ∧ i = .int .i64 j ∧ s = .int .i64 ((S + (X.ps.take j).countP (Prt.is ⟨ch, src⟩) : Nat) : Int) ∧ CpI w ⟨f, mj, kn, rm, ca, cc, cs, some ⟨g0, o0, none⟩, pc, ps, qa, qc, qs⟩ ⟨ch, src⟩ C Q N wr) (fun _ i _ => XL - (intOf i).toNat)
      case atStart => exact ⟨0, by omega, rfl, rfl, HK.out.1⟩
      case round =>
        obtain ⟨j, hj, rfl, rfl, hO⟩ := hrel
        clear d7
        by_cases hlj : j < XL
        · obtain ⟨y, hy⟩ : ∃ y, X.ps[j]? = some y := ⟨_, List.getElem?_eq_getElem (by have := HK.out.2.2.2; omega)⟩
          have hXi := hO.one.cin.pin X (List.mem_of_getElem? HK.out.2.2.1)
          obtain ⟨g1, o1, ha1, hg1⟩ := hXi.pseg.at hy
          have y0 := hg1 0 _ rfl
          rw [Nat.add_zero] at y0
          have y1 := hg1 1 _ rfl
          obtain ⟨W2, hW2⟩ : ∃ W2, W2 = wr.alloc (.cells #[.int .i64 y.ch, .bool y.src] 116) := ⟨_, rfl⟩
          obtain ⟨G, hG⟩ : ∃ G, G = wr.heap.size := ⟨_, rfl⟩
          have hB1 : Blk W2 G y.vs 116 := by rw [hW2, hG]; exact Blk.new _ _ _
          have d0 := hB1.cell (i := 0) rfl
          have d1 := hB1.cell (i := 1) rfl
          have HJ : Hid (CpI w ⟨f, mj, kn, rm, ca, cc, cs, some ⟨g0, o0, none⟩, pc, ps, qa, qc, qs⟩ ⟨ch, src⟩ C Q N W2) := by
            rw [hW2]; exact hO.kept ((Keeps.refl _ _).alloc _)
          have e0 := HJ.out.lk.cell (i := 0) rfl
          have e1 := HJ.out.lk.cell (i := 1) rfl
          have hT := List.countP_le_length (l := X.ps.take j) (p := Prt.is ⟨ch, src⟩)
          rw [List.length_take] at hT
          have hTT := countP_take1 (q := ⟨ch, src⟩) hy
          obtain ⟨T, hTe⟩ : ∃ T, (X.ps.take j).countP (Prt.is ⟨ch, src⟩) = T := ⟨_, rfl⟩
          rw [hTe] at hT hTT ⊢
          have HT : Hid ((X.ps.take (j + 1)).countP (Prt.is ⟨ch, src⟩) = T + (if Prt.is ⟨ch, src⟩ y then 1 else 0)) := hTT
          have hTb : T ≤ 1000 := by omega
          clear hO hXi hg1 hB1 hy hT hTT hTe
          rw [ha1]
          go_upto_region 8 with fail
          rw [← hW2, ← hG]
          clear hW2 hG y0 y1
          go_wp2
          all_goals
            refine ⟨⟨j + 1, by omega, by go_num, ?_, HJ.out⟩, by simp [intOf]; omega⟩
            rw [HT.out]
            by_cases e1 : y.ch = ch <;> by_cases e2 : y.src = src <;> first | contradiction | (simp [Prt.is, e1, e2] <;> omega)
        · have hjL : j = XL := by omega
          have HJ : Hid (CpI w ⟨f, mj, kn, rm, ca, cc, cs, some ⟨g0, o0, none⟩, pc, ps, qa, qc, qs⟩ ⟨ch, src⟩ C Q N wr) := hO
          have HS2 : Hid (cntQ ⟨ch, src⟩ (ps.take (k + 1)) = S + (X.ps.take j).countP (Prt.is ⟨ch, src⟩)) := by
            refine Hid.mkq ?_
            rw [cntQ_take HK.out.2.2.1, HK.out.2.1, List.take_of_length_le (by rw [HK.out.2.2.2]; omega)]
          clear hO
          obtain ⟨T, hT⟩ : ∃ T, S + (X.ps.take j).countP (Prt.is ⟨ch, src⟩) = T := ⟨_, rfl⟩
          have HS3 : Hid (cntQ ⟨ch, src⟩ (ps.take (k + 1)) = T) := by rw [HS2.out]; exact hT
          rw [hT]
          clear hT HS2
          go_wp2
          go_roundw
          case rel => exact ⟨k + 1, by omega, by go_num, by rw [HS3.out], HJ.out⟩
          case measure => simp [intOf]; omega
    · have hkL : k = L := by omega
      subst hkL
      have HJ : Hid (CpI w ⟨f, mj, kn, rm, ca, cc, cs, pa, pc, ps, qa, qc, qs⟩ ⟨ch, src⟩ C Q N wr) := hO
      clear hO
      rw [List.take_of_length_le (by rw [HL.out.1]; omega)]
      go_wp2
      go_ret
      exact ⟨rfl, HJ.out.one.keeps⟩
end Go.Proofs.YtfbapgcopidbpaaGreat
