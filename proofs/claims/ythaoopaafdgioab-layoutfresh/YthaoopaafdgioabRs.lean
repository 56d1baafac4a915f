import Derived.Test.YthaoopaafdgioabRp
import Derived.Handy
namespace Go.Proofs.Ythaoopaafdgioab
open Go.RowKit
set_option linter.unusedVariables false
set_option linter.unusedSimpArgs false
set_option maxRecDepth 6000

theorem portsOf_more {b : Bool} {n : Int} {p : Nat} {l : List Prt} {j : Nat} (m : Nat) {d : Dst} {t : List Dst} (h : portsOf b n p l j = d :: t) (hm : j + m ≤ l.length) : ∃ t, portsOf b n p l (j + m) = d :: t := by
  induction m with
  | zero => exact ⟨t, h⟩
  | succ m ih =>
    obtain ⟨t', h'⟩ := ih (by omega)
    rw [← Nat.add_assoc, portsOf_succ (List.getElem?_eq_getElem (show j + m < l.length by omega)), h']
    exact ⟨_, rfl⟩
theorem portsOf_head {b : Bool} {n : Int} {p : Nat} {l : List Prt} {j : Nat} {y : Prt} (h0 : portsOf b n p l j = []) (hy : l[j]? = some y) (h1 : y.ch = n) (h2 : y.src = b) : ∃ t, portsOf b n p l l.length = ⟨p, j, 0⟩ :: t := by
  have hj : j < l.length := (List.getElem?_eq_some_iff.1 hy).1
  have h3 := portsOf_yes (p := p) hy h1 h2
  rw [h0, List.nil_append] at h3
  obtain ⟨t, h4⟩ := portsOf_more (l.length - (j + 1)) h3 (by omega)
  rw [show j + 1 + (l.length - (j + 1)) = l.length by omega] at h4
  exact ⟨t, h4⟩
theorem endsL_head {b : Bool} {n : Int} {ps : List Par} {i : Nat} {P : Par} {d : Dst} {t : List Dst} (h0 : endsL b n ps i = []) (hP : ps[i]? = some P) (h1 : portsOf b n i P.ps P.ps.length = d :: t) : ∃ t, endsL b n ps ps.length = d :: t := by
  have hi : i < ps.length := (List.getElem?_eq_some_iff.1 hP).1
  have h3 : endsL b n ps (i + 1) = d :: t := by rw [endsL_succ hP, h0, h1]; rfl
  have : ∀ m, i + 1 + m ≤ ps.length → ∃ t, endsL b n ps (i + 1 + m) = d :: t := by
    intro m
    induction m with
    | zero => intro _; exact ⟨t, h3⟩
    | succ m ih =>
      intro hm
      obtain ⟨t', h'⟩ := ih (by omega)
      rw [← Nat.add_assoc, endsL_succ (List.getElem?_eq_getElem (show i + 1 + m < ps.length by omega)), h']
      exact ⟨_, rfl⟩
  obtain ⟨t', h'⟩ := this (ps.length - (i + 1)) (by omega)
  rw [show i + 1 + (ps.length - (i + 1)) = ps.length by omega] at h'
  exact ⟨t', h'⟩

set_option maxHeartbeats 4000000 in
theorem source_any (x : Cfg) (n : Int) (s : Dst) (t : List Dst) (hs : endsL true n x.ps x.ps.length = s :: t) (w : World) (N : Nat) (hi : x.In w N) (hN : N ≤ w.heap.size) :
    Calls Try.prog 17 #[x.v, .int .i64 n] w fun e w' => e = .returned (.tuple #[.int .i64 s.p, .int .i64 s.q]) ∧ Keeps (fun _ => False) w w' := by
  obtain ⟨W, hW⟩ : ∃ W, W = x.laid w := ⟨_, rfl⟩
  obtain ⟨C, hC⟩ : ∃ C, C = w.heap.size := ⟨_, rfl⟩
  have HO : Hid (One w x C N W) := by rw [hW, hC]; exact One.mk' hi hN
  obtain ⟨L, hL⟩ : ∃ L, x.ps.length = L := ⟨_, rfl⟩
  have HL : Hid (x.ps.length = L ∧ endsL true n x.ps L = s :: t) := ⟨hL, by rw [← hL]; exact hs⟩
  have hpc : (L : Int) ≤ x.pc ∧ (x.pc : Int) ≤ 9223372036854775807 := by have := hi.plen; unfold maxLen at this; omega
  have c5 : W.cell? ⟨C, 5, none⟩ = some (.slice x.pa L x.pc) := by have := HO.out.cfg.cell (i := 5) rfl; rw [← hL]; exact this
  clear hi hN hs
  unfold Cfg.v
  unfold Cfg.laid at hW
  simp only [hL] at hW ⊢
  clear hL
  go_enter Try.func17, Try.ntmps17
  go_upto_region 1 with fail
  rw [← hW, ← hC]
  clear hW hC
  go_wp2
  clear c5
  go_loopw [11] (fun i wr => ∃ j : Nat, j ≤ L ∧ i = .int .i64 j ∧ One w x C N wr ∧ endsL true n x.ps j = []) (fun i _ => L - (intOf i).toNat)
  case atStart => exact ⟨0, by omega, rfl, HO.out, rfl⟩
  case round =>
    obtain ⟨j, hj, rfl, hO, he⟩ := hrel
    by_cases hlt : j < L
    · have hlt' : (j : Int) < L := by omega
      obtain ⟨P, hP⟩ : ∃ P, x.ps[j]? = some P := ⟨_, List.getElem?_eq_getElem (by have := HL.out.1; omega)⟩
      have hin := hO.cin.pin P (List.mem_of_getElem? hP)
      obtain ⟨g0, o0, ea, hg0⟩ := hO.cin.pseg.at hP
      have c5 : wr.cell? ⟨C, 5, none⟩ = some (.slice x.pa L x.pc) := by have := hO.cfg.cell (i := 5) rfl; rw [← HL.out.1]; exact this
      have p7 := hg0 7 _ rfl
      rw [ea] at c5
      obtain ⟨Q, hQ⟩ : ∃ Q, P.ps.length = Q := ⟨_, rfl⟩
      rw [hQ] at p7
      have hqc : (Q : Int) ≤ P.pc ∧ (P.pc : Int) ≤ 9223372036854775807 := by have := hin.plen; unfold maxLen at this; omega
      obtain ⟨ppa, hppa⟩ : ∃ a, P.pa = a := ⟨_, rfl⟩
      obtain ⟨ppc, hppc⟩ : ∃ a, P.pc = a := ⟨_, rfl⟩
      rw [hppa, hppc] at p7
      rw [hppc] at hqc
      have HR : Hid (One w x C N wr ∧ endsL true n x.ps j = [] ∧ x.ps[j]? = some P ∧ P.ps.length = Q ∧ P.pa = ppa ∧ x.pa = some ⟨g0, o0, none⟩ ∧ P.pc = ppc ∧ j < L) := ⟨hO, he, hP, hQ, hppa, ea, hppc, hlt⟩
      clear hO he hP hin hg0 ea hQ hppa hppc hj hlt
      obtain ⟨wz, hwz⟩ : ∃ wz, wz = wr := ⟨_, rfl⟩
      subst hwz
      go_wp2
      clear c5 p7
      go_loopw [21] (fun i wr => ∃ q : Nat, q ≤ Q ∧ i = .int .i64 q ∧ wr = wz ∧ portsOf true n j P.ps q = []) (fun i _ => Q - (intOf i).toNat)
      case atStart => exact ⟨0, by omega, rfl, rfl, rfl⟩
      case round =>
        obtain ⟨q, hq, rfl, rfl, he⟩ := hrel
        by_cases hql : q < Q
        · have hql' : (q : Int) < Q := by omega
          obtain ⟨hO, he0, hP, hQ, hppa, ea, hppc, hjl⟩ := HR.out
          obtain ⟨y, hy⟩ : ∃ y, P.ps[q]? = some y := ⟨_, List.getElem?_eq_getElem (by omega)⟩
          have hin := hO.cin.pin P (List.mem_of_getElem? hP)
          obtain ⟨g0', o0', ea', hg0⟩ := hO.cin.pseg.at hP
          rw [ea] at ea'
          cases ea'
          have c5 : wr.cell? ⟨C, 5, none⟩ = some (.slice (some ⟨g0, o0, none⟩) L x.pc) := by have := hO.cfg.cell (i := 5) rfl; rw [← HL.out.1, ← ea]; exact this
          have p7 := hg0 7 _ rfl
          rw [hQ, hppa, hppc] at p7
          obtain ⟨g1, o1, e1, hg1⟩ := hin.pseg.at hy
          rw [hppa] at e1
          rw [e1] at p7
          have y0 := hg1 0 _ rfl
          rw [Nat.add_zero] at y0
          have y1 := hg1 1 _ rfl
          have HY : Hid (P.ps[q]? = some y ∧ portsOf true n j P.ps q = [] ∧ q < Q) := ⟨hy, he, hql⟩
          clear hO he0 hP hQ hppa ea hppc hin hg0 e1 hg1 hy he hq hql
          obtain ⟨ch, sr⟩ := y
          dsimp only at y0 y1
          by_cases hc : ch = n
          · subst hc
            cases sr with
            | true =>
              have HF : Hid (s = ⟨j, q, 0⟩) := by
                obtain ⟨t1, h1⟩ := portsOf_head HY.out.2.1 HY.out.1 rfl rfl
                obtain ⟨t2, h2⟩ := endsL_head HR.out.2.1 HR.out.2.2.1 h1
                rw [HL.out.1, HL.out.2] at h2
                exact (List.cons.inj h2).1
              go_wp2
              go_returns
              rw [HF.out]
              exact ⟨rfl, HR.out.1.keeps⟩
            | false =>
              have HP : Hid (_ = _) := portsOf_no (p := j) (n := ch) (b := true) HY.out.1 (fun h => by cases h.2)
              go_wp2
              go_roundw
              case rel => exact ⟨q + 1, by have := HY.out.2.2; omega, by go_num, trivial, by rw [HP.out]; exact HY.out.2.1⟩
              case measure => have := HY.out.2.2; simp [intOf]; omega
          · have HP : Hid (_ = _) := portsOf_no (p := j) (n := n) (b := true) HY.out.1 (fun h => hc h.1)
            have e1 : (ch == n) = false := by simp [hc]
            clear hc
            go_wp2
            go_roundw
            case rel => exact ⟨q + 1, by have := HY.out.2.2; omega, by go_num, trivial, by rw [HP.out]; exact HY.out.2.1⟩
            case measure => have := HY.out.2.2; simp [intOf]; omega
        · obtain rfl : Q = q := by omega
          have HE : Hid (endsL true n x.ps (j + 1) = []) := by
            show _ = _
            rw [endsL_succ HR.out.2.2.1, HR.out.2.1, HR.out.2.2.2.1, he]; rfl
          clear he
          go_wp2
          go_roundw
          case rel => exact ⟨j + 1, by have := HR.out.2.2.2.2.2.2.2; omega, by go_num, HR.out.1, HE.out⟩
          case measure => have := HR.out.2.2.2.2.2.2.2; simp [intOf]; omega
    · obtain rfl : L = j := by omega
      rw [HL.out.2] at he
      cases he

end Go.Proofs.Ythaoopaafdgioab
