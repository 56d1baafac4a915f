import Derived.Test.YthaoopaafdgioabAp
import Derived.Test.YthaoopaafdgioabCn
namespace Go.Proofs.Ythaoopaafdgioab
open Go.RowKit
set_option linter.unusedVariables false
set_option maxRecDepth 6000

/-- The first ports of a partition that are a channel's ends of this kind. -/
def portsOf (b : Bool) (n : Int) (p : Nat) (l : List Prt) (j : Nat) : List Dst :=
  (List.range j).filterMap fun q => match l[q]? with | some y => if y.ch = n ∧ y.src = b then some ⟨p, q, 0⟩ else none | none => none
def endsL (b : Bool) (n : Int) (ps : List Par) (i : Nat) : List Dst :=
  (List.range i).flatMap fun p => match ps[p]? with | some P => portsOf b n p P.ps P.ps.length | none => []
theorem portsOf_succ {b : Bool} {n : Int} {p : Nat} {l : List Prt} {j : Nat} {y : Prt} (hy : l[j]? = some y) : portsOf b n p l (j + 1) = portsOf b n p l j ++ (if y.ch = n ∧ y.src = b then [⟨p, j, 0⟩] else []) := by
  unfold portsOf
  rw [List.range_succ, List.filterMap_append]
  congr 1
  simp only [List.filterMap_cons, hy, List.filterMap_nil]
  split <;> simp_all
theorem portsOf_yes {b : Bool} {n : Int} {p : Nat} {l : List Prt} {j : Nat} {y : Prt} (hy : l[j]? = some y) (h1 : y.ch = n) (h2 : y.src = b) : portsOf b n p l (j + 1) = portsOf b n p l j ++ [⟨p, j, 0⟩] := by
  rw [portsOf_succ hy, if_pos ⟨h1, h2⟩]
theorem portsOf_no {b : Bool} {n : Int} {p : Nat} {l : List Prt} {j : Nat} {y : Prt} (hy : l[j]? = some y) (h : ¬ (y.ch = n ∧ y.src = b)) : portsOf b n p l (j + 1) = portsOf b n p l j := by
  rw [portsOf_succ hy, if_neg h, List.append_nil]
theorem endsL_succ {b : Bool} {n : Int} {ps : List Par} {i : Nat} {P : Par} (hP : ps[i]? = some P) : endsL b n ps (i + 1) = endsL b n ps i ++ portsOf b n i P.ps P.ps.length := by
  unfold endsL
  rw [List.range_succ, List.flatMap_append]
  simp [hP]
theorem portsOf_len (b : Bool) (n : Int) (p : Nat) (l : List Prt) (j : Nat) : (portsOf b n p l j).length ≤ j := by
  unfold portsOf
  have := List.length_filterMap_le (fun q => match l[q]? with | some y => if y.ch = n ∧ y.src = b then some (⟨p, q, 0⟩ : Dst) else none | none => none) (List.range j)
  simpa using this
theorem endsL_len {b : Bool} {n : Int} {ps : List Par} (h : ∀ P ∈ ps, P.ps.length ≤ 8) (i : Nat) : (endsL b n ps i).length ≤ 8 * i := by
  induction i with
  | zero => simp [endsL]
  | succ i ih =>
    by_cases hi : i < ps.length
    · have hP : ps[i]? = some ps[i] := List.getElem?_eq_getElem hi
      rw [endsL_succ hP, List.length_append]
      have h1 := portsOf_len b n i ps[i].ps ps[i].ps.length
      have h2 := h ps[i] (List.getElem_mem hi)
      omega
    · have : endsL b n ps (i + 1) = endsL b n ps i := by
        unfold endsL
        rw [List.range_succ, List.flatMap_append]
        simp [List.getElem?_eq_none (Nat.le_of_not_lt hi)]
      rw [this]; omega

/-- The ends of a channel were told: two rows. -/
def EndsP (w : World) (n : Int) (ps : List Par) (e : Ending) (w' : World) : Prop :=
  ∃ u v, e = .returned (.tuple #[u, v]) ∧ Two w' w.heap.size u v (endsL true n ps ps.length) (endsL false n ps ps.length) ∧ Keeps (fun _ => False) w w'

set_option maxHeartbeats 2000000 in
theorem ends_any (x : Cfg) (n : Int) (w : World) (N : Nat) (hi : x.In w N) (hN : N ≤ w.heap.size) (hm : x.ps.length ≤ 8 ∧ ∀ P ∈ x.ps, P.ps.length ≤ 8) :
    Calls Try.prog 49 #[x.v, .int .i64 n] w (EndsP w n x.ps) := by
  obtain ⟨f, mj, kn, rm, ca, cc, cs, pa, pc, ps, qa, qc, qs⟩ := x
  have HO := One.mk' hi hN
  obtain ⟨W, hW⟩ : ∃ W, W = Cfg.laid w ⟨f, mj, kn, rm, ca, cc, cs, pa, pc, ps, qa, qc, qs⟩ := ⟨_, rfl⟩
  have hsz : w.heap.size + 1 ≤ W.heap.size := by rw [hW]; simp [Cfg.laid]
  obtain ⟨C, hC⟩ : ∃ C, C = w.heap.size := ⟨_, rfl⟩
  rw [← hW, ← hC] at HO
  have HO : Hid (One w ⟨f, mj, kn, rm, ca, cc, cs, pa, pc, ps, qa, qc, qs⟩ C N W ∧ C = w.heap.size ∧ C + 1 ≤ W.heap.size) := ⟨HO, hC, by rw [hC]; exact hsz⟩
  obtain ⟨L, hL⟩ : ∃ L, ps.length = L := ⟨_, rfl⟩
  dsimp only at hm
  have HL : Hid (ps.length = L ∧ L ≤ 8 ∧ ∀ P ∈ ps, P.ps.length ≤ 8) := ⟨hL, by rw [← hL]; exact hm.1, hm.2⟩
  have hcc : (L : Int) ≤ pc ∧ (pc : Int) ≤ 9223372036854775807 := by have := hi.plen; unfold maxLen at this; dsimp only at this; omega
  simp only [Cfg.v, Cfg.laid, hL] at hW ⊢
  have c5 : W.cell? ⟨C, 5, none⟩ = some (.slice pa L pc) := by have := HO.out.1.cfg.cell (i := 5) rfl; rw [← hL]; exact this
  clear hi hN hL hm hsz
  go_enter Try.func49, Try.ntmps49
  go_upto_region 1 with fail
  rw [← hW, ← hC]
  clear hW hC
  go_wp2
  go_loopw [4, 5, 14] (fun u v i wr => ∃ j : Nat, j ≤ L ∧ i = .int .i64 j ∧ Two wr (C + 1) u v (endsL true n ps j) (endsL false n ps j) ∧ One w ⟨f, mj, kn, rm, ca, cc, cs, pa, pc, ps, qa, qc, qs⟩ C N wr ∧ C + 1 ≤ wr.heap.size) (fun _ _ i _ => L - (intOf i).toNat)
  case atStart => exact ⟨0, by omega, rfl, Two.nil _ _, HO.out.1, HO.out.2.2⟩
  case round =>
    obtain ⟨k, hk, rfl, hT, hO, hlo⟩ := hrel
    clear c5
    by_cases hlt : k < L
    · obtain ⟨X, hX⟩ : ∃ X, ps[k]? = some X := ⟨_, List.getElem?_eq_getElem (by have := HL.out.1; omega)⟩
      obtain ⟨g0, o0, e, hc⟩ := hO.cin.par hX
      dsimp only at e
      subst e
      obtain ⟨wz, hwz⟩ : ∃ wz, wz = wr := ⟨_, rfl⟩
      subst hwz
      have hXi := hO.cin.pin X (List.mem_of_getElem? hX)
      have p0 := hc 0 _ rfl
      rw [Nat.add_zero] at p0
      have p1 := hc 1 _ rfl
      have p2 := hc 2 _ rfl
      have p3 := hc 3 _ rfl
      have p4 := hc 4 _ rfl
      have p5 := hc 5 _ rfl
      have p6 := hc 6 _ rfl
      have p7 := hc 7 _ rfl
      obtain ⟨XL, hXL⟩ : ∃ XL, X.ps.length = XL := ⟨_, rfl⟩
      obtain ⟨RL, hRL⟩ : ∃ RL, X.rs.length = RL := ⟨_, rfl⟩
      rw [hXL] at p7
      rw [hRL] at p6
      have hxc : (XL : Int) ≤ X.pc ∧ (X.pc : Int) ≤ 9223372036854775807 := by have := hXi.plen; unfold maxLen at this; omega
      have h8 : XL ≤ 8 := by rw [← hXL]; exact HL.out.2.2 X (List.mem_of_getElem? hX)
      obtain ⟨W1, hW1⟩ : ∃ W1, W1 = wz.alloc (.cells #[.string X.name, .int .i64 X.entry, .int .i64 X.action, .int .i64 X.restarts, .int .i64 X.inputs, .int .i64 X.outputs, .slice X.ra RL X.rc, .slice X.pa XL X.pc] 52) := ⟨_, rfl⟩
      obtain ⟨D, hD⟩ : ∃ D, D = wz.heap.size := ⟨_, rfl⟩
      have HK : Hid (Two W1 (C + 1) u4 u5 (endsL true n ps k) (endsL false n ps k) ∧ One w ⟨f, mj, kn, rm, ca, cc, cs, some ⟨g0, o0, none⟩, pc, ps, qa, qc, qs⟩ C N W1 ∧ C + 1 ≤ W1.heap.size ∧ ps[k]? = some X ∧ X.ps.length = XL) := by
        rw [hW1]; exact ⟨hT.grow ((Keeps.refl _ _).alloc _), hO.kept ((Keeps.refl _ _).alloc _), by simp; omega, hX, hXL⟩
      have d7 : W1.cell? ⟨D, 7, none⟩ = some (.slice X.pa XL X.pc) := by rw [hW1, hD]; exact (Blk.new wz _ _).cell rfl
      clear hT hO hlo hX hXL hRL hXi hc
      go_upto_region 4 with fail
      rw [← hW1, ← hD]
      clear hW1 hD p0 p1 p2 p3 p4 p5 p6 p7
      go_wp2
      go_loopw [4, 5, 22] (fun u v i wr => ∃ j : Nat, j ≤ XL ∧ i = .int .i64 j ∧ Two wr (C + 1) u v (endsL true n ps k ++ portsOf true n k X.ps j) (endsL false n ps k ++ portsOf false n k X.ps j) ∧ One w ⟨f, mj, kn, rm, ca, cc, cs, some ⟨g0, o0, none⟩, pc, ps, qa, qc, qs⟩ C N wr ∧ C + 1 ≤ wr.heap.size) (fun _ _ i _ => XL - (intOf i).toNat)
      case atStart => exact ⟨0, by omega, rfl, by simpa [portsOf] using HK.out.1, HK.out.2.1, HK.out.2.2.1⟩
      case round =>
        obtain ⟨j, hj, rfl, hT, hO, hlo⟩ := hrel
        clear d7
        by_cases hlj : j < XL
        · obtain ⟨y, hy⟩ : ∃ y, X.ps[j]? = some y := ⟨_, List.getElem?_eq_getElem (by have := HK.out.2.2.2.2; omega)⟩
          have hXi := hO.cin.pin X (List.mem_of_getElem? HK.out.2.2.2.1)
          obtain ⟨g1, o1, ha1, hg1⟩ := hXi.pseg.at hy
          have y0 := hg1 0 _ rfl
          rw [Nat.add_zero] at y0
          have y1 := hg1 1 _ rfl
          have hlenT : (endsL true n ps k ++ portsOf true n k X.ps j).length < 256 := by
            have h1 := endsL_len (b := true) (n := n) HL.out.2.2 k
            have h2 := portsOf_len true n k X.ps j
            rw [List.length_append]; have := HL.out.2.1; omega
          have hlenF : (endsL false n ps k ++ portsOf false n k X.ps j).length < 256 := by
            have h1 := endsL_len (b := false) (n := n) HL.out.2.2 k
            have h2 := portsOf_len false n k X.ps j
            rw [List.length_append]; have := HL.out.2.1; omega
          obtain ⟨ch, src⟩ := y
          dsimp only at y0 y1
          obtain ⟨W2, hW2⟩ : ∃ W2, W2 = wr.alloc (.cells #[.int .i64 ch, .bool src] 76) := ⟨_, rfl⟩
          obtain ⟨D2, hD2⟩ : ∃ D, D = wr.heap.size := ⟨_, rfl⟩
          have HJ : Hid (Two W2 (C + 1) u4 u5 (endsL true n ps k ++ portsOf true n k X.ps j) (endsL false n ps k ++ portsOf false n k X.ps j) ∧ One w ⟨f, mj, kn, rm, ca, cc, cs, some ⟨g0, o0, none⟩, pc, ps, qa, qc, qs⟩ C N W2 ∧ C + 1 ≤ W2.heap.size ∧ X.ps[j]? = some ⟨ch, src⟩ ∧ Blk W2 D2 [.int .i64 ch, .bool src] 76) := by
            rw [hW2, hD2]; exact ⟨hT.grow ((Keeps.refl _ _).alloc _), hO.kept ((Keeps.refl _ _).alloc _), by simp; omega, hy, Blk.new _ _ _⟩
          clear hT hO hlo hy hXi hg1
          rw [ha1]
          clear ha1
          go_upto_region 7 with fail
          rw [← hW2, ← hD2]
          clear hW2 hD2 y0 y1
          have d0 := HJ.out.2.2.2.2.cell (i := 0) rfl
          have d1 := HJ.out.2.2.2.2.cell (i := 1) rfl
          by_cases hch : ch = n
          · subst hch
            obtain ⟨W3, hW3⟩ : ∃ W3, W3 = W2.alloc (.cells #[.int .i64 k, .int .i64 j, .int .i64 0] 72) := ⟨_, rfl⟩
            obtain ⟨D3, hD3⟩ : ∃ D, D = W2.heap.size := ⟨_, rfl⟩
            have HJ3 : Hid (Two W3 (C + 1) u4 u5 (endsL true ch ps k ++ portsOf true ch k X.ps j) (endsL false ch ps k ++ portsOf false ch k X.ps j) ∧ One w ⟨f, mj, kn, rm, ca, cc, cs, some ⟨g0, o0, none⟩, pc, ps, qa, qc, qs⟩ C N W3 ∧ C + 1 ≤ W3.heap.size ∧ Blk W3 D3 [.int .i64 k, .int .i64 j, .int .i64 0] 72) := by
              rw [hW3, hD3]; exact ⟨HJ.out.1.grow ((Keeps.refl _ _).alloc _), HJ.out.2.1.kept ((Keeps.refl _ _).alloc _), by have := HJ.out.2.2.1; simp; omega, Blk.new _ _ _⟩
            have e1 : W3.cell? ⟨D2, 1, none⟩ = some (.bool src) := by rw [hW3]; exact (HJ.out.2.2.2.2.alloc _).cell rfl
            go_upto_region 9 with fail
            rw [← hW3, ← hD3]
            clear hW3 hD3 d0 d1
            have z0 := HJ3.out.2.2.2.cell (i := 0) rfl
            have z1 := HJ3.out.2.2.2.cell (i := 1) rfl
            have z2 := HJ3.out.2.2.2.cell (i := 2) rfl
            cases src with
            | true =>
              obtain ⟨v', W', happ, hT', hKa⟩ := HJ3.out.1.push ⟨k, j, 0⟩ HJ3.out.2.2.1 hlenT
              have HN : Hid (Two W' (C + 1) v' u5 (endsL true ch ps k ++ portsOf true ch k X.ps (j + 1)) (endsL false ch ps k ++ portsOf false ch k X.ps (j + 1)) ∧ One w ⟨f, mj, kn, rm, ca, cc, cs, some ⟨g0, o0, none⟩, pc, ps, qa, qc, qs⟩ C N W' ∧ C + 1 ≤ W'.heap.size) := by
                rw [portsOf_yes HJ.out.2.2.2.1 rfl rfl, portsOf_no (b := false) HJ.out.2.2.2.1 (by simp), ← List.append_assoc]
                have hCw := HO.out.2.1
                have hn := HJ3.out.2.1.n
                exact ⟨hT', HJ3.out.2.1.kept' hKa (by omega) (fun k hk => by omega) (fun k hk => by omega), Nat.le_trans HJ3.out.2.2.1 hKa.size⟩
              have HAP : Hid (∀ ty, (Builtin.append_ #[61, 61] ty #[u4, .slice (some ⟨W3.heap.size, 0, none⟩) 1 1]).run Try.prog (W3.alloc (.cells #[.int .i64 k, .int .i64 j, .int .i64 0] 72)) = .ok v' W') := happ
              clear happ hT' hKa hlenT hlenF
              go_wp2_with (at_builtin; go_must (refine wpList_append_run rfl (.tmp 36) (.tmp 38) 61 61 rfl u4 (.slice (some ⟨W3.heap.size, 0, none⟩) 1 1) v' W' rfl rfl HAP.out ?_; refine Hid.out ?_))
              unfold Hid
              clear HAP
              go_wp2
              go_roundw
              case rel => exact ⟨j + 1, by omega, by go_num, HN.out.1, HN.out.2.1, HN.out.2.2⟩
              case measure => simp [intOf]; omega
            | false =>
              obtain ⟨v', W', happ, hT', hKa⟩ := HJ3.out.1.swap.push ⟨k, j, 0⟩ HJ3.out.2.2.1 hlenF
              have HN : Hid (Two W' (C + 1) u4 v' (endsL true ch ps k ++ portsOf true ch k X.ps (j + 1)) (endsL false ch ps k ++ portsOf false ch k X.ps (j + 1)) ∧ One w ⟨f, mj, kn, rm, ca, cc, cs, some ⟨g0, o0, none⟩, pc, ps, qa, qc, qs⟩ C N W' ∧ C + 1 ≤ W'.heap.size) := by
                rw [portsOf_yes (b := false) HJ.out.2.2.2.1 rfl rfl, portsOf_no (b := true) HJ.out.2.2.2.1 (by simp), ← List.append_assoc]
                have hCw := HO.out.2.1
                have hn := HJ3.out.2.1.n
                exact ⟨hT'.swap, HJ3.out.2.1.kept' hKa (by omega) (fun k hk => by omega) (fun k hk => by omega), Nat.le_trans HJ3.out.2.2.1 hKa.size⟩
              have HAP : Hid (∀ ty, (Builtin.append_ #[61, 61] ty #[u5, .slice (some ⟨W3.heap.size, 0, none⟩) 1 1]).run Try.prog (W3.alloc (.cells #[.int .i64 k, .int .i64 j, .int .i64 0] 72)) = .ok v' W') := happ
              clear happ hT' hKa hlenT hlenF
              go_wp2_with (at_builtin; go_must (refine wpList_append_run rfl (.tmp 40) (.tmp 42) 61 61 rfl u5 (.slice (some ⟨W3.heap.size, 0, none⟩) 1 1) v' W' rfl rfl HAP.out ?_; refine Hid.out ?_))
              unfold Hid
              clear HAP
              go_wp2
              go_roundw
              case rel => exact ⟨j + 1, by omega, by go_num, HN.out.1, HN.out.2.1, HN.out.2.2⟩
              case measure => simp [intOf]; omega
          · have hne : (ch == n) = false := by simp [hch]
            have hne' : (ch != n) = true := by simp [hch]
            have HN : Hid (portsOf true n k X.ps (j + 1) = portsOf true n k X.ps j ∧ portsOf false n k X.ps (j + 1) = portsOf false n k X.ps j) := ⟨portsOf_no HJ.out.2.2.2.1 (fun h => hch h.1), portsOf_no HJ.out.2.2.2.1 (fun h => hch h.1)⟩
            go_wp2
            go_roundw
            case rel => exact ⟨j + 1, by omega, by go_num, by rw [HN.out.1, HN.out.2]; exact HJ.out.1, HJ.out.2.1, HJ.out.2.2.1⟩
            case measure => simp [intOf]; omega
        · obtain rfl : j = XL := by omega
          have HJ : Hid (Two wr (C + 1) u4 u5 (endsL true n ps (k + 1)) (endsL false n ps (k + 1)) ∧ One w ⟨f, mj, kn, rm, ca, cc, cs, some ⟨g0, o0, none⟩, pc, ps, qa, qc, qs⟩ C N wr ∧ C + 1 ≤ wr.heap.size) := by
            rw [endsL_succ HK.out.2.2.2.1, endsL_succ HK.out.2.2.2.1, HK.out.2.2.2.2]; exact ⟨hT, hO, hlo⟩
          clear hT hO hlo
          go_wp2
          go_roundw
          case rel => exact ⟨k + 1, by omega, by go_num, HJ.out.1, HJ.out.2.1, HJ.out.2.2⟩
          case measure => simp [intOf]; omega
    · obtain rfl : k = L := by omega
      have HJ : Hid (Two wr (C + 1) u4 u5 (endsL true n ps k) (endsL false n ps k) ∧ One w ⟨f, mj, kn, rm, ca, cc, cs, pa, pc, ps, qa, qc, qs⟩ C N wr) := ⟨hT, hO⟩
      clear hT hO hlo
      go_wp2
      go_ret2
      have hl := HL.out.1
      have hCw := HO.out.2.1
      refine ⟨_, _, rfl, ?_, HJ.out.2.keeps⟩
      dsimp only
      rw [hl]
      exact ⟨HJ.out.1.ra.lower' (by omega), HJ.out.1.rb.lower' (by omega), HJ.out.1.dif⟩
end Go.Proofs.Ythaoopaafdgioab
