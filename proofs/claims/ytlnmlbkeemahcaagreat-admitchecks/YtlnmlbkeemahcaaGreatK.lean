import Derived.Test.YtlnmlbkeemahcaaGreatAp
import Derived.Test.YtlnmlbkeemahcaaGreatCn
namespace Go.Proofs.YtlnmlbkeemahcaaGreat
open Go.RowKit
set_option linter.unusedVariables false
set_option maxRecDepth 6000
def portsOf (b : Bool) (n : Int) (p : Nat) (l : List Prt) (j : Nat) : List Dst :=
 (List.range j).filterMap fun q => match l[q]? with | some y => if y.ch = n ∧ y.src = b then some ⟨p, q, 0⟩ else none | none => none
def endsL (b : Bool) (n : Int) (ps : List Par) (i : Nat) : List Dst :=
 (List.range i).flatMap fun p => match ps[p]? with | some P => portsOf b n p P.ps P.ps.length | none => []
theorem portsOf_succ {b : Bool} {n : Int} {p : Nat} {l : List Prt} {j : Nat} {y : Prt} (hy : l[j]? = some y) : portsOf b n p l (j + 1) = portsOf b n p l j ++ (if y.ch = n ∧ y.src = b then [⟨p, j, 0⟩] else []) := by
 unfold portsOf
 rw [List.range_succ, List.filterMap_append]
 congr 1
 simp only [List.filterMap_cons, hy, List.filterMap_nil]
 split <;> simp_all
theorem portsOf_yes {b : Bool} {n : Int} {p : Nat} {l : List Prt} {j : Nat} {y : Prt} (hy : l[j]? = some y) (h1 : y.ch = n) (h2 : y.src = b) : portsOf b n p l (j + 1) = portsOf b n p l j ++ [⟨p, j, 0⟩] := by
 rw [portsOf_succ hy, if_pos ⟨h1, h2⟩]
theorem portsOf_no {b : Bool} {n : Int} {p : Nat} {l : List Prt} {j : Nat} {y : Prt} (hy : l[j]? = some y) (h : ¬ (y.ch = n ∧ y.src = b)) : portsOf b n p l (j + 1) = portsOf b n p l j := by
 rw [portsOf_succ hy, if_neg h, List.append_nil]
theorem endsL_succ {b : Bool} {n : Int} {ps : List Par} {i : Nat} {P : Par} (hP : ps[i]? = some P) : endsL b n ps (i + 1) = endsL b n ps i ++ portsOf b n i P.ps P.ps.length := by
 unfold endsL
 rw [List.range_succ, List.flatMap_append]
 simp [hP]
theorem portsOf_len (b : Bool) (n : Int) (p : Nat) (l : List Prt) (j : Nat) : (portsOf b n p l j).length ≤ j := by
 unfold portsOf
 have := List.length_filterMap_le (fun q => match l[q]? with | some y => if y.ch = n ∧ y.src = b then some (⟨p, q, 0⟩ : Dst) else none | none => none) (List.range j)
 simpa using this
theorem endsL_len {b : Bool} {n : Int} {ps : List Par} (h : ∀ P ∈ ps, P.ps.length ≤ 8) (i : Nat) : (endsL b n ps i).length ≤ 8 * i := by
 induction i with
 | zero => simp [endsL]
 | succ i ih =>
  by_cases hi : i < ps.length
  ·
   have hP : ps[i]? = some ps[i] := List.getElem?_eq_getElem hi
   rw [endsL_succ hP, List.length_append]
   have h1 := portsOf_len b n i ps[i].ps ps[i].ps.length
   have h2 := h ps[i] (List.getElem_mem hi)
   omega
  ·
   have : endsL b n ps (i + 1) = endsL b n ps i := by
    unfold endsL
    rw [List.range_succ, List.flatMap_append]
    simp [List.getElem?_eq_none (Nat.le_of_not_lt hi)]
   rw [this]; omega
def EndsP (w : World) (n : Int) (ps : List Par) (e : Ending) (w' : World) : Prop :=
 ∃ u v, e = .returned (.tuple #[u, v]) ∧ Two w' w.heap.size u v (endsL true n ps ps.length) (endsL false n ps ps.length) ∧ KF w w'
set_option maxHeartbeats 2000000 in
theorem ends_any (x : Cfg) (n : Int) (w : World) (N : Nat) (hi : x.In w N) (hN : N ≤ w.heap.size) (hm : x.ps.length ≤ 8 ∧ ∀ P ∈ x.ps, P.ps.length ≤ 8) :
  Calls Tryz.prog 139 #[x.v, .int .i64 n] w (EndsP w n x.ps) := by
 obtain ⟨f, mj, kn, rm, ca, cc, cs, pa, pc, ps, qa, qc, qs⟩ := x
 have HO := One.mk' hi hN
 obtain ⟨W, hW⟩ : ∃ W, W = Cfg.laid w ⟨f, mj, kn, rm, ca, cc, cs, pa, pc, ps, qa, qc, qs⟩ := ⟨_, rfl⟩
 have hsz : w.heap.size + 1 ≤ W.heap.size := by rw [hW]; simp [Cfg.laid]
 obtain ⟨C, hC⟩ : ∃ C, C = w.heap.size := ⟨_, rfl⟩
 rw [← hW, ← hC] at HO
 have HO : Hid (One w ⟨f, mj, kn, rm, ca, cc, cs, pa, pc, ps, qa, qc, qs⟩ C N W ∧ C = w.heap.size ∧ C + 1 ≤ W.heap.size) := ⟨HO, hC, by rw [hC]; exact hsz⟩
 obtain ⟨L, hL⟩ : ∃ L, ps.length = L := ⟨_, rfl⟩
 dsimp only at hm
 have HL : Hid (ps.length = L ∧ L ≤ 8 ∧ ∀ P ∈ ps, P.ps.length ≤ 8) := ⟨hL, by rw [← hL]; exact hm.1, hm.2⟩
 have hcc : (L : Int) ≤ pc ∧ (pc : Int) ≤ 9223372036854775807 := by have := hi.plen; unfold maxLen at this; dsimp only at this; omega
 simp only [Cfg.v, Cfg.laid, hL] at hW ⊢
 have c5 : W.cell? ⟨C, 5, none⟩ = some (.slice pa L pc) := by have := HO.out.1.cfg.cell (i := 5) rfl; rw [← hL]; exact this
 clear hi hN hL hm hsz
 go_enter Tryz.func139, Tryz.ntmps139
 go_upto_region 1 with fail
 rw [← hW, ← hC]
 clear hW hC
 go_wp2
 go_loopw [4, 5, 14] (fun u v i wr => ∃ j : Nat, j ≤ L ∧ i = .int .i64 j ∧ Two wr (C + 1) u v (endsL true n ps j) (endsL false n ps j) ∧ One w ⟨f, mj, kn, rm, ca, cc, cs, pa, pc, ps, qa, qc, qs⟩ C N wr ∧ C + 1 ≤ wr.heap.size) (fun _ _ i _ => L - (intOf i).toNat)
 case atStart => exact ⟨0, by omega, rfl, Two.nil _ _, HO.out.1, HO.out.2.2⟩
 case round =>
  obtain ⟨k, hk, rfl, hT, hO, hlo⟩ := hrel
  clear c5
  by_cases hlt : k < L
  ·
   obtain ⟨X, hX⟩ : ∃ X, ps[k]? = some X := ⟨_, List.getElem?_eq_getElem (by have := HL.out.1; omega)⟩
   obtain ⟨g0, o0, e, hc⟩ := hO.cin.par hX
   dsimp only at e
   subst e
   obtain ⟨wz, hwz⟩ : ∃ wz, wz = wr := ⟨_, rfl⟩
   subst hwz
   have hXi := hO.cin.pin X (List.mem_of_getElem? hX)
   have p0 := hc 0 _ rfl
   rw [Nat.add_zero] at p0
   have p1 := hc 1 _ rfl
   have p2 := hc 2 _ rfl
   have p3 := hc 3 _ rfl
   have p4 := hc 4 _ rfl
   have p5 := hc 5 _ rfl
   have p6 := hc 6 _ rfl
   have p7 := hc 7 _ rfl
   obtain ⟨XL, hXL⟩ : ∃ XL, X.ps.length = XL := ⟨_, rfl⟩
   obtain ⟨RL, hRL⟩ : ∃ RL, X.rs.length = RL := ⟨_, rfl⟩
   rw [hXL] at p7
   rw [hRL] at p6
   have hxc : (XL : Int) ≤ X.pc ∧ (X.pc : Int) ≤ 9223372036854775807 := by have := hXi.plen; unfold maxLen at this; omega
   have h8 : XL ≤ 8 := by rw [← hXL]; exact HL.out.2.2 X (List.mem_of_getElem? hX)
   obtain ⟨W1, hW1⟩ : ∃ W1, W1 = wz.alloc (.cells #[.string X.name, .int .i64 X.entry, .int .i64 X.action, .int .i64 X.restarts, .int .i64 X.inputs, .int .i64 X.outputs, .slice X.ra RL X.rc, .slice X.pa XL X.pc] 41) := ⟨_, rfl⟩
   obtain ⟨D, hD⟩ : ∃ D, D = wz.heap.size := ⟨_, rfl⟩
   have HK : Hid (Two W1 (C + 1) u4 u5 (endsL true n ps k) (endsL false n ps k) ∧ One w ⟨f, mj, kn, rm, ca, cc, cs, some ⟨g0, o0, none⟩, pc, ps, qa, qc, qs⟩ C N W1 ∧ C + 1 ≤ W1.heap.size ∧ ps[k]? = some X ∧ X.ps.length = XL) := by
    rw [hW1]; exact ⟨hT.grow ((Keeps.refl _ _).alloc _), hO.kept ((Keeps.refl _ _).alloc _), by simp; omega, hX, hXL⟩
   have d7 : W1.cell? ⟨D, 7, none⟩ = some (.slice X.pa XL X.pc) := by rw [hW1, hD]; exact (Blk.new wz _ _).cell rfl
   clear hT hO hlo hX hXL hRL hXi hc
   go_upto_region 4 with fail
   rw [← hW1, ← hD]
   clear hW1 hD p0 p1 p2 p3 p4 p5 p6 p7
   go_wp2
   go_loopw [4, 5, 22] (fun u v i wr => ∃ j : Nat, j ≤ XL ∧ i = .int .i64 j ∧ Two wr (C + 1) u v (endsL true n ps k ++ portsOf true n k X.ps j) (endsL false n ps k ++ portsOf false n k X.ps j) ∧ One w ⟨f, mj, kn, rm, ca, cc, cs, some ⟨g0, o0, none⟩, pc, ps, qa, qc, qs⟩ C N wr ∧ C + 1 ≤ wr.heap.size) (fun _ _ i _ => XL - (intOf i).toNat)
   case atStart => exact ⟨0, by omega, rfl, by simpa [portsOf] using HK.out.1, HK.out.2.1, HK.out.2.2.1⟩
   case round =>
    obtain ⟨j, hj, rfl, hT, hO, hlo⟩ := hrel
    clear d7
    by_cases hlj : j < XL
    ·
     obtain ⟨y, hy⟩ : ∃ y, X.ps[j]? = some y := ⟨_, List.getElem?_eq_getElem (by have := HK.out.2.2.2.2; omega)⟩
     have hXi := hO.cin.pin X (List.mem_of_getElem? HK.out.2.2.2.1)
     obtain ⟨g1, o1, ha1, hg1⟩ := hXi.pseg.at hy
     have y0 := hg1 0 _ rfl
     rw [Nat.add_zero] at y0
     have y1 := hg1 1 _ rfl
     have hlenT : (endsL true n ps k ++ portsOf true n k X.ps j).length < 256 := by
      have h1 := endsL_len (b := true) (n := n) HL.out.2.2 k
      have h2 := portsOf_len true n k X.ps j
      rw [List.length_append]; have := HL.out.2.1; omega
     have hlenF : (endsL false n ps k ++ portsOf false n k X.ps j).length < 256 := by
      have h1 := endsL_len (b := false) (n := n) HL.out.2.2 k
      have h2 := portsOf_len false n k X.ps j
      rw [List.length_append]; have := HL.out.2.1; omega
     obtain ⟨ch, src⟩ := y
     dsimp only at y0 y1
     obtain ⟨W2, hW2⟩ : ∃ W2, W2 = wr.alloc (.cells #[.int .i64 ch, .bool src] 57) := ⟨_, rfl⟩
     obtain ⟨D2, hD2⟩ : ∃ D, D = wr.heap.size := ⟨_, rfl⟩
     have HJ : Hid (Two W2 (C + 1) u4 u5 (endsL true n ps k ++ portsOf true n k X.ps j) (endsL false n ps k ++ portsOf false n k X.ps j) ∧ One w ⟨f, mj, kn, rm, ca, cc, cs, some ⟨g0, o0, none⟩, pc, ps, qa, qc, qs⟩ C N W2 ∧ C + 1 ≤ W2.heap.size ∧ X.ps[j]? = some ⟨ch, src⟩ ∧ Blk W2 D2 [.int .i64 ch, .bool src] 57) := by
      rw [hW2, hD2]; exact ⟨hT.grow ((Keeps.refl _ _).alloc _), hO.kept ((Keeps.refl _ _).alloc _), by simp; omega, hy, Blk.new _ _ _⟩
     clear hT hO hlo hy hXi hg1
     rw [ha1]
     clear ha1
     go_upto_region 7 with fail
     rw [← hW2, ← hD2]
     clear hW2 hD2 y0 y1
     have d0 := HJ.out.2.2.2.2.cell (i := 0) rfl
     have d1 := HJ.out.2.2.2.2.cell (i := 1) rfl
     by_cases hch : ch = n
     ·
      subst hch
      obtain ⟨W3, hW3⟩ : ∃ W3, W3 = W2.alloc (.cells #[.int .i64 k, .int .i64 j, .int .i64 0] 118) := ⟨_, rfl⟩
      obtain ⟨D3, hD3⟩ : ∃ D, D = W2.heap.size := ⟨_, rfl⟩
      have HJ3 : Hid (Two W3 (C + 1) u4 u5 (endsL true ch ps k ++ portsOf true ch k X.ps j) (endsL false ch ps k ++ portsOf false ch k X.ps j) ∧ One w ⟨f, mj, kn, rm, ca, cc, cs, some ⟨g0, o0, none⟩, pc, ps, qa, qc, qs⟩ C N W3 ∧ C + 1 ≤ W3.heap.size ∧ Blk W3 D3 [.int .i64 k, .int .i64 j, .int .i64 0] 118) := by
       rw [hW3, hD3]; exact ⟨HJ.out.1.grow ((Keeps.refl _ _).alloc _), HJ.out.2.1.kept ((Keeps.refl _ _).alloc _), by have := HJ.out.2.2.1; simp; omega, Blk.new _ _ _⟩
      have e1 : W3.cell? ⟨D2, 1, none⟩ = some (.bool src) := by rw [hW3]; exact (HJ.out.2.2.2.2.alloc _).cell rfl
      go_upto_region 9 with fail
      rw [← hW3, ← hD3]
      clear hW3 hD3 d0 d1
      have z0 := HJ3.out.2.2.2.cell (i := 0) rfl
      have z1 := HJ3.out.2.2.2.cell (i := 1) rfl
      have z2 := HJ3.out.2.2.2.cell (i := 2) rfl
      cases src with
      | true =>
       obtain ⟨v', W', happ, hT', hKa⟩ := HJ3.out.1.push ⟨k, j, 0⟩ HJ3.out.2.2.1 hlenT
       have HN : Hid (Two W' (C + 1) v' u5 (endsL true ch ps k ++ portsOf true ch k X.ps (j + 1)) (endsL false ch ps k ++ portsOf false ch k X.ps (j + 1)) ∧ One w ⟨f, mj, kn, rm, ca, cc, cs, some ⟨g0, o0, none⟩, pc, ps, qa, qc, qs⟩ C N W' ∧ C + 1 ≤ W'.heap.size) := by
        rw [portsOf_yes HJ.out.2.2.2.1 rfl rfl, portsOf_no (b := false) HJ.out.2.2.2.1 (by simp), ← List.append_assoc]
        have hCw := HO.out.2.1
        have hn := HJ3.out.2.1.n
        exact ⟨hT', HJ3.out.2.1.kept' hKa (by omega) (fun k hk => by omega) (fun k hk => by omega), Nat.le_trans HJ3.out.2.2.1 hKa.size⟩
       have HAP : Hid (∀ ty, (Builtin.append_ #[105, 105] ty #[u4, .slice (some ⟨W3.heap.size, 0, none⟩) 1 1]).run Tryz.prog (W3.alloc (.cells #[.int .i64 k, .int .i64 j, .int .i64 0] 118)) = .ok v' W') := happ
       clear happ hT' hKa hlenT hlenF
       go_wp2_with (at_builtin; go_must (refine wpList_append_run rfl (.tmp 36) (.tmp 38) 105 105 rfl u4 (.slice (some ⟨W3.heap.size, 0, none⟩) 1 1) v' W' rfl rfl HAP.out ?_; refine Hid.out ?_))
       unfold Hid
       clear HAP
       go_wp2
       go_roundw
       case rel => exact ⟨j + 1, by omega, by go_num, HN.out.1, HN.out.2.1, HN.out.2.2⟩
       case measure => simp [intOf]; omega
      | false =>
       obtain ⟨v', W', happ, hT', hKa⟩ := HJ3.out.1.swap.push ⟨k, j, 0⟩ HJ3.out.2.2.1 hlenF
       have HN : Hid (Two W' (C + 1) u4 v' (endsL true ch ps k ++ portsOf true ch k X.ps (j + 1)) (endsL false ch ps k ++ portsOf false ch k X.ps (j + 1)) ∧ One w ⟨f, mj, kn, rm, ca, cc, cs, some ⟨g0, o0, none⟩, pc, ps, qa, qc, qs⟩ C N W' ∧ C + 1 ≤ W'.heap.size) := by
        rw [portsOf_yes (b := false) HJ.out.2.2.2.1 rfl rfl, portsOf_no (b := true) HJ.out.2.2.2.1 (by simp), ← List.append_assoc]
        have hCw := HO.out.2.1
        have hn := HJ3.out.2.1.n
        exact ⟨hT'.swap, HJ3.out.2.1.kept' hKa (by omega) (fun k hk => by omega) (fun k hk => by omega), Nat.le_trans HJ3.out.2.2.1 hKa.size⟩
       have HAP : Hid (∀ ty, (Builtin.append_ #[105, 105] ty #[u5, .slice (some ⟨W3.heap.size, 0, none⟩) 1 1]).run Tryz.prog (W3.alloc (.cells #[.int .i64 k, .int .i64 j, .int .i64 0] 118)) = .ok v' W') := happ
       clear happ hT' hKa hlenT hlenF
       go_wp2_with (at_builtin; go_must (refine wpList_append_run rfl (.tmp 40) (.tmp 42) 105 105 rfl u5 (.slice (some ⟨W3.heap.size, 0, none⟩) 1 1) v' W' rfl rfl HAP.out ?_; refine Hid.out ?_))
       unfold Hid
       clear HAP
       go_wp2
       go_roundw
       case rel => exact ⟨j + 1, by omega, by go_num, HN.out.1, HN.out.2.1, HN.out.2.2⟩
       case measure => simp [intOf]; omega
     ·
      have hne : (ch == n) = false := by simp [hch]
      have hne' : (ch != n) = true := by simp [hch]
      have HN : Hid (portsOf true n k X.ps (j + 1) = portsOf true n k X.ps j ∧ portsOf false n k X.ps (j + 1) = portsOf false n k X.ps j) := ⟨portsOf_no HJ.out.2.2.2.1 (fun h => hch h.1), portsOf_no HJ.out.2.2.2.1 (fun h => hch h.1)⟩
      go_wp2
      go_roundw
      case rel => exact ⟨j + 1, by omega, by go_num, by rw [HN.out.1, HN.out.2]; exact HJ.out.1, HJ.out.2.1, HJ.out.2.2.1⟩
      case measure => simp [intOf]; omega
    ·
     obtain rfl : j = XL := by omega
     have HJ : Hid (Two wr (C + 1) u4 u5 (endsL true n ps (k + 1)) (endsL false n ps (k + 1)) ∧ One w ⟨f, mj, kn, rm, ca, cc, cs, some ⟨g0, o0, none⟩, pc, ps, qa, qc, qs⟩ C N wr ∧ C + 1 ≤ wr.heap.size) := by
      rw [endsL_succ HK.out.2.2.2.1, endsL_succ HK.out.2.2.2.1, HK.out.2.2.2.2]; exact ⟨hT, hO, hlo⟩
     clear hT hO hlo
     go_wp2
     go_roundw
     case rel => exact ⟨k + 1, by omega, by go_num, HJ.out.1, HJ.out.2.1, HJ.out.2.2⟩
     case measure => simp [intOf]; omega
  ·
   obtain rfl : k = L := by omega
   have HJ : Hid (Two wr (C + 1) u4 u5 (endsL true n ps k) (endsL false n ps k) ∧ One w ⟨f, mj, kn, rm, ca, cc, cs, pa, pc, ps, qa, qc, qs⟩ C N wr) := ⟨hT, hO⟩
   clear hT hO hlo
   go_wp2
   go_ret2
   have hl := HL.out.1
   have hCw := HO.out.2.1
   refine ⟨_, _, rfl, ?_, HJ.out.2.keeps⟩
   dsimp only
   rw [hl]
   exact ⟨HJ.out.1.ra.lower' (by omega), HJ.out.1.rb.lower' (by omega), HJ.out.1.dif⟩
theorem Rgn.inB_no {p q fr t : Int} (h : ¬ (0 ≤ p ∧ 1 ≤ q ∧ q ≤ 256 ∧ p ≤ 256 - q)) : Hid (Rgn.inB ⟨p, q, fr, t⟩ = false) := by
 show Rgn.inB ⟨p, q, fr, t⟩ = false
 rw [Bool.eq_false_iff, Ne, Rgn.inB_iff]; exact h
theorem Rgn.inB_yes {p q fr t : Int} (h : (0 ≤ p ∧ 1 ≤ q ∧ q ≤ 256 ∧ p ≤ 256 - q)) : Hid (Rgn.inB ⟨p, q, fr, t⟩ = true) := by
 show Rgn.inB ⟨p, q, fr, t⟩ = true
 rw [Rgn.inB_iff]; exact h
set_option maxHeartbeats 1000000 in
theorem inSpace_any (r : Rgn) (hr : r.Fine) (w : World) : Calls Tryz.prog 137 #[r.v] w fun e w' => e = .returned (.bool r.inB) ∧ KF w w' := by
 obtain ⟨p, q, fr, t⟩ := r
 have hf := hr
 unfold Rgn.Fine at hf
 dsimp only at hf
 go_enter Tryz.func137, Tryz.ntmps137
 by_cases h1 : 0 ≤ p
 ·
  have e1 : decide (0 ≤ p) = true := by simp [h1]
  by_cases h2 : 1 ≤ q
  ·
   have e2 : decide (1 ≤ q) = true := by simp [h2]
   by_cases h3 : q ≤ 256
   ·
    have e3 : decide (q ≤ 256) = true := by simp [h3]
    have q1 : IntKind.i64.wrap (256 - q) = 256 - q := by rw [IntKind.wrap_i64]; omega
    by_cases h4 : p ≤ 256 - q
    ·
     have e4 : decide (p ≤ 256 - q) = true := by simp [h4]
     have HS := Rgn.inB_yes (p := p) (q := q) (fr := fr) (t := t) (by omega)
     go_wp2
     go_ret
     exact ⟨by rw [HS.out]; rfl, (Keeps.refl _ _).alloc _⟩
    ·
     have e4 : decide (p ≤ 256 - q) = false := by simp [h4]
     have HS := Rgn.inB_no (p := p) (q := q) (fr := fr) (t := t) (by omega)
     go_wp2
     go_ret
     exact ⟨by rw [HS.out]; rfl, (Keeps.refl _ _).alloc _⟩
   ·
    have e3 : decide (q ≤ 256) = false := by simp [h3]
    have HS := Rgn.inB_no (p := p) (q := q) (fr := fr) (t := t) (by omega)
    go_wp2
    go_ret
    exact ⟨by rw [HS.out]; rfl, (Keeps.refl _ _).alloc _⟩
  ·
   have e2 : decide (1 ≤ q) = false := by simp [h2]
   have HS := Rgn.inB_no (p := p) (q := q) (fr := fr) (t := t) (by omega)
   go_wp2
   go_ret
   exact ⟨by rw [HS.out]; rfl, (Keeps.refl _ _).alloc _⟩
 ·
  have e1 : decide (0 ≤ p) = false := by simp [h1]
  have HS := Rgn.inB_no (p := p) (q := q) (fr := fr) (t := t) (by omega)
  go_wp2
  go_ret
  exact ⟨by rw [HS.out]; rfl, (Keeps.refl _ _).alloc _⟩
def Chn.whole (h : Chn) : Bool := h.sized && (h.kind == 2 || h.depth == 0)
set_option maxHeartbeats 1000000 in
theorem whole_any (h : Chn) (w : World) : Calls Tryz.prog 129 #[h.v] w fun e w' => e = .returned (.bool h.whole) ∧ KF w w' := by
 obtain ⟨W, hW⟩ : ∃ W, W = w.alloc (.cells #[.int .i64 h.kind, .int .i64 h.words, .int .i64 h.depth] 141) := ⟨_, rfl⟩
 obtain ⟨C, hC⟩ : ∃ C, C = w.heap.size := ⟨_, rfl⟩
 have HW : Hid (KF w W ∧ Blk W C [.int .i64 h.kind, .int .i64 h.words, .int .i64 h.depth] 141) := by rw [hW, hC]; exact ⟨(Keeps.refl _ _).alloc _, Blk.new _ _ _⟩
 obtain ⟨b, hb⟩ : ∃ b, h.sized = b := ⟨_, rfl⟩
 have HB : Hid (h.sized = b) := hb
 clear hb
 go_enter Tryz.func129, Tryz.ntmps129
 go_wp2_with fail
 rw [← hW, ← hC]
 refine (sized_any h W).mono ?_
 rintro e w1 ⟨rfl, hK⟩
 rw [HB.out]
 have HK : Hid (KF w w1 ∧ Blk w1 C [.int .i64 h.kind, .int .i64 h.words, .int .i64 h.depth] 141) := ⟨HW.out.1.trans hK fun _ _ h => h, HW.out.2.kept hK fun h => h⟩
 have c0 := HK.out.2.cell (i := 0) rfl
 have c2 := HK.out.2.cell (i := 2) rfl
 clear hK hW hC
 cases b with
 | false =>
  have HE : Hid (h.whole = false) := by show _ = _; unfold Chn.whole; rw [HB.out]; rfl
  go_wp2
  go_ret
  exact ⟨by rw [HE.out]; rfl, HK.out.1⟩
 | true =>
  by_cases h2 : h.kind = 2
  ·
   have HE : Hid (h.whole = true) := by show _ = _; unfold Chn.whole; rw [HB.out]; simp [h2]
   have e2 : (h.kind == 2) = true := by simp [h2]
   clear h2
   go_wp2
   go_ret
   exact ⟨by rw [HE.out]; rfl, HK.out.1⟩
  ·
   have e2 : (h.kind == 2) = false := by simp [h2]
   by_cases h3 : h.depth = 0
   ·
    have HE : Hid (h.whole = true) := by show _ = _; unfold Chn.whole; rw [HB.out]; simp [h3]
    have e3 : (h.depth == 0) = true := by simp [h3]
    clear h3
    go_wp2
    go_ret
    exact ⟨by rw [HE.out]; rfl, HK.out.1⟩
   ·
    have HE : Hid (h.whole = false) := by show _ = _; unfold Chn.whole; rw [HB.out]; simp [h2, h3]
    have e3 : (h.depth == 0) = false := by simp [h3]
    go_wp2
    go_ret
    exact ⟨by rw [HE.out]; rfl, HK.out.1⟩
theorem Two.slices {w : World} {lo : Nat} {u v : Value} {a b : List Dst} (h : Two w lo u v a b) :
  ∃ ad cp bd cq, u = .slice ad a.length cp ∧ v = .slice bd b.length cq ∧ Lst eDst w lo ad cp a ∧ Lst eDst w lo bd cq b := by
 obtain ⟨ad, cp, h1, h2⟩ := h.ra.lst
 obtain ⟨bd, cq, h3, h4⟩ := h.rb.lst
 exact ⟨ad, cp, bd, cq, h1, h3, h2, h4⟩
def joined (n : Int) (ps : List Par) : Bool := decide ((endsL true n ps ps.length).length = 1) && decide (1 ≤ (endsL false n ps ps.length).length) && decide ((endsL false n ps ps.length).length ≤ 4)
set_option maxHeartbeats 1000000 in
theorem isJoined_any (x : Cfg) (n : Int) (w : World) (N : Nat) (hi : x.In w N) (hN : N ≤ w.heap.size) (hm : x.ps.length ≤ 8 ∧ ∀ P ∈ x.ps, P.ps.length ≤ 8) :
  Calls Tryz.prog 130 #[x.v, .int .i64 n] w fun e w' => e = .returned (.bool (joined n x.ps)) ∧ KF w w' := by
 have HC : Hid (∀ w, x.In w N → N ≤ w.heap.size → Calls Tryz.prog 139 #[x.v, .int .i64 n] w (EndsP w n x.ps)) := fun w hi hN => ends_any x n w N hi hN hm
 obtain ⟨W, hW⟩ : ∃ W, W = x.laid w := ⟨_, rfl⟩
 obtain ⟨C, hC⟩ : ∃ C, C = w.heap.size := ⟨_, rfl⟩
 have HO : Hid (One w x C N W) := by rw [hW, hC]; exact One.mk' hi hN
 clear hi hN hm
 unfold Cfg.laid at hW
 go_enter Tryz.func130, Tryz.ntmps130
 go_wp2_with fail
 rw [← hW, ← hC]
 clear hW hC
 refine (HC.out W HO.out.cin HO.out.nn).mono ?_
 rintro e w1 ⟨u, v, rfl, hT, hK⟩
 obtain ⟨ad, cp, bd, cq, rfl, rfl, ha, hb⟩ := hT.slices
 have HK : Hid (KF w w1) := HO.out.keeps.trans hK fun _ _ h => h
 obtain ⟨A, hA⟩ : ∃ A, (endsL true n x.ps x.ps.length).length = A := ⟨_, rfl⟩
 obtain ⟨B, hB⟩ : ∃ B, (endsL false n x.ps x.ps.length).length = B := ⟨_, rfl⟩
 have HJ : Hid (joined n x.ps = (decide (A = 1) && decide (1 ≤ B) && decide (B ≤ 4))) := by show _ = _; unfold joined; rw [hA, hB]
 rw [hA, hB]
 clear hA hB ha hb hT hK HC HO
 by_cases h1 : A = 1
 ·
  subst h1
  by_cases h2 : 1 ≤ B
  ·
   have e2 : decide (1 ≤ (B : Int)) = true := by simp; omega
   by_cases h3 : B ≤ 4
   ·
    have e3 : decide ((B : Int) ≤ 4) = true := by simp; omega
    have HJ2 : Hid (joined n x.ps = true) := by show _ = _; rw [HJ.out]; simp [h2, h3]
    go_wp2
    go_ret
    exact ⟨by rw [HJ2.out]; rfl, HK.out⟩
   ·
    have e3 : decide ((B : Int) ≤ 4) = false := by simp; omega
    have HJ2 : Hid (joined n x.ps = false) := by show _ = _; rw [HJ.out]; simp [h3]
    go_wp2
    go_ret
    exact ⟨by rw [HJ2.out]; rfl, HK.out⟩
  ·
   have e2 : decide (1 ≤ (B : Int)) = false := by simp; omega
   have HJ2 : Hid (joined n x.ps = false) := by show _ = _; rw [HJ.out]; simp [h2]
   go_wp2
   go_ret
   exact ⟨by rw [HJ2.out]; rfl, HK.out⟩
 ·
  have e1 : ((A : Int) == 1) = false := by simp; omega
  have HJ2 : Hid (joined n x.ps = false) := by show _ = _; rw [HJ.out]; simp [h1]
  go_wp2
  go_ret
  exact ⟨by rw [HJ2.out]; rfl, HK.out⟩
def Prt.inB (h : Nat) (y : Prt) : Bool := decide (0 ≤ y.ch) && decide (y.ch < h)
def Par.mayB (h : Nat) (P : Par) : Bool := decide (P.rs.length ≤ 8) && decide (P.ps.length ≤ 8) && P.rs.all Rgn.inB && P.ps.all (Prt.inB h)
theorem Par.mayB_iff {h : Nat} {P : Par} : P.mayB h = true ↔ (P.rs.length ≤ 8 ∧ P.ps.length ≤ 8 ∧ (∀ r ∈ P.rs, r.inB = true) ∧ ∀ y ∈ P.ps, 0 ≤ y.ch ∧ y.ch < h) := by
 unfold Par.mayB Prt.inB; simp [and_assoc]
theorem Par.mayB_no {h : Nat} {P : Par} (hn : ¬ (P.rs.length ≤ 8 ∧ P.ps.length ≤ 8 ∧ (∀ r ∈ P.rs, r.inB = true) ∧ ∀ y ∈ P.ps, 0 ≤ y.ch ∧ y.ch < h)) : Hid (P.mayB h = false) := by
 show P.mayB h = false
 rw [Bool.eq_false_iff, Ne, Par.mayB_iff]; exact hn
theorem take_mem {α : Type} {p : α → Prop} {l : List α} {j : Nat} {y : α} (hy : l[j]? = some y) (h : ∀ z ∈ l.take j, p z) (hp : p y) : ∀ z ∈ l.take (j + 1), p z := by
 intro z hz
 rw [List.take_add_one, hy] at hz
 simp at hz
 rcases hz with hz | rfl
 ·
  exact h z hz
 ·
  exact hp
structure OneP (w : World) (X : Par) (C N : Nat) (w' : World) : Prop where
 cfg : Blk w' C X.vs 41
 keeps : KF w w'
 cin : X.In w' N
 n : N ≤ w.heap.size
abbrev Par.laid (w : World) (X : Par) : World := w.alloc (.cells #[.string X.name, .int .i64 X.entry, .int .i64 X.action, .int .i64 X.restarts, .int .i64 X.inputs, .int .i64 X.outputs, .slice X.ra X.rs.length X.rc, .slice X.pa X.ps.length X.pc] 41)
theorem Par.In.keeps {X : Par} {w w' : World} {N : Nat} (h : X.In w N) (hN : N ≤ w.heap.size) (hK : KF w w') : X.In w' N := h.below (hK.below hN fun _ h => h.elim)
theorem OneP.mk' {w : World} {X : Par} {N : Nat} (hi : X.In w N) (hN : N ≤ w.heap.size) : OneP w X w.heap.size N (X.laid w) :=
 ⟨Blk.new w _ _, (Keeps.refl _ _).alloc _, hi.keeps hN ((Keeps.refl _ _).alloc _), hN⟩
theorem OneP.kept {w : World} {X : Par} {C N : Nat} {w' w'' : World} (h : OneP w X C N w') (hK : KF w' w'') : OneP w X C N w'' :=
 ⟨h.cfg.kept hK fun h => h, h.keeps.trans hK fun _ _ h => h, h.cin.keeps (Nat.le_trans h.n h.keeps.size) hK, h.n⟩
set_option maxHeartbeats 2000000 in
theorem partitionCanLie_any (X : Par) (hh : Nat) (w : World) (N : Nat) (hi : X.In w N) (hN : N ≤ w.heap.size) :
  Calls Tryz.prog 128 #[X.v, .int .i64 hh] w fun e w' => e = .returned (.bool (X.mayB hh)) ∧ KF w w' := by
 obtain ⟨nm, en, ac, re, inp, ou, ra, rc, rs, pa, pc, ps⟩ := X
 obtain ⟨W, hW⟩ : ∃ W, W = Par.laid w ⟨nm, en, ac, re, inp, ou, ra, rc, rs, pa, pc, ps⟩ := ⟨_, rfl⟩
 obtain ⟨C, hC⟩ : ∃ C, C = w.heap.size := ⟨_, rfl⟩
 have HO : Hid (OneP w ⟨nm, en, ac, re, inp, ou, ra, rc, rs, pa, pc, ps⟩ C N W) := by rw [hW, hC]; exact OneP.mk' hi hN
 obtain ⟨R, hR⟩ : ∃ R, rs.length = R := ⟨_, rfl⟩
 obtain ⟨Q, hQ⟩ : ∃ Q, ps.length = Q := ⟨_, rfl⟩
 have HL : Hid (rs.length = R ∧ ps.length = Q) := ⟨hR, hQ⟩
 have hrc : (R : Int) ≤ rc ∧ (rc : Int) ≤ 9223372036854775807 := by have := hi.rlen; unfold maxLen at this; dsimp only at this; omega
 have hpc : (Q : Int) ≤ pc ∧ (pc : Int) ≤ 9223372036854775807 := by have := hi.plen; unfold maxLen at this; dsimp only at this; omega
 simp only [Par.v, Par.laid, hR, hQ] at hW ⊢
 have c6 : W.cell? ⟨C, 6, none⟩ = some (.slice ra R rc) := by have := HO.out.cfg.cell (i := 6) rfl; rw [← hR]; exact this
 have c7 : W.cell? ⟨C, 7, none⟩ = some (.slice pa Q pc) := by have := HO.out.cfg.cell (i := 7) rfl; rw [← hQ]; exact this
 clear hi hN hR hQ
 go_enter Tryz.func128, Tryz.ntmps128
 go_upto_region 1 with fail
 rw [← hW, ← hC]
 clear hW hC
 by_cases hr : 8 < R
 ·
  have e1 : decide (8 < (R : Int)) = true := by simp; omega
  have HM : Hid (Par.mayB hh ⟨nm, en, ac, re, inp, ou, ra, rc, rs, pa, pc, ps⟩ = false) := Par.mayB_no fun h => by have := h.1; dsimp only at this; have := HL.out.1; omega
  go_wp2
  go_ret
  exact ⟨by rw [HM.out]; rfl, HO.out.keeps⟩
 have e1 : decide (8 < (R : Int)) = false := by simp; omega
 by_cases hq : 8 < Q
 ·
  have e2 : decide (8 < (Q : Int)) = true := by simp; omega
  have HM : Hid (Par.mayB hh ⟨nm, en, ac, re, inp, ou, ra, rc, rs, pa, pc, ps⟩ = false) := Par.mayB_no fun h => by have := h.2.1; dsimp only at this; have := HL.out.2; omega
  go_wp2
  go_ret
  exact ⟨by rw [HM.out]; rfl, HO.out.keeps⟩
 have e2 : decide (8 < (Q : Int)) = false := by simp; omega
 go_wp2
 clear e1 e2
 go_loopw [22] (fun i wr => ∃ j : Nat, j ≤ R ∧ i = .int .i64 j ∧ (∀ r ∈ rs.take j, r.inB = true) ∧ OneP w ⟨nm, en, ac, re, inp, ou, ra, rc, rs, pa, pc, ps⟩ C N wr) (fun i _ => R - (intOf i).toNat)
 case atStart => exact ⟨0, by omega, rfl, by simp, HO.out⟩
 case round =>
  obtain ⟨j, hj, rfl, hall, hO⟩ := hrel
  clear c6 c7
  by_cases hlt : j < R
  ·
   obtain ⟨y, hy⟩ : ∃ y, rs[j]? = some y := ⟨_, List.getElem?_eq_getElem (by have := HL.out.1; omega)⟩
   obtain ⟨g1, o1, e, hg1⟩ := hO.cin.rseg.at hy
   dsimp only at e
   subst e
   have y0 := hg1 0 _ rfl
   rw [Nat.add_zero] at y0
   have y1 := hg1 1 _ rfl
   have y2 := hg1 2 _ rfl
   have y3 := hg1 3 _ rfl
   obtain ⟨W1, hW1⟩ : ∃ W1, W1 = wr.alloc (.cells #[.int .i64 y.page, .int .i64 y.pages, .int .i64 y.frame, .int .i64 y.rights] 54) := ⟨_, rfl⟩
   obtain ⟨D, hD⟩ : ∃ D, D = wr.heap.size := ⟨_, rfl⟩
   have HK : Hid (OneP w ⟨nm, en, ac, re, inp, ou, some ⟨g1, o1, none⟩, rc, rs, pa, pc, ps⟩ C N W1 ∧ (∀ r ∈ rs.take j, r.inB = true) ∧ rs[j]? = some y ∧ y.Fine) := by
    rw [hW1]; exact ⟨hO.kept ((Keeps.refl _ _).alloc _), hall, hy, hO.cin.rfine y (List.mem_of_getElem? hy)⟩
   have hB1 : Blk W1 D y.vs 54 := by rw [hW1, hD]; exact Blk.new _ _ _
   have d0 := hB1.cell (i := 0) rfl
   have d1 := hB1.cell (i := 1) rfl
   have d2 := hB1.cell (i := 2) rfl
   have d3 := hB1.cell (i := 3) rfl
   clear hall hO hy hg1 hB1
   go_upto_region 6 with fail
   rw [← hW1, ← hD]
   clear hW1 hD y0 y1 y2 y3
   go_wp2_with fail
   refine (inSpace_any y HK.out.2.2.2 W1).mono ?_
   rintro e w1 ⟨rfl, hK⟩
   have HO1 : Hid (OneP w ⟨nm, en, ac, re, inp, ou, some ⟨g1, o1, none⟩, rc, rs, pa, pc, ps⟩ C N w1) := HK.out.1.kept hK
   clear hK d0 d1 d2 d3
   obtain ⟨b, hb⟩ : ∃ b, y.inB = b := ⟨_, rfl⟩
   rw [hb]
   have HB : Hid (y.inB = b) := hb
   clear hb
   cases b with
   | false =>
    have HM : Hid (Par.mayB hh ⟨nm, en, ac, re, inp, ou, some ⟨g1, o1, none⟩, rc, rs, pa, pc, ps⟩ = false) := Par.mayB_no fun h => by
     have := h.2.2.1 y (List.mem_of_getElem? HK.out.2.2.1); rw [HB.out] at this; cases this
    go_wp2
    go_ret
    exact ⟨by rw [HM.out]; rfl, HO1.out.keeps⟩
   | true =>
    go_wp2
    go_roundw
    case rel => exact ⟨j + 1, by omega, by go_num, take_mem HK.out.2.2.1 HK.out.2.1 HB.out, HO1.out⟩
    case measure => simp [intOf]; omega
  ·
   obtain rfl : j = R := by omega
   rw [List.take_of_length_le (by have := HL.out.1; omega)] at hall
   have HR : Hid ((∀ r ∈ rs, r.inB = true) ∧ OneP w ⟨nm, en, ac, re, inp, ou, ra, rc, rs, pa, pc, ps⟩ C N wr) := ⟨hall, hO⟩
   have c7 : wr.cell? ⟨C, 7, none⟩ = some (.slice pa Q pc) := by have := HR.out.2.cfg.cell (i := 7) rfl; rw [← HL.out.2]; exact this
   clear hall hO HO
   go_wp2
   go_loopw [33] (fun i wr => ∃ j : Nat, j ≤ Q ∧ i = .int .i64 j ∧ (∀ y ∈ ps.take j, 0 ≤ y.ch ∧ y.ch < hh) ∧ OneP w ⟨nm, en, ac, re, inp, ou, ra, rc, rs, pa, pc, ps⟩ C N wr) (fun i _ => Q - (intOf i).toNat)
   case atStart => exact ⟨0, by omega, rfl, by simp, HR.out.2⟩
   case round =>
    obtain ⟨i, hi, rfl, hall, hO⟩ := hrel
    clear c7
    by_cases hlq : i < Q
    ·
     obtain ⟨y, hy⟩ : ∃ y, ps[i]? = some y := ⟨_, List.getElem?_eq_getElem (by have := HL.out.2; omega)⟩
     obtain ⟨g1, o1, e, hg1⟩ := hO.cin.pseg.at hy
     dsimp only at e
     subst e
     have y0 := hg1 0 _ rfl
     rw [Nat.add_zero] at y0
     have y1 := hg1 1 _ rfl
     have HK : Hid (OneP w ⟨nm, en, ac, re, inp, ou, ra, rc, rs, some ⟨g1, o1, none⟩, pc, ps⟩ C N wr ∧ (∀ y ∈ ps.take i, 0 ≤ y.ch ∧ y.ch < hh) ∧ ps[i]? = some y) := ⟨hO, hall, hy⟩
     clear hall hO hy hg1
     by_cases k1 : y.ch < 0
     ·
      have f1 : decide (y.ch < 0) = true := by simp [k1]
      have HM : Hid (Par.mayB hh ⟨nm, en, ac, re, inp, ou, ra, rc, rs, some ⟨g1, o1, none⟩, pc, ps⟩ = false) := Par.mayB_no fun h => by
       have := h.2.2.2 y (List.mem_of_getElem? HK.out.2.2); omega
      go_wp2
      go_ret
      exact ⟨by rw [HM.out]; rfl, HK.out.1.keeps.alloc _⟩
     ·
      have f1 : decide (y.ch < 0) = false := by simp [k1]
      by_cases k2 : (hh : Int) ≤ y.ch
      ·
       have f2 : decide ((hh : Int) ≤ y.ch) = true := by simp [k2]
       have HM : Hid (Par.mayB hh ⟨nm, en, ac, re, inp, ou, ra, rc, rs, some ⟨g1, o1, none⟩, pc, ps⟩ = false) := Par.mayB_no fun h => by
        have := h.2.2.2 y (List.mem_of_getElem? HK.out.2.2); omega
       go_wp2
       go_ret
       exact ⟨by rw [HM.out]; rfl, HK.out.1.keeps.alloc _⟩
      ·
       have f2 : decide ((hh : Int) ≤ y.ch) = false := by simp [k2]
       go_wp2
       go_roundw
       case rel => exact ⟨i + 1, by omega, by go_num, take_mem HK.out.2.2 HK.out.2.1 ⟨by omega, by omega⟩, HK.out.1.kept ((Keeps.refl _ _).alloc _)⟩
       case measure => simp [intOf]; omega
    ·
     obtain rfl : i = Q := by omega
     rw [List.take_of_length_le (by have := HL.out.2; omega)] at hall
     have HM : Hid (Par.mayB hh ⟨nm, en, ac, re, inp, ou, ra, rc, rs, pa, pc, ps⟩ = true ∧ KF w wr) := ⟨Par.mayB_iff.2 ⟨by dsimp only; have := HL.out.1; omega, by dsimp only; have := HL.out.2; omega, HR.out.1, hall⟩, hO.keeps⟩
     clear hall hO
     go_wp2
     go_ret
     exact ⟨by rw [HM.out.1]; rfl, HM.out.2⟩
def chnB (ps : List Par) (hs : List Chn) (n : Nat) : Bool := match hs[n]? with | some h => h.whole && joined n ps | none => true
def Cfg.mayB (x : Cfg) : Bool := decide (0 ≤ x.kernel) && decide (x.kernel < 1024) && decide (x.ps.length ≤ 8) && decide (x.hs.length ≤ 16) && x.ps.all (Par.mayB x.hs.length) && (List.range x.hs.length).all (chnB x.ps x.hs)
theorem Cfg.mayB_iff {x : Cfg} : x.mayB = true ↔ (0 ≤ x.kernel ∧ x.kernel < 1024 ∧ x.ps.length ≤ 8 ∧ x.hs.length ≤ 16 ∧ (∀ P ∈ x.ps, P.mayB x.hs.length = true) ∧ ∀ n, n < x.hs.length → chnB x.ps x.hs n = true) := by
 unfold Cfg.mayB; simp [and_assoc]
theorem Cfg.mayB_no {x : Cfg} (hn : ¬ (0 ≤ x.kernel ∧ x.kernel < 1024 ∧ x.ps.length ≤ 8 ∧ x.hs.length ≤ 16 ∧ (∀ P ∈ x.ps, P.mayB x.hs.length = true) ∧ ∀ n, n < x.hs.length → chnB x.ps x.hs n = true)) : Hid (x.mayB = false) := by
 show x.mayB = false
 rw [Bool.eq_false_iff, Ne, Cfg.mayB_iff]; exact hn
theorem chnB_some {ps : List Par} {hs : List Chn} {n : Nat} {h : Chn} (hh : hs[n]? = some h) : chnB ps hs n = (h.whole && joined n ps) := by unfold chnB; rw [hh]
theorem isJoined_v (f mj kn rm : Int) (ca : Option Addr) (cc : Nat) (cs : List Core) (pa : Option Addr) (pc : Nat) (ps : List Par) (qa : Option Addr) (qc : Nat) (qs : List Chn) (L H : Nat) (hL : ps.length = L) (hH : qs.length = H) (n : Int) (w : World) (N : Nat)
  (hi : Cfg.In w N ⟨f, mj, kn, rm, ca, cc, cs, pa, pc, ps, qa, qc, qs⟩) (hN : N ≤ w.heap.size) (h1 : ps.length ≤ 8) (h2 : ∀ P ∈ ps, P.ps.length ≤ 8) :
  Calls Tryz.prog 130 #[.agg #[.int .i64 f, .int .i64 mj, .int .i64 kn, .int .i64 rm, .slice ca cs.length cc, .slice pa L pc, .slice qa H qc], .int .i64 n] w fun e w' => e = .returned (.bool (joined n ps)) ∧ KF w w' := by
 subst hL hH
 exact isJoined_any ⟨f, mj, kn, rm, ca, cc, cs, pa, pc, ps, qa, qc, qs⟩ n w N hi hN ⟨h1, h2⟩
set_option maxHeartbeats 4000000 in
theorem canLie_any (x : Cfg) (w : World) (N : Nat) (hi : x.In w N) (hN : N ≤ w.heap.size) :
  Calls Tryz.prog 121 #[x.v] w fun e w' => e = .returned (.bool x.mayB) ∧ KF w w' := by
 obtain ⟨f, mj, kn, rm, ca, cc, cs, pa, pc, ps, qa, qc, qs⟩ := x
 have HO := One.mk' hi hN
 obtain ⟨W, hW⟩ : ∃ W, W = Cfg.laid w ⟨f, mj, kn, rm, ca, cc, cs, pa, pc, ps, qa, qc, qs⟩ := ⟨_, rfl⟩
 obtain ⟨C, hC⟩ : ∃ C, C = w.heap.size := ⟨_, rfl⟩
 rw [← hW, ← hC] at HO
 have HO : Hid (One w ⟨f, mj, kn, rm, ca, cc, cs, pa, pc, ps, qa, qc, qs⟩ C N W) := HO
 obtain ⟨L, hL⟩ : ∃ L, ps.length = L := ⟨_, rfl⟩
 obtain ⟨H, hH⟩ : ∃ H, qs.length = H := ⟨_, rfl⟩
 have HL : Hid (ps.length = L ∧ qs.length = H) := ⟨hL, hH⟩
 have hcc : (L : Int) ≤ pc ∧ (pc : Int) ≤ 9223372036854775807 := by have := hi.plen; unfold maxLen at this; dsimp only at this; omega
 have hqc : (H : Int) ≤ qc ∧ (qc : Int) ≤ 9223372036854775807 := by have := hi.hlen; unfold maxLen at this; dsimp only at this; omega
 simp only [Cfg.v, Cfg.laid, hL, hH] at hW ⊢
 have c2 : W.cell? ⟨C, 2, none⟩ = some (.int .i64 kn) := HO.out.cfg.cell (i := 2) rfl
 have c5 : W.cell? ⟨C, 5, none⟩ = some (.slice pa L pc) := by have := HO.out.cfg.cell (i := 5) rfl; rw [← hL]; exact this
 have c6 : W.cell? ⟨C, 6, none⟩ = some (.slice qa H qc) := by have := HO.out.cfg.cell (i := 6) rfl; rw [← hH]; exact this
 clear hi hN hL hH
 go_enter Tryz.func121, Tryz.ntmps121
 go_upto_region 1 with fail
 rw [← hW, ← hC]
 clear hW hC
 by_cases k1 : kn < 0
 ·
  have e1 : decide (kn < 0) = true := by simp [k1]
  have HM : Hid (Cfg.mayB ⟨f, mj, kn, rm, ca, cc, cs, pa, pc, ps, qa, qc, qs⟩ = false) := Cfg.mayB_no fun h => by have := h.1; dsimp only at this; omega
  go_wp2
  go_ret
  exact ⟨by rw [HM.out]; rfl, HO.out.keeps⟩
 have e1 : decide (kn < 0) = false := by simp [k1]
 by_cases k2 : 1024 ≤ kn
 ·
  have e2 : decide (1024 ≤ kn) = true := by simp [k2]
  have HM : Hid (Cfg.mayB ⟨f, mj, kn, rm, ca, cc, cs, pa, pc, ps, qa, qc, qs⟩ = false) := Cfg.mayB_no fun h => by have := h.2.1; dsimp only at this; omega
  go_wp2
  go_ret
  exact ⟨by rw [HM.out]; rfl, HO.out.keeps⟩
 have e2 : decide (1024 ≤ kn) = false := by simp [k2]
 by_cases k3 : 8 < L
 ·
  have e3 : decide (8 < (L : Int)) = true := by simp; omega
  have HM : Hid (Cfg.mayB ⟨f, mj, kn, rm, ca, cc, cs, pa, pc, ps, qa, qc, qs⟩ = false) := Cfg.mayB_no fun h => by have := h.2.2.1; dsimp only at this; have := HL.out.1; omega
  go_wp2
  go_ret
  exact ⟨by rw [HM.out]; rfl, HO.out.keeps⟩
 have e3 : decide (8 < (L : Int)) = false := by simp; omega
 by_cases k4 : 16 < H
 ·
  have e4 : decide (16 < (H : Int)) = true := by simp; omega
  have HM : Hid (Cfg.mayB ⟨f, mj, kn, rm, ca, cc, cs, pa, pc, ps, qa, qc, qs⟩ = false) := Cfg.mayB_no fun h => by have := h.2.2.2.1; dsimp only at this; have := HL.out.2; omega
  go_wp2
  go_ret
  exact ⟨by rw [HM.out]; rfl, HO.out.keeps⟩
 have e4 : decide (16 < (H : Int)) = false := by simp; omega
 go_wp2
 clear e1 e2 e3 e4 c2 c6
 go_loopw [28] (fun i wr => ∃ j : Nat, j ≤ L ∧ i = .int .i64 j ∧ (∀ P ∈ ps.take j, P.mayB H = true) ∧ One w ⟨f, mj, kn, rm, ca, cc, cs, pa, pc, ps, qa, qc, qs⟩ C N wr) (fun i _ => L - (intOf i).toNat)
 case atStart => exact ⟨0, by omega, rfl, by simp, HO.out⟩
 case round =>
  obtain ⟨j, hj, rfl, hall, hO⟩ := hrel
  clear c5
  by_cases hlt : j < L
  ·
   obtain ⟨X, hX⟩ : ∃ X, ps[j]? = some X := ⟨_, List.getElem?_eq_getElem (by have := HL.out.1; omega)⟩
   obtain ⟨g0, o0, e, hc⟩ := hO.cin.par hX
   dsimp only at e
   subst e
   have p0 := hc 0 _ rfl
   rw [Nat.add_zero] at p0
   have p1 := hc 1 _ rfl
   have p2 := hc 2 _ rfl
   have p3 := hc 3 _ rfl
   have p4 := hc 4 _ rfl
   have p5 := hc 5 _ rfl
   have p6 := hc 6 _ rfl
   have p7 := hc 7 _ rfl
   obtain ⟨W1, hW1⟩ : ∃ W1, W1 = Par.laid wr X := ⟨_, rfl⟩
   obtain ⟨D, hD⟩ : ∃ D, D = wr.heap.size := ⟨_, rfl⟩
   have HK : Hid (One w ⟨f, mj, kn, rm, ca, cc, cs, some ⟨g0, o0, none⟩, pc, ps, qa, qc, qs⟩ C N W1 ∧ (∀ P ∈ ps.take j, P.mayB H = true) ∧ ps[j]? = some X ∧ X.In W1 N ∧ N ≤ W1.heap.size) := by
    have h1 := hO.kept (w'' := W1) (by rw [hW1]; exact (Keeps.refl _ _).alloc _)
    exact ⟨h1, hall, hX, h1.cin.pin X (List.mem_of_getElem? hX), h1.nn⟩
   have hB : Blk W1 D X.vs 41 := by rw [hW1, hD]; exact Blk.new _ _ _
   have d0 := hB.cell (i := 0) rfl
   have d1 := hB.cell (i := 1) rfl
   have d2 := hB.cell (i := 2) rfl
   have d3 := hB.cell (i := 3) rfl
   have d4 := hB.cell (i := 4) rfl
   have d5 := hB.cell (i := 5) rfl
   have d6 := hB.cell (i := 6) rfl
   have d7 := hB.cell (i := 7) rfl
   have c6 : W1.cell? ⟨C, 6, none⟩ = some (.slice qa H qc) := by have := HK.out.1.cfg.cell (i := 6) rfl; rw [← HL.out.2]; exact this
   clear hall hO hX hc hB
   go_upto_region 8 with fail
   unfold Par.laid at hW1
   rw [← hW1, ← hD]
   clear hW1 hD p0 p1 p2 p3 p4 p5 p6 p7
   have HC : Hid (Calls Tryz.prog 128 #[X.v, .int .i64 H] W1 fun e w' => e = .returned (.bool (X.mayB H)) ∧ KF W1 w') := partitionCanLie_any X H W1 N HK.out.2.2.2.1 HK.out.2.2.2.2
   go_wp2_with fail
   refine HC.out.mono ?_
   rintro e w1 ⟨rfl, hK⟩
   have HO1 : Hid (One w ⟨f, mj, kn, rm, ca, cc, cs, some ⟨g0, o0, none⟩, pc, ps, qa, qc, qs⟩ C N w1) := HK.out.1.kept hK
   clear hK HC c6 d0 d1 d2 d3 d4 d5 d6 d7
   obtain ⟨b, hb⟩ : ∃ b, X.mayB H = b := ⟨_, rfl⟩
   rw [hb]
   have HB : Hid (X.mayB H = b) := hb
   clear hb
   cases b with
   | false =>
    have HM : Hid (Cfg.mayB ⟨f, mj, kn, rm, ca, cc, cs, some ⟨g0, o0, none⟩, pc, ps, qa, qc, qs⟩ = false) := Cfg.mayB_no fun h => by
     have := h.2.2.2.2.1 X (List.mem_of_getElem? HK.out.2.2.1)
     dsimp only at this
     rw [HL.out.2, HB.out] at this
     cases this
    go_wp2
    go_ret
    exact ⟨by rw [HM.out]; rfl, HO1.out.keeps⟩
   | true =>
    go_wp2
    go_roundw
    case rel => exact ⟨j + 1, by omega, by go_num, take_mem HK.out.2.2.1 HK.out.2.1 HB.out, HO1.out⟩
    case measure => simp [intOf]; omega
  ·
   obtain rfl : L = j := by omega
   rw [List.take_of_length_le (by have := HL.out.1; omega)] at hall
   have HR : Hid ((∀ P ∈ ps, P.mayB H = true) ∧ One w ⟨f, mj, kn, rm, ca, cc, cs, pa, pc, ps, qa, qc, qs⟩ C N wr) := ⟨hall, hO⟩
   have c6 : wr.cell? ⟨C, 6, none⟩ = some (.slice qa H qc) := by have := HR.out.2.cfg.cell (i := 6) rfl; rw [← HL.out.2]; exact this
   clear hall hO HO
   go_wp2
   go_loopw [42] (fun i wr => ∃ j : Nat, j ≤ H ∧ i = .int .i64 j ∧ (∀ n, n < j → chnB ps qs n = true) ∧ One w ⟨f, mj, kn, rm, ca, cc, cs, pa, pc, ps, qa, qc, qs⟩ C N wr) (fun i _ => H - (intOf i).toNat)
   case atStart => exact ⟨0, by omega, rfl, fun n hn => by omega, HR.out.2⟩
   case round =>
    obtain ⟨i, hi, rfl, hall, hO⟩ := hrel
    clear c6
    by_cases hlq : i < H
    ·
     obtain ⟨y, hy⟩ : ∃ y, qs[i]? = some y := ⟨_, List.getElem?_eq_getElem (by have := HL.out.2; omega)⟩
     obtain ⟨g1, o1, e, hg1⟩ := hO.cin.chn hy
     dsimp only at e
     subst e
     have y0 := hg1 0 _ rfl
     rw [Nat.add_zero] at y0
     have y1 := hg1 1 _ rfl
     have y2 := hg1 2 _ rfl
     obtain ⟨W1, hW1⟩ : ∃ W1, W1 = wr.alloc (.cells #[.int .i64 y.kind, .int .i64 y.words, .int .i64 y.depth] 48) := ⟨_, rfl⟩
     obtain ⟨D, hD⟩ : ∃ D, D = wr.heap.size := ⟨_, rfl⟩
     have HK : Hid (One w ⟨f, mj, kn, rm, ca, cc, cs, pa, pc, ps, some ⟨g1, o1, none⟩, qc, qs⟩ C N W1 ∧ (∀ n, n < i → chnB ps qs n = true) ∧ qs[i]? = some y) := by
      rw [hW1]; exact ⟨hO.kept ((Keeps.refl _ _).alloc _), hall, hy⟩
     have hB : Blk W1 D y.vs 48 := by rw [hW1, hD]; exact Blk.new _ _ _
     have d0 := hB.cell (i := 0) rfl
     have d1 := hB.cell (i := 1) rfl
     have d2 := hB.cell (i := 2) rfl
     clear hall hO hy hg1 hB
     go_upto_region 14 with fail
     rw [← hW1, ← hD]
     clear hW1 hD y0 y1 y2
     have HC : Hid (Calls Tryz.prog 129 #[y.v] W1 fun e w' => e = .returned (.bool y.whole) ∧ KF W1 w') := whole_any y W1
     go_wp2_with fail
     refine HC.out.mono ?_
     rintro e w1 ⟨rfl, hK⟩
     have HO1 : Hid (One w ⟨f, mj, kn, rm, ca, cc, cs, pa, pc, ps, some ⟨g1, o1, none⟩, qc, qs⟩ C N w1) := HK.out.1.kept hK
     clear hK HC d0 d1 d2
     obtain ⟨b, hb⟩ : ∃ b, y.whole = b := ⟨_, rfl⟩
     rw [hb]
     have HB : Hid (y.whole = b) := hb
     clear hb
     cases b with
     | false =>
      have HM : Hid (Cfg.mayB ⟨f, mj, kn, rm, ca, cc, cs, pa, pc, ps, some ⟨g1, o1, none⟩, qc, qs⟩ = false) := Cfg.mayB_no fun h => by
       have := h.2.2.2.2.2 i (by dsimp only; have := HL.out.2; omega)
       dsimp only at this
       rw [chnB_some HK.out.2.2, HB.out] at this
       cases this
      go_wp2
      go_ret
      exact ⟨by rw [HM.out]; rfl, HO1.out.keeps⟩
     | true =>
      obtain ⟨b0, b1, b2, b3, b4, b5, b6⟩ := HO1.out.cells
      dsimp only at b0 b1 b2 b3 b4 b5 b6
      rw [HL.out.1] at b5
      rw [HL.out.2] at b6
      have hm8 : ps.length ≤ 8 := by have := HL.out.1; omega
      have hm9 : ∀ P ∈ ps, P.ps.length ≤ 8 := fun P hP => (Par.mayB_iff.1 (HR.out.1 P hP)).2.1
      have HC : Hid (Calls Tryz.prog 130 #[.agg #[.int .i64 f, .int .i64 mj, .int .i64 kn, .int .i64 rm, .slice ca cs.length cc, .slice pa L pc, .slice (some ⟨g1, o1, none⟩) H qc], .int .i64 i] w1 fun e w' => e = .returned (.bool (joined i ps)) ∧ KF w1 w') :=
       isJoined_v f mj kn rm ca cc cs pa pc ps (some ⟨g1, o1, none⟩) qc qs L H HL.out.1 HL.out.2 i w1 N HO1.out.cin HO1.out.nn hm8 hm9
      clear hm8 hm9
      go_wp2_with fail
      refine HC.out.mono ?_
      rintro e w2 ⟨rfl, hK⟩
      have HO2 : Hid (One w ⟨f, mj, kn, rm, ca, cc, cs, pa, pc, ps, some ⟨g1, o1, none⟩, qc, qs⟩ C N w2) := HO1.out.kept hK
      clear hK HC b0 b1 b2 b3 b4 b5 b6
      obtain ⟨b, hb⟩ : ∃ b, joined i ps = b := ⟨_, rfl⟩
      rw [hb]
      have HB2 : Hid (joined i ps = b) := hb
      clear hb
      cases b with
      | false =>
       have HM : Hid (Cfg.mayB ⟨f, mj, kn, rm, ca, cc, cs, pa, pc, ps, some ⟨g1, o1, none⟩, qc, qs⟩ = false) := Cfg.mayB_no fun h => by
        have := h.2.2.2.2.2 i (by dsimp only; have := HL.out.2; omega)
        dsimp only at this
        rw [chnB_some HK.out.2.2, HB.out, HB2.out] at this
        cases this
       go_wp2
       go_ret
       exact ⟨by rw [HM.out]; rfl, HO2.out.keeps⟩
      | true =>
       go_wp2
       go_roundw
       case rel =>
        refine ⟨i + 1, by omega, by go_num, fun n hn => ?_, HO2.out⟩
        by_cases e : n = i
        ·
         rw [e, chnB_some HK.out.2.2, HB.out, HB2.out]; rfl
        ·
         exact HK.out.2.1 n (by omega)
       case measure => simp [intOf]; omega
    ·
     obtain rfl : i = H := by omega
     have HM : Hid (Cfg.mayB ⟨f, mj, kn, rm, ca, cc, cs, pa, pc, ps, qa, qc, qs⟩ = true ∧ KF w wr) :=
      ⟨Cfg.mayB_iff.2 ⟨by dsimp only; omega, by dsimp only; omega, by dsimp only; have := HL.out.1; omega, by dsimp only; have := HL.out.2; omega, by dsimp only; rw [HL.out.2]; exact HR.out.1, by dsimp only; rw [HL.out.2]; exact hall⟩, hO.keeps⟩
     clear hall hO
     go_wp2
     go_ret
     exact ⟨by rw [HM.out.1]; rfl, HM.out.2⟩
end Go.Proofs.YtlnmlbkeemahcaaGreat
