import Derived.Test.YtnkfdmlpjgmckaaU
namespace Go.Proofs.Ytnkfdmlpjgmckaa
open Go.RowKit
set_option linter.unusedVariables false
set_option maxRecDepth 6000

def begC (ws : List Win) (j L : Nat) : List Value := (List.range L).map fun i => Value.int .i64 (if i < j then beg ws i else 0)
theorem begC_len (ws : List Win) (j L : Nat) : (begC ws j L).length = L := by simp [begC]
theorem begC_get (ws : List Win) {j L i : Nat} (hi : i < L) : (begC ws j L)[i]? = some (.int .i64 (if i < j then beg ws i else 0)) := by simp [begC, hi]
theorem begC_set (ws : List Win) {j L : Nat} (hj : j < L) : (begC ws j L).set j (.int .i64 (beg ws j)) = begC ws (j + 1) L := by
  apply List.ext_getElem?
  intro i
  by_cases hi : i < L
  · rw [begC_get ws hi]
    by_cases e : j = i
    · subst e
      rw [List.getElem?_set_self (by rw [begC_len]; exact hj), if_pos (by omega)]
    · rw [List.getElem?_set_ne e, begC_get ws hi]
      by_cases h : i < j
      · rw [if_pos h, if_pos (by omega)]
      · rw [if_neg h, if_neg (by omega)]
  · rw [List.getElem?_eq_none (by rw [List.length_set, begC_len]; omega), List.getElem?_eq_none (by rw [begC_len]; omega)]
def begs (ws : List Win) : List Int := (List.range ws.length).map (beg ws)
theorem begC_full (ws : List Win) : begC ws ws.length ws.length = (begs ws).map (Value.int .i64) := by
  unfold begC begs
  rw [List.map_map]
  apply List.map_congr_left
  intro i hi
  rw [if_pos (List.mem_range.1 hi)]
  rfl
theorem begs_len (ws : List Win) : (begs ws).length = ws.length := by simp [begs]
theorem Try.info3 : (Try.prog.info? 3).map (fun i => (i.zero, i.size, i.bytes)) = some (some (.int .i64 0), 1, 8) := by kernel_rfl
theorem run_make_ints (w : World) (n : Nat) (hn : n ≤ 1000000000) :
    (Instr.makeSlice 35 (.int .i64 n) (.int .i64 n)).run Try.prog w = .ok (.slice (some ⟨w.heap.size, 0, none⟩) n n) (w.alloc (.cells (List.replicate n (.int .i64 0)).toArray 3)) := by
  obtain ⟨i0, hi, hz0, hz1, hz2⟩ := info_parts Try.info3
  have h := run_make (P := Try.prog) w 35 3 i0 _ Try.underlying35 hi hz0 .i64 .i64 n n (by omega) (by omega) (by rw [hz2]; omega) (by omega)
  rw [Int.toNat_natCast, hz1, Nat.mul_one] at h
  have e : ∀ m, madeCells (Value.int .i64 0).cells m = (List.replicate m (Value.int .i64 0)).toArray := by
    intro m
    apply Array.ext'
    apply List.ext_getElem?
    intro i
    have hm : i % 1 = 0 := by omega
    simp [madeCells, List.getElem?_replicate]
    by_cases hi : i < m
    · simp [hi, Value.cells, hm]
    · simp [hi]
  rw [e] at h
  exact h
theorem begC_zero (ws : List Win) (L : Nat) : begC ws 0 L = List.replicate L (.int .i64 0) := by
  unfold begC
  apply List.ext_getElem?
  intro i
  by_cases hi : i < L
  · simp [hi]
  · simp [hi]

/-- What Starts tells. -/
def StP (w : World) (x : Cfg) (k : Int) (e : Ending) (w' : World) : Prop :=
  Keeps (fun _ => False) w w' ∧ (((k < 0 ∨ x.cs.length ≤ k) ∧ e = .returned (.tuple #[.slice none 0 0, .int .i64 140])) ∨ ∃ (n : Nat) (X : Core), k = n ∧ x.cs[n]? = some X ∧
    ((may X.ws = false ∧ e = .returned (.tuple #[.slice none 0 0, .int .i64 1])) ∨ (may X.ws = true ∧ ∃ g, e = .returned (.tuple #[.slice (some ⟨g, 0, none⟩) X.ws.length X.ws.length, .int .i64 0]) ∧ w.heap.size ≤ g ∧ Blk w' g ((begs X.ws).map (.int .i64)) 3)))

theorem starts_no (x : Cfg) (k : Int) (w : World) (N : Nat) (hi : x.In w N) (hN : N ≤ w.heap.size) (hk : k < 0 ∨ x.cs.length ≤ k) :
    Calls Try.prog 13 #[x.v, .int .i64 k] w (StP w x k) := by
  have HR : Hid (k < 0 ∨ x.cs.length ≤ k) := hk
  obtain ⟨W, hW⟩ : ∃ W, W = x.laid w := ⟨_, rfl⟩
  obtain ⟨C, hC⟩ : ∃ C, C = w.heap.size := ⟨_, rfl⟩
  have HO : Hid (One w x C N W) := by rw [hW, hC]; exact One.mk' hi hN
  clear hi hN hk
  unfold Cfg.laid at hW
  go_enter Try.func13, Try.ntmps13
  go_wp2_with fail
  rw [← hW, ← hC]
  clear hW hC
  refine (coreSpans_no x k W N HO.out.cin HO.out.nn HR.out).mono ?_
  rintro e w1 ⟨rfl, hK⟩
  have HO1 : Hid (One w x C N w1) := HO.out.kept hK
  clear hK
  go_wp2
  go_ret2
  exact ⟨HO1.out.keeps, .inl ⟨HR.out, rfl⟩⟩
theorem starts_bad (x : Cfg) (k : Nat) (X : Core) (hX : x.cs[k]? = some X) (hm : may X.ws = false) (w : World) (N : Nat) (hi : x.In w N) (hN : N ≤ w.heap.size) :
    Calls Try.prog 13 #[x.v, .int .i64 k] w (StP w x k) := by
  have HR : Hid (x.cs[k]? = some X ∧ may X.ws = false) := ⟨hX, hm⟩
  obtain ⟨W, hW⟩ : ∃ W, W = x.laid w := ⟨_, rfl⟩
  obtain ⟨C, hC⟩ : ∃ C, C = w.heap.size := ⟨_, rfl⟩
  have HO : Hid (One w x C N W) := by rw [hW, hC]; exact One.mk' hi hN
  clear hi hN hX hm
  unfold Cfg.laid at hW
  go_enter Try.func13, Try.ntmps13
  go_wp2_with fail
  rw [← hW, ← hC]
  clear hW hC
  refine (coreSpans_bad x k X HR.out.1 HR.out.2 W N HO.out.cin HO.out.nn).mono ?_
  rintro e w1 ⟨rfl, hK⟩
  have HO1 : Hid (One w x C N w1) := HO.out.kept hK
  clear hK
  go_wp2
  go_ret2
  exact ⟨HO1.out.keeps, .inr ⟨k, X, rfl, HR.out.1, .inl ⟨HR.out.2, rfl⟩⟩⟩

set_option maxHeartbeats 2000000 in
theorem starts_ok (x : Cfg) (k : Nat) (X : Core) (hX : x.cs[k]? = some X) (hm : may X.ws = true) (w : World) (N : Nat) (hi : x.In w N) (hN : N ≤ w.heap.size) :
    Calls Try.prog 13 #[x.v, .int .i64 k] w (StP w x k) := by
  have HR : Hid (x.cs[k]? = some X ∧ may X.ws = true) := ⟨hX, hm⟩
  obtain ⟨W, hW⟩ : ∃ W, W = x.laid w := ⟨_, rfl⟩
  obtain ⟨C, hC⟩ : ∃ C, C = w.heap.size := ⟨_, rfl⟩
  have HO : Hid (One w x C N W) := by rw [hW, hC]; exact One.mk' hi hN
  have hL16 : X.ws.length ≤ 16 := (may_iff.1 hm).2.1
  clear hi hN hX hm
  unfold Cfg.laid at hW
  go_enter Try.func13, Try.ntmps13
  go_wp2_with fail
  rw [← hW, ← hC]
  clear hW hC
  refine (coreSpans_ok x k X HR.out.1 HR.out.2 W N HO.out.cin HO.out.nn).mono ?_
  rintro e w1 ⟨g, rfl, h1, h2, h3, hK⟩
  have HO1 : Hid (One w x C N w1 ∧ SegA Spn.vs 4 w1 (some ⟨g, 0, none⟩) (Go.Proofs.Ytnkfdmlpjgmckaa.laid k X.ws)) := ⟨HO.out.kept hK, h3⟩
  clear hK h1 h2 h3
  obtain ⟨L, hL⟩ : ∃ L, X.ws.length = L := ⟨_, rfl⟩
  have HL : Hid (X.ws.length = L) := hL
  rw [hL] at hL16 ⊢
  clear hL
  have HM := run_make_ints w1 L (by omega)
  obtain ⟨G, hG⟩ : ∃ G, G = w1.heap.size := ⟨_, rfl⟩
  obtain ⟨W1, hW1⟩ : ∃ W1, W1 = w1.alloc (.cells (List.replicate L (.int .i64 0)).toArray 3) := ⟨_, rfl⟩
  have HB : Hid (Blk W1 G (begC X.ws 0 L) 3 ∧ One w x C N W1 ∧ SegA Spn.vs 4 W1 (some ⟨g, 0, none⟩) (Go.Proofs.Ytnkfdmlpjgmckaa.laid k X.ws) ∧ w.heap.size ≤ G ∧ C < G ∧ g < G) := by
    have hC1 := HO1.out.1.cfg.lt
    have hg1 : g < w1.heap.size := segA_lt HO1.out.2 (fun _ => by simp) (fun h => by have h1 := congrArg List.length h; rw [laid_length, List.length_nil] at h1; have := (may_iff.1 HR.out.2).1; omega) _ rfl
    rw [hW1, hG, begC_zero]; exact ⟨Blk.new _ _ _, HO1.out.1.kept ((Keeps.refl _ _).alloc _), HO1.out.2.kept ((Keeps.refl (fun _ => False) _).alloc _) (fun _ _ _ h => h), HO1.out.1.keeps.size, hC1, hg1⟩
  rw [← hW1, ← hG] at HM
  clear hW1 hG
  go_wp2_with (refine wpList_make_run rfl _ _ _ rfl _ _ _ _ rfl rfl HM ?_)
  clear HM HO1
  go_loopw [25] (fun i wr => ∃ j : Nat, j ≤ L ∧ i = .int .i64 j ∧ Blk wr G (begC X.ws j L) 3 ∧ One w x C N wr ∧ SegA Spn.vs 4 wr (some ⟨g, 0, none⟩) (Go.Proofs.Ytnkfdmlpjgmckaa.laid k X.ws)) (fun i _ => L - (intOf i).toNat)
  case atStart => exact ⟨0, by omega, rfl, HB.out.1, HB.out.2.1, HB.out.2.2.1⟩
  case round =>
    obtain ⟨j, hj, rfl, hB, hO, hS⟩ := hrel
    by_cases hlt : j < L
    · have hjl : j < X.ws.length := by have := HL.out; omega
      obtain ⟨g1, o1, e1, hg1⟩ := hS.at (laid_get (core := k) hjl)
      cases e1
      have s0 := hg1 0 _ rfl
      have s1 := hg1 1 _ rfl
      have s2 := hg1 2 _ rfl
      have s3 := hg1 3 _ rfl
      rw [Nat.zero_add] at s0 s1 s2 s3
      rw [Nat.add_zero] at s0
      obtain ⟨B, hBd⟩ : ∃ B, beg X.ws j = B := ⟨_, rfl⟩
      obtain ⟨B', hBd'⟩ : ∃ B, beg X.ws (j + 1) = B := ⟨_, rfl⟩
      dsimp only at s0 s1 s2 s3
      rw [hBd] at s2
      rw [hBd'] at s3
      have HBd : Hid (beg X.ws j = B) := hBd
      obtain ⟨W2, hW2⟩ : ∃ W2, W2 = wr.alloc (.cells #[.int .i64 k, .int .i64 j, .int .i64 B, .int .i64 B'] 69) := ⟨_, rfl⟩
      obtain ⟨D, hD⟩ : ∃ D, D = wr.heap.size := ⟨_, rfl⟩
      have HW2 : Hid (Blk W2 D [.int .i64 k, .int .i64 j, .int .i64 B, .int .i64 B'] 69 ∧ Blk W2 G (begC X.ws j L) 3 ∧ One w x C N W2 ∧ SegA Spn.vs 4 W2 (some ⟨g, 0, none⟩) (Go.Proofs.Ytnkfdmlpjgmckaa.laid k X.ws)) := by
        rw [hW2, hD]; exact ⟨Blk.new _ _ _, hB.alloc _, hO.kept ((Keeps.refl _ _).alloc _), hS.kept ((Keeps.refl (fun _ => False) _).alloc _) (fun _ _ _ h => h)⟩
      clear hB hO hS hg1 hBd hBd'
      go_upto_region 8 with fail
      rw [← hW2, ← hD]
      clear hW2 hD s0 s1 s2 s3
      have d2 := HW2.out.1.cell (i := 2) rfl
      have hG := HW2.out.2.1.cell (begC_get X.ws (j := j) (i := j) (L := L) (by omega))
      have fG := HW2.out.2.1.frozen j
      go_wp2
      go_roundw
      case rel =>
        have hg := HB.out.2.2.2
        refine ⟨j + 1, by omega, by go_num, ?_, ?_, ?_⟩
        · rw [← begC_set X.ws (by omega), HBd.out]; exact HW2.out.2.1.setCell j _
        · refine HW2.out.2.2.1.up (S := fun b => b = G) ((Keeps.refl _ _).setCell _ _ fun _ => rfl) ?_
          rintro b rfl
          omega
        · refine HW2.out.2.2.2.kept (S := fun b => b = G) ((Keeps.refl _ _).setCell _ _ fun _ => rfl) ?_
          intro _ y hy e
          cases hy
          dsimp only at e
          omega
      case measure => simp [intOf]; omega
    · obtain rfl : j = L := by omega
      have HE : Hid (Blk wr G (begC X.ws j j) 3 ∧ One w x C N wr) := ⟨hB, hO⟩
      clear hB hO hS
      go_wp2
      go_ret2
      refine ⟨HE.out.2.keeps, .inr ⟨k, X, rfl, HR.out.1, .inr ⟨HR.out.2, G, by rw [HL.out]; rfl, HB.out.2.2.2.1, ?_⟩⟩⟩
      rw [← begC_full, HL.out]
      exact HE.out.1
theorem starts_any (x : Cfg) (k : Int) (w : World) (N : Nat) (hi : x.In w N) (hN : N ≤ w.heap.size) :
    Calls Try.prog 13 #[x.v, .int .i64 k] w (StP w x k) := by
  by_cases hk : k < 0 ∨ x.cs.length ≤ k
  · exact starts_no x k w N hi hN hk
  · obtain ⟨n, rfl⟩ : ∃ n : Nat, k = n := ⟨k.toNat, by omega⟩
    obtain ⟨X, hX⟩ : ∃ X, x.cs[n]? = some X := ⟨_, List.getElem?_eq_getElem (by omega)⟩
    by_cases hm : may X.ws = true
    · exact starts_ok x n X hX hm w N hi hN
    · exact starts_bad x n X hX (by simpa using hm) w N hi hN
end Go.Proofs.Ytnkfdmlpjgmckaa
