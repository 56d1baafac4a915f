import Derived.Test.YtonjmknjjdnjkaaExI
namespace Go.Proofs.Ytonjmknjjdnjkaa
open Go.RowKit
set_option linter.unusedVariables false

theorem fill_step (A : List Value) (k d i : Nat) (m z : Value) (hi : i = A.length + k) :
    (A ++ List.replicate k m ++ List.replicate (d + 1) z).set i m = A ++ List.replicate (k + 1) m ++ List.replicate d z := by
  subst hi
  have h1 : (A ++ List.replicate k m).length = A.length + k := by simp
  rw [← h1, List.set_append_right _ _ (Nat.le_refl _), Nat.sub_self, List.replicate_succ, List.set_cons_zero, List.replicate_succ', List.append_assoc, List.append_assoc, List.append_assoc]
  rfl

theorem over_step (A : List Value) (j : Nat) (m : Value) (hj : j < A.length) :
    (List.replicate j m ++ A.drop j).set j m = List.replicate (j + 1) m ++ A.drop (j + 1) := by
  have h1 : (List.replicate j m).length = j := by simp
  rw [List.set_append_right _ _ (by rw [h1]; exact Nat.le_refl _), h1, Nat.sub_self, List.drop_eq_getElem_cons hj, List.set_cons_zero, List.replicate_succ', List.append_assoc]
  rfl

/-- copy(dst, src), src no longer than dst. -/
theorem run_copy_less {P : Program} {w : World} (dT sT ty elem : TypeId) (hu : P.underlying dT = some (.slice elem)) (hs : (P.info? elem).map (·.size) = some 1)
    (g dLen dCap : Nat) (l : List Value) (t : TypeId) (hg : Blk w g l t) (a : Option Addr) (sCap : Nat) (vs : List Value) (h1 : ∀ v ∈ vs, v.oneCell' = true)
    (hx : vs = [] ∨ ∃ b p, a = some ⟨b, p, none⟩ ∧ ∀ j u, vs[j]? = some u → w.cell? ⟨b, p + j, none⟩ = some u) (hd : vs.length ≤ dLen) (hfit : vs.length ≤ l.length) :
    (Builtin.copy_ #[dT, sT] ty #[.slice (some ⟨g, 0, none⟩) dLen dCap, .slice a vs.length sCap]).run P w = .ok (goInt vs.length) (w.setRow g (vs ++ l.drop vs.length).toArray) := by
  have hself := setRow_self w g l.toArray t (0, 0) hg
  rcases hx with rfl | ⟨b, p, rfl, hc⟩
  · have h := run_copy_none (P := P) w dT sT ty elem (some ⟨g, 0, none⟩) a dLen dCap 0 sCap hu hs (Nat.zero_min _)
    simp only [List.length_nil, List.nil_append, List.drop_zero]
    rw [hself]
    exact h
  · have h := run_copy_row P w dT sT ty elem g 0 dLen dCap ⟨b, p, none⟩ vs.length sCap l.toArray t vs hu hs hg (by rw [show Nat.min vs.length dLen = min vs.length dLen from rfl]; omega) (by
      intro j u hj
      rw [addr_add]
      exact hc j u hj) (by simpa using hfit) h1
    simp only [List.take_zero, List.nil_append, Nat.zero_add] at h
    exact h

theorem bvs_rep (n : Nat) (x : UInt8) : bvs (List.replicate n x) = List.replicate n (.int .u8 (x.toNat : Int)) := by simp [bvs]

def m77 : Value := .int .u8 77
def m78 : Value := .int .u8 78

theorem seg_cells {w : World} {a : Option Addr} {xs : List UInt8} (h : Seg w a xs) : bvs xs = [] ∨ ∃ b p, a = some ⟨b, p, none⟩ ∧ ∀ j u, (bvs xs)[j]? = some u → w.cell? ⟨b, p + j, none⟩ = some u := by
  rcases h with h | ⟨g, o, h, k⟩
  · left; rw [h]; rfl
  · right
    refine ⟨g, o, h, fun j u hj => ?_⟩
    have hlt : j < xs.length := by
      have := (List.getElem?_eq_some_iff.1 hj).1
      rw [bvs_length] at this
      exact this
    rw [bvs_get xs j hlt] at hj
    rw [k j hlt]; exact hj

set_option maxHeartbeats 400000 in
theorem lentBytes_any (a : Option Addr) (c : Nat) (xs : List UInt8) (w : World) (hx : Seg w a xs) (hl : xs.length ≤ 17592186044416) :
    Calls Try.prog 46 #[.slice a xs.length c] w fun e w' => e = .returned (.slice (some ⟨w.heap.size, 0, none⟩) xs.length (xs.length + 9)) ∧ Blk w' w.heap.size (bvs xs ++ List.replicate 9 m77) 5 ∧ Keeps (fun _ => False) w w' := by
  obtain ⟨i0, hi, hz0, hz1, hz2⟩ := info_parts Try.info5
  have hmk := run_make_bytes (P := Try.prog) (w := w) 38 5 i0 Try.underlying38 hi hz0 hz1 hz2 (xs.length + 9) (by omega)
  obtain ⟨W1, hW⟩ : ∃ W1, W1 = w.alloc (.cells (bvs (List.replicate (xs.length + 9) 0)).toArray 5) := ⟨_, rfl⟩
  rw [← hW] at hmk
  have hK1 : Keeps (fun _ => False) w W1 := by rw [hW]; exact (Keeps.refl _ w).alloc _
  have hB1 : Blk W1 w.heap.size (bvs (List.replicate (xs.length + 9) 0)) 5 := by rw [hW]; exact Blk.new w _ 5
  have hs1 : Seg W1 a xs := hx.kept hK1 (fun _ _ e => e)
  have hcp := fun ty => run_copy_less (P := Try.prog) (w := W1) 38 38 ty 5 Try.underlying38 Try.size5 w.heap.size (xs.length + 9) (xs.length + 9) _ 5 hB1 a c (bvs xs) (bvs_one xs) (seg_cells hs1) (by rw [bvs_length]; omega) (by simp only [bvs_length, List.length_replicate]; omega)
  obtain ⟨W2, hW2⟩ : ∃ W2, W2 = W1.setRow w.heap.size (bvs xs ++ (bvs (List.replicate (xs.length + 9) 0)).drop (bvs xs).length).toArray := ⟨_, rfl⟩
  rw [← hW2] at hcp
  have hB2 : Blk W2 w.heap.size (bvs xs ++ List.replicate 0 m77 ++ List.replicate 9 (.int .u8 0)) 5 := by
    have := hB1.setRow (bvs xs ++ (bvs (List.replicate (xs.length + 9) 0)).drop (bvs xs).length)
    rw [← hW2] at this
    rw [bvs_length, bvs_rep, List.drop_replicate, show xs.length + 9 - xs.length = 9 by omega] at this
    simpa using this
  have hK2 : Keeps (fun _ => False) w W2 := by rw [hW2]; exact hK1.setRow _ _ (fun h => by omega)
  rw [bvs_length] at hcp
  obtain ⟨G, hG⟩ : ∃ G, G = w.heap.size := ⟨_, rfl⟩
  have HG : Hid (G = w.heap.size) := hG
  obtain ⟨n, hn⟩ : ∃ n, n = xs.length := ⟨_, rfl⟩
  have HN : Hid (n = xs.length) := hn
  rw [← hG, ← hn] at hmk hcp ⊢
  rw [← hG] at hB2
  have hnb : (n : Int) ≤ 17592186044416 := by omega
  have HM : Hid (_ = _) := hmk
  have HCP : Hid (∀ ty, _) := hcp
  have HB2 : Hid (Blk _ _ _ _) := hB2
  have HK2 : Hid (Keeps _ _ _) := hK2
  clear hmk hcp hB2 hK2 hW hW2 hK1 hB1 hs1 hG hn hl
  go_enter Try.func46, Try.ntmps46
  go_wp2_with (at_make; refine wpList_make_run rfl (.tmp 7) (.tmp 7) 38 rfl (.int .i64 ((n : Int) + 9)) (.int .i64 ((n : Int) + 9)) (.slice (some ⟨G, 0, none⟩) (n + 9) (n + 9)) W1 rfl rfl HM.out ?_; refine Hid.out ?_)
  unfold Hid
  go_wp2_with (refine isCopy (.tmp 9) (.tmp 10) 38 38 rfl ?_; go_must (refine wpList_copy_run rfl (.tmp 9) (.tmp 10) 38 38 rfl (.slice (some ⟨G, 0, none⟩) (n + 9) (n + 9)) (.slice a n c) (goInt n) W2 rfl rfl HCP.out ?_))
  go_loopw [4] (fun i wr => ∃ j : Nat, j ≤ 9 ∧ i = .int .i64 ((n : Int) + (j : Int)) ∧ Blk wr G (bvs xs ++ List.replicate j m77 ++ List.replicate (9 - j) (.int .u8 0)) 5 ∧ Keeps (fun _ => False) w wr)
    (fun i _ => n + 9 - (intOf i).toNat)
  case atStart => exact ⟨0, by omega, by simp, HB2.out, HK2.out⟩
  case round =>
    obtain ⟨j, hj, rfl, hBr, hKr⟩ := hrel
    have HB : Hid (Blk wr _ _ _) := hBr
    have HK : Hid (Keeps (fun _ => False) w wr) := hKr
    clear hBr hKr HB2 HK2
    by_cases hlt : j < 9
    · obtain ⟨d, hd⟩ : ∃ d, 9 - j = d + 1 := ⟨9 - j - 1, by omega⟩
      rw [hd] at HB
      obtain ⟨v, hv⟩ : ∃ v, (bvs xs ++ List.replicate j m77 ++ List.replicate (d + 1) (Value.int .u8 0))[n + j]? = some v := by
        refine ⟨_, List.getElem?_eq_getElem ?_⟩
        have := HN.out
        simp only [List.length_append, bvs_length, List.length_replicate]; omega
      have hc := HB.out.cell hv
      have hf := HB.out.frozen (n + j)
      have hst : Hid (_ = _) := fill_step (bvs xs) j d (n + j) m77 (.int .u8 0) (by rw [bvs_length, ← HN.out])
      have HD : Hid (9 - j = d + 1) := hd
      have hlt' : (j : Int) < 9 := by omega
      clear hv hd
      go_wp2
      go_roundw
      case rel =>
        refine ⟨j + 1, by omega, by go_num, ?_, HK.out.setCell _ _ fun h => by
          have h1 : G < w.heap.size := h
          have := HG.out; omega⟩
        rw [show 9 - (j + 1) = d by have := HD.out; omega, ← hst.out]
        exact HB.out.setCell _ _
      case measure => simp [intOf]; omega
    · obtain rfl : j = 9 := by omega
      go_wp2
      go_ret
      refine ⟨rfl, ?_, HK.out⟩
      have := HB.out
      simpa using this

set_option maxHeartbeats 1000000 in
theorem backBytes_any (G c : Nat) (a : Option Addr) (xs : List UInt8) (w : World) (hx : Seg w a xs) (hB : Blk w G (bvs xs ++ List.replicate 9 m77) 5) (hne : xs = [] ∨ ∀ x, a = some x → x.block ≠ G) (hl : xs.length ≤ 17592186044416) :
    Calls Try.prog 48 #[.slice (some ⟨G, 0, none⟩) xs.length (xs.length + 9), .slice a xs.length c] w fun e w' => e = .returned (.bool true) ∧ Blk w' G (List.replicate (xs.length + 9) m78) 5 ∧ Keeps (· = G) w w' := by
  obtain ⟨n, hn⟩ : ∃ n, n = xs.length := ⟨_, rfl⟩
  have HN : Hid (n = xs.length) := hn
  have HX : Hid (Seg w a xs) := hx
  have HBB : Hid (Blk _ _ _ _) := hB
  have HNE : Hid (xs = [] ∨ ∀ x, a = some x → x.block ≠ G) := hne
  rw [← hn] at hl ⊢
  have hnb : (n : Int) ≤ 17592186044416 := by omega
  clear hn hx hB hne hl
  go_enter Try.func48, Try.ntmps48
  go_wp2
  go_loopw [6, 7] (fun b i wr => ∃ j : Nat, j ≤ n + 9 ∧ i = .int .i64 (j : Int) ∧ b = .bool true ∧ Blk wr G (List.replicate j m78 ++ (bvs xs ++ List.replicate 9 m77).drop j) 5 ∧ Keeps (· = G) w wr)
    (fun _ i _ => n + 9 - (intOf i).toNat)
  case atStart => exact ⟨0, by omega, by simp, rfl, by simpa using HBB.out, Keeps.refl _ _⟩
  case round =>
    obtain ⟨j, hj, rfl, rfl, hBr, hKr⟩ := hrel
    have HB : Hid (Blk wr _ _ _) := hBr
    have HK : Hid (Keeps (· = G) w wr) := hKr
    clear hBr hKr HBB
    by_cases hlt : j < n + 9
    · have hAl : (bvs xs ++ List.replicate 9 m77).length = n + 9 := by rw [List.length_append, bvs_length, List.length_replicate, ← HN.out]
      have hat : (List.replicate j m78 ++ (bvs xs ++ List.replicate 9 m77).drop j)[j]? = (bvs xs ++ List.replicate 9 m77)[j]? := by
        rw [List.getElem?_append_right (by simp), List.length_replicate, Nat.sub_self, List.getElem?_drop]; rfl
      have hst : Hid (_ = _) := over_step (bvs xs ++ List.replicate 9 m77) j m78 (by omega)
      by_cases hin : j < n
      · have hjx : j < xs.length := by have := HN.out; omega
        have hv : (List.replicate j m78 ++ (bvs xs ++ List.replicate 9 m77).drop j)[j]? = some (.int .u8 (xs[j].toNat : Int)) := by
          rw [hat, List.getElem?_append_left (by rw [bvs_length]; exact hjx), bvs_get xs j hjx]
        have hc := HB.out.cell hv
        have hf := HB.out.frozen j
        have hs : Seg wr a xs := by
          rcases HNE.out with e | e
          · exact .inl e
          · exact HX.out.kept HK.out fun x e1 e2 => e x e1 e2
        rcases hs with hs | ⟨g2, o2, rfl, hk⟩
        · rw [hs] at hjx; simp at hjx
        have hd := hk j hjx
        obtain ⟨X, hX⟩ : ∃ X, X = (xs[j]).toNat := ⟨_, rfl⟩
        rw [← hX] at hc hd
        have hin' : (j : Int) < (n : Int) := by omega
        have hin9 : (j : Int) < (n : Int) + 9 := by omega
        clear hv hat hAl hk hX
        go_wp2
        go_quiet (fail)
        go_wp2
        go_roundw
        case rel =>
          refine ⟨j + 1, by omega, by go_num, rfl, ?_, (HK.out.drewN _).setCell _ _ fun _ => rfl⟩
          rw [← hst.out]
          exact (HB.out.drewN _).setCell _ _
        case measure => simp [intOf]; omega
      · have hv : (List.replicate j m78 ++ (bvs xs ++ List.replicate 9 m77).drop j)[j]? = some (.int .u8 77) := by
          rw [hat, List.getElem?_append_right (by rw [bvs_length, ← HN.out]; omega), List.getElem?_replicate, if_pos (by rw [bvs_length, ← HN.out]; omega)]; rfl
        have hc := HB.out.cell hv
        have hf := HB.out.frozen j
        have hin' : ¬ (j : Int) < (n : Int) := by omega
        have hin9 : (j : Int) < (n : Int) + 9 := by omega
        clear hv hat hAl
        go_wp2
        go_roundw
        case rel =>
          refine ⟨j + 1, by omega, by go_num, rfl, ?_, HK.out.setCell _ _ fun _ => rfl⟩
          rw [← hst.out]
          exact HB.out.setCell _ _
        case measure => simp [intOf]; omega
    · obtain rfl : j = n + 9 := by omega
      go_wp2
      go_ret
      refine ⟨rfl, ?_, HK.out⟩
      have := HB.out
      rw [List.drop_of_length_le (by rw [List.length_append, bvs_length, List.length_replicate, ← HN.out]; exact Nat.le_refl _), List.append_nil] at this
      exact this

set_option maxHeartbeats 400000 in
theorem sameBytes_any (a1 a2 : Option Addr) (c1 c2 : Nat) (us vs : List UInt8) (w : World) (h1 : Seg w a1 us) (h2 : Seg w a2 vs) (hl1 : us.length ≤ maxLen) (he : us = vs) :
    Calls Try.prog 66 #[.slice a1 us.length c1, .slice a2 vs.length c2] w fun e w' => e = .returned (.bool true) ∧ Keeps (fun _ => False) w w' := by
  unfold maxLen at hl1
  subst he
  obtain ⟨n, hn⟩ : ∃ n, n = us.length := ⟨_, rfl⟩
  have HN : Hid (n = us.length) := hn
  have H1 : Hid (Seg w a1 us) := h1
  have H2 : Hid (Seg w a2 us) := h2
  rw [← hn] at hl1 ⊢
  clear hn h1 h2
  go_enter Try.func66, Try.ntmps66
  go_wp2
  go_loopw [5] (fun i wr => ∃ j : Nat, j ≤ n ∧ i = .int .i64 j ∧ Keeps (fun _ => False) w wr) (fun i _ => n - (intOf i).toNat)
  case atStart => exact ⟨0, by omega, rfl, Keeps.refl _ _⟩
  case round =>
    obtain ⟨j, hj, rfl, hKr⟩ := hrel
    have HK : Hid (Keeps (fun _ => False) w wr) := hKr
    clear hKr
    by_cases hlt : j < n
    · have hjx : j < us.length := by have := HN.out; omega
      have s1 : Seg wr a1 us := H1.out.kept HK.out (fun _ _ e => e)
      have s2 : Seg wr a2 us := H2.out.kept HK.out (fun _ _ e => e)
      rcases s1 with s1 | ⟨g1, o1, rfl, k1⟩
      · rw [s1] at hjx; simp at hjx
      · rcases s2 with s2 | ⟨g2, o2, rfl, k2⟩
        · rw [s2] at hjx; simp at hjx
        · have e1 := k1 j hjx
          have e2 := k2 j hjx
          have hlt' : (j : Int) < (n : Int) := by omega
          clear k1 k2
          go_wp2
          go_quiet (fail)
          go_wp2
          go_roundw
          case rel => exact ⟨j + 1, by omega, by go_num, HK.out.drewN _⟩
          case measure => simp [intOf]; omega
    · obtain rfl : j = n := by omega
      go_wp2
      go_ret
      exact ⟨rfl, HK.out⟩

/-- n entries of one mark, k of another. -/
def twoM (n k : Nat) (x y : UInt8) : List UInt8 := List.replicate n x ++ List.replicate k y
theorem twoM_length (n k : Nat) (x y : UInt8) : (twoM n k x y).length = n + k := by simp [twoM]
theorem twoM_get (n k : Nat) (x y : UInt8) (j : Nat) (h : j < (twoM n k x y).length) : (twoM n k x y)[j] = if j < n then x else y := by
  have h2 : (twoM n k x y)[j]? = some (if j < n then x else y) := by
    rw [twoM_length] at h
    unfold twoM
    by_cases h1 : j < n
    · rw [List.getElem?_append_left (by simpa using h1), List.getElem?_replicate, if_pos h1, if_pos h1]
    · rw [List.getElem?_append_right (by simpa using h1), List.getElem?_replicate, if_neg h1, if_pos (by simp; omega)]
  exact (List.getElem?_eq_some_iff.1 h2).2

set_option maxHeartbeats 400000 in
theorem allBytes_any (a : Option Addr) (c n k : Nat) (x y : UInt8) (w : World) (h : Seg w a (twoM n k x y)) (hl : n + k ≤ maxLen) :
    Calls Try.prog 67 #[.slice a (n + k) c, .int .i64 n, .int .u8 (x.toNat : Int), .int .u8 (y.toNat : Int)] w fun e w' => e = .returned (.bool true) ∧ Keeps (fun _ => False) w w' := by
  unfold maxLen at hl
  have H1 : Hid (Seg w a (twoM n k x y)) := h
  obtain ⟨X, hX⟩ : ∃ X, X = x.toNat := ⟨_, rfl⟩
  obtain ⟨Y, hY⟩ : ∃ Y, Y = y.toNat := ⟨_, rfl⟩
  have HX : Hid (X = x.toNat ∧ Y = y.toNat) := ⟨hX, hY⟩
  rw [← hX, ← hY]
  clear h hX hY
  go_enter Try.func67, Try.ntmps67
  go_wp2
  go_loopw [9] (fun i wr => ∃ j : Nat, j ≤ n + k ∧ i = .int .i64 j ∧ Keeps (fun _ => False) w wr) (fun i _ => n + k - (intOf i).toNat)
  case atStart => exact ⟨0, by omega, rfl, Keeps.refl _ _⟩
  case round =>
    obtain ⟨j, hj, rfl, hKr⟩ := hrel
    have HK : Hid (Keeps (fun _ => False) w wr) := hKr
    clear hKr
    by_cases hlt : j < n + k
    · have hjx : j < (twoM n k x y).length := by rw [twoM_length]; exact hlt
      have s1 : Seg wr a (twoM n k x y) := H1.out.kept HK.out (fun _ _ e => e)
      rcases s1 with s1 | ⟨g1, o1, rfl, k1⟩
      · rw [s1] at hjx; simp at hjx
      · have e1 := k1 j hjx
        rw [twoM_get] at e1
        have hlt' : (j : Int) < (n : Int) + (k : Int) := by omega
        clear k1
        by_cases hin : j < n
        · rw [if_pos hin, ← HX.out.1] at e1
          have hin' : (j : Int) < (n : Int) := by omega
          go_wp2
          go_roundw
          case rel => exact ⟨j + 1, by omega, by go_num, HK.out⟩
          case measure => simp [intOf]; omega
        · rw [if_neg hin, ← HX.out.2] at e1
          have hin' : ¬ (j : Int) < (n : Int) := by omega
          have hin2 : (n : Int) ≤ (j : Int) := by omega
          go_wp2
          go_roundw
          case rel => exact ⟨j + 1, by omega, by go_num, HK.out⟩
          case measure => simp [intOf]; omega
    · obtain rfl : j = n + k := by omega
      go_wp2
      go_ret
      exact ⟨rfl, HK.out⟩
end Go.Proofs.Ytonjmknjjdnjkaa
