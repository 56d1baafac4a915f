import Derived.Test.YtonjmknjjdnjkaaExJ
namespace Go.Proofs.Ytonjmknjjdnjkaa
open Go.RowKit
set_option linter.unusedVariables false

theorem wvs_one (xs : List UInt32) : ∀ v ∈ wvs xs, v.oneCell' = true := by
  intro v hv
  obtain ⟨x, _, rfl⟩ := List.mem_map.1 hv
  rfl

theorem wvs_rep (n : Nat) (x : UInt32) : wvs (List.replicate n x) = List.replicate n (.int .u32 (x.toNat : Int)) := by simp [wvs]

def n77 : Value := .int .u32 2004318071
def n78 : Value := .int .u32 2021161080

theorem segW_cells {w : World} {a : Option Addr} {xs : List UInt32} (h : SegW w a xs) : wvs xs = [] ∨ ∃ b p, a = some ⟨b, p, none⟩ ∧ ∀ j u, (wvs xs)[j]? = some u → w.cell? ⟨b, p + j, none⟩ = some u := by
  rcases h with h | ⟨g, o, h, k⟩
  · left; rw [h]; rfl
  · right
    refine ⟨g, o, h, fun j u hj => ?_⟩
    have hlt : j < xs.length := by
      have := (List.getElem?_eq_some_iff.1 hj).1
      rw [wvs_length] at this
      exact this
    rw [wvs_get xs j hlt] at hj
    rw [k j hlt]; exact hj

set_option maxHeartbeats 400000 in
theorem lentWords_any (a : Option Addr) (c : Nat) (xs : List UInt32) (w : World) (hx : SegW w a xs) (hl : xs.length ≤ 17592186044416) :
    Calls Try.prog 53 #[.slice a xs.length c] w fun e w' => e = .returned (.slice (some ⟨w.heap.size, 0, none⟩) xs.length (xs.length + 9)) ∧ Blk w' w.heap.size (wvs xs ++ List.replicate 9 n77) 36 ∧ Keeps (fun _ => False) w w' := by
  have hmk := run_make_words (w := w) (xs.length + 9) (by omega)
  obtain ⟨W1, hW⟩ : ∃ W1, W1 = w.alloc (.cells (wvs (List.replicate (xs.length + 9) 0)).toArray 36) := ⟨_, rfl⟩
  rw [← hW] at hmk
  have hK1 : Keeps (fun _ => False) w W1 := by rw [hW]; exact (Keeps.refl _ w).alloc _
  have hB1 : Blk W1 w.heap.size (wvs (List.replicate (xs.length + 9) 0)) 36 := by rw [hW]; exact Blk.new w _ 36
  have hs1 : SegW W1 a xs := hx.kept hK1 (fun _ _ e => e)
  have hcp := fun ty => run_copy_less (P := Try.prog) (w := W1) 39 39 ty 36 (by kernel_rfl) (by kernel_rfl) w.heap.size (xs.length + 9) (xs.length + 9) _ 36 hB1 a c (wvs xs) (wvs_one xs) (segW_cells hs1) (by rw [wvs_length]; omega) (by simp only [wvs_length, List.length_replicate]; omega)
  obtain ⟨W2, hW2⟩ : ∃ W2, W2 = W1.setRow w.heap.size (wvs xs ++ (wvs (List.replicate (xs.length + 9) 0)).drop (wvs xs).length).toArray := ⟨_, rfl⟩
  rw [← hW2] at hcp
  have hB2 : Blk W2 w.heap.size (wvs xs ++ List.replicate 0 n77 ++ List.replicate 9 (.int .u32 0)) 36 := by
    have := hB1.setRow (wvs xs ++ (wvs (List.replicate (xs.length + 9) 0)).drop (wvs xs).length)
    rw [← hW2] at this
    rw [wvs_length, wvs_rep, List.drop_replicate, show xs.length + 9 - xs.length = 9 by omega] at this
    simpa using this
  have hK2 : Keeps (fun _ => False) w W2 := by rw [hW2]; exact hK1.setRow _ _ (fun h => by omega)
  rw [wvs_length] at hcp
  obtain ⟨G, hG⟩ : ∃ G, G = w.heap.size := ⟨_, rfl⟩
  have HG : Hid (G = w.heap.size) := hG
  obtain ⟨n, hn⟩ : ∃ n, n = xs.length := ⟨_, rfl⟩
  have HN : Hid (n = xs.length) := hn
  rw [← hG, ← hn] at hmk hcp ⊢
  rw [← hG] at hB2
  have hnb : (n : Int) ≤ 17592186044416 := by omega
  have HM : Hid (_ = _) := hmk
  have HCP : Hid (∀ ty, _) := hcp
  have HB2 : Hid (Blk _ _ _ _) := hB2
  have HK2 : Hid (Keeps _ _ _) := hK2
  clear hmk hcp hB2 hK2 hW hW2 hK1 hB1 hs1 hG hn hl
  go_enter Try.func53, Try.ntmps53
  go_wp2_with (at_make; refine wpList_make_run rfl (.tmp 7) (.tmp 7) 39 rfl (.int .i64 ((n : Int) + 9)) (.int .i64 ((n : Int) + 9)) (.slice (some ⟨G, 0, none⟩) (n + 9) (n + 9)) W1 rfl rfl HM.out ?_; refine Hid.out ?_)
  unfold Hid
  go_wp2_with (refine isCopy (.tmp 9) (.tmp 10) 39 39 rfl ?_; go_must (refine wpList_copy_run rfl (.tmp 9) (.tmp 10) 39 39 rfl (.slice (some ⟨G, 0, none⟩) (n + 9) (n + 9)) (.slice a n c) (goInt n) W2 rfl rfl HCP.out ?_))
  go_loopw [4] (fun i wr => ∃ j : Nat, j ≤ 9 ∧ i = .int .i64 ((n : Int) + (j : Int)) ∧ Blk wr G (wvs xs ++ List.replicate j n77 ++ List.replicate (9 - j) (.int .u32 0)) 36 ∧ Keeps (fun _ => False) w wr)
    (fun i _ => n + 9 - (intOf i).toNat)
  case atStart => exact ⟨0, by omega, by simp, HB2.out, HK2.out⟩
  case round =>
    obtain ⟨j, hj, rfl, hBr, hKr⟩ := hrel
    have HB : Hid (Blk wr _ _ _) := hBr
    have HK : Hid (Keeps (fun _ => False) w wr) := hKr
    clear hBr hKr HB2 HK2
    by_cases hlt : j < 9
    · obtain ⟨d, hd⟩ : ∃ d, 9 - j = d + 1 := ⟨9 - j - 1, by omega⟩
      rw [hd] at HB
      obtain ⟨v, hv⟩ : ∃ v, (wvs xs ++ List.replicate j n77 ++ List.replicate (d + 1) (Value.int .u32 0))[n + j]? = some v := by
        refine ⟨_, List.getElem?_eq_getElem ?_⟩
        have := HN.out
        simp only [List.length_append, wvs_length, List.length_replicate]; omega
      have hc := HB.out.cell hv
      have hf := HB.out.frozen (n + j)
      have hst : Hid (_ = _) := fill_step (wvs xs) j d (n + j) n77 (.int .u32 0) (by rw [wvs_length, ← HN.out])
      have HD : Hid (9 - j = d + 1) := hd
      have hlt' : (j : Int) < 9 := by omega
      clear hv hd
      go_wp2
      go_roundw
      case rel =>
        refine ⟨j + 1, by omega, by go_num, ?_, HK.out.setCell _ _ fun h => by
          have h1 : G < w.heap.size := h
          have := HG.out; omega⟩
        rw [show 9 - (j + 1) = d by have := HD.out; omega, ← hst.out]
        exact HB.out.setCell _ _
      case measure => simp [intOf]; omega
    · obtain rfl : j = 9 := by omega
      go_wp2
      go_ret
      refine ⟨rfl, ?_, HK.out⟩
      have := HB.out
      simpa using this

set_option maxHeartbeats 1000000 in
theorem backWords_any (G c : Nat) (a : Option Addr) (xs : List UInt32) (w : World) (hx : SegW w a xs) (hB : Blk w G (wvs xs ++ List.replicate 9 n77) 36) (hne : xs = [] ∨ ∀ x, a = some x → x.block ≠ G) (hl : xs.length ≤ 17592186044416) :
    Calls Try.prog 56 #[.slice (some ⟨G, 0, none⟩) xs.length (xs.length + 9), .slice a xs.length c] w fun e w' => e = .returned (.bool true) ∧ Blk w' G (List.replicate (xs.length + 9) n78) 36 ∧ Keeps (· = G) w w' := by
  obtain ⟨n, hn⟩ : ∃ n, n = xs.length := ⟨_, rfl⟩
  have HN : Hid (n = xs.length) := hn
  have HX : Hid (SegW w a xs) := hx
  have HBB : Hid (Blk _ _ _ _) := hB
  have HNE : Hid (xs = [] ∨ ∀ x, a = some x → x.block ≠ G) := hne
  rw [← hn] at hl ⊢
  have hnb : (n : Int) ≤ 17592186044416 := by omega
  clear hn hx hB hne hl
  go_enter Try.func56, Try.ntmps56
  go_wp2
  go_loopw [6, 7] (fun b i wr => ∃ j : Nat, j ≤ n + 9 ∧ i = .int .i64 (j : Int) ∧ b = .bool true ∧ Blk wr G (List.replicate j n78 ++ (wvs xs ++ List.replicate 9 n77).drop j) 36 ∧ Keeps (· = G) w wr)
    (fun _ i _ => n + 9 - (intOf i).toNat)
  case atStart => exact ⟨0, by omega, by simp, rfl, by simpa using HBB.out, Keeps.refl _ _⟩
  case round =>
    obtain ⟨j, hj, rfl, rfl, hBr, hKr⟩ := hrel
    have HB : Hid (Blk wr _ _ _) := hBr
    have HK : Hid (Keeps (· = G) w wr) := hKr
    clear hBr hKr HBB
    by_cases hlt : j < n + 9
    · have hAl : (wvs xs ++ List.replicate 9 n77).length = n + 9 := by rw [List.length_append, wvs_length, List.length_replicate, ← HN.out]
      have hat : (List.replicate j n78 ++ (wvs xs ++ List.replicate 9 n77).drop j)[j]? = (wvs xs ++ List.replicate 9 n77)[j]? := by
        rw [List.getElem?_append_right (by simp), List.length_replicate, Nat.sub_self, List.getElem?_drop]; rfl
      have hst : Hid (_ = _) := over_step (wvs xs ++ List.replicate 9 n77) j n78 (by omega)
      by_cases hin : j < n
      · have hjx : j < xs.length := by have := HN.out; omega
        have hv : (List.replicate j n78 ++ (wvs xs ++ List.replicate 9 n77).drop j)[j]? = some (.int .u32 (xs[j].toNat : Int)) := by
          rw [hat, List.getElem?_append_left (by rw [wvs_length]; exact hjx), wvs_get xs j hjx]
        have hc := HB.out.cell hv
        have hf := HB.out.frozen j
        have hs : SegW wr a xs := by
          rcases HNE.out with e | e
          · exact .inl e
          · exact HX.out.kept HK.out fun x e1 e2 => e x e1 e2
        rcases hs with hs | ⟨g2, o2, rfl, hk⟩
        · rw [hs] at hjx; simp at hjx
        have hd := hk j hjx
        obtain ⟨X, hX⟩ : ∃ X, X = (xs[j]).toNat := ⟨_, rfl⟩
        rw [← hX] at hc hd
        have hin' : (j : Int) < (n : Int) := by omega
        have hin9 : (j : Int) < (n : Int) + 9 := by omega
        clear hv hat hAl hk hX
        go_wp2
        go_quiet (fail)
        go_wp2
        go_roundw
        case rel =>
          refine ⟨j + 1, by omega, by go_num, rfl, ?_, (HK.out.drewN _).setCell _ _ fun _ => rfl⟩
          rw [← hst.out]
          exact (HB.out.drewN _).setCell _ _
        case measure => simp [intOf]; omega
      · have hv : (List.replicate j n78 ++ (wvs xs ++ List.replicate 9 n77).drop j)[j]? = some (.int .u32 2004318071) := by
          rw [hat, List.getElem?_append_right (by rw [wvs_length, ← HN.out]; omega), List.getElem?_replicate, if_pos (by rw [wvs_length, ← HN.out]; omega)]; rfl
        have hc := HB.out.cell hv
        have hf := HB.out.frozen j
        have hin' : ¬ (j : Int) < (n : Int) := by omega
        have hin9 : (j : Int) < (n : Int) + 9 := by omega
        clear hv hat hAl
        go_wp2
        go_roundw
        case rel =>
          refine ⟨j + 1, by omega, by go_num, rfl, ?_, HK.out.setCell _ _ fun _ => rfl⟩
          rw [← hst.out]
          exact HB.out.setCell _ _
        case measure => simp [intOf]; omega
    · obtain rfl : j = n + 9 := by omega
      go_wp2
      go_ret
      refine ⟨rfl, ?_, HK.out⟩
      have := HB.out
      rw [List.drop_of_length_le (by rw [List.length_append, wvs_length, List.length_replicate, ← HN.out]; exact Nat.le_refl _), List.append_nil] at this
      exact this

/-- n entries of one mark, k of another. -/
def twoW (n k : Nat) (x y : UInt32) : List UInt32 := List.replicate n x ++ List.replicate k y
theorem twoW_length (n k : Nat) (x y : UInt32) : (twoW n k x y).length = n + k := by simp [twoW]
theorem twoW_get (n k : Nat) (x y : UInt32) (j : Nat) (h : j < (twoW n k x y).length) : (twoW n k x y)[j] = if j < n then x else y := by
  have h2 : (twoW n k x y)[j]? = some (if j < n then x else y) := by
    rw [twoW_length] at h
    unfold twoW
    by_cases h1 : j < n
    · rw [List.getElem?_append_left (by simpa using h1), List.getElem?_replicate, if_pos h1, if_pos h1]
    · rw [List.getElem?_append_right (by simpa using h1), List.getElem?_replicate, if_neg h1, if_pos (by simp; omega)]
  exact (List.getElem?_eq_some_iff.1 h2).2

set_option maxHeartbeats 400000 in
theorem allWords_any (a : Option Addr) (c n k : Nat) (x y : UInt32) (w : World) (h : SegW w a (twoW n k x y)) (hl : n + k ≤ maxLen) :
    Calls Try.prog 68 #[.slice a (n + k) c, .int .i64 n, .int .u32 (x.toNat : Int), .int .u32 (y.toNat : Int)] w fun e w' => e = .returned (.bool true) ∧ Keeps (fun _ => False) w w' := by
  unfold maxLen at hl
  have H1 : Hid (SegW w a (twoW n k x y)) := h
  obtain ⟨X, hX⟩ : ∃ X, X = x.toNat := ⟨_, rfl⟩
  obtain ⟨Y, hY⟩ : ∃ Y, Y = y.toNat := ⟨_, rfl⟩
  have HX : Hid (X = x.toNat ∧ Y = y.toNat) := ⟨hX, hY⟩
  rw [← hX, ← hY]
  clear h hX hY
  go_enter Try.func68, Try.ntmps68
  go_wp2
  go_loopw [9] (fun i wr => ∃ j : Nat, j ≤ n + k ∧ i = .int .i64 j ∧ Keeps (fun _ => False) w wr) (fun i _ => n + k - (intOf i).toNat)
  case atStart => exact ⟨0, by omega, rfl, Keeps.refl _ _⟩
  case round =>
    obtain ⟨j, hj, rfl, hKr⟩ := hrel
    have HK : Hid (Keeps (fun _ => False) w wr) := hKr
    clear hKr
    by_cases hlt : j < n + k
    · have hjx : j < (twoW n k x y).length := by rw [twoW_length]; exact hlt
      have s1 : SegW wr a (twoW n k x y) := H1.out.kept HK.out (fun _ _ e => e)
      rcases s1 with s1 | ⟨g1, o1, rfl, k1⟩
      · rw [s1] at hjx; simp at hjx
      · have e1 := k1 j hjx
        rw [twoW_get] at e1
        have hlt' : (j : Int) < (n : Int) + (k : Int) := by omega
        clear k1
        by_cases hin : j < n
        · rw [if_pos hin, ← HX.out.1] at e1
          have hin' : (j : Int) < (n : Int) := by omega
          go_wp2
          go_roundw
          case rel => exact ⟨j + 1, by omega, by go_num, HK.out⟩
          case measure => simp [intOf]; omega
        · rw [if_neg hin, ← HX.out.2] at e1
          have hin' : ¬ (j : Int) < (n : Int) := by omega
          have hin2 : (n : Int) ≤ (j : Int) := by omega
          go_wp2
          go_roundw
          case rel => exact ⟨j + 1, by omega, by go_num, HK.out⟩
          case measure => simp [intOf]; omega
    · obtain rfl : j = n + k := by omega
      go_wp2
      go_ret
      exact ⟨rfl, HK.out⟩
end Go.Proofs.Ytonjmknjjdnjkaa
