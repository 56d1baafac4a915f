import Derived.Test.YtfcgpjojjehkiaaH
namespace Go.Proofs.Ytfcgpjojjehkiaa
open Go.RowKit
set_option linter.unusedVariables false

theorem run_make_u32 {w : World} (n : Nat) (hn : n ≤ 70368744177664) :
    (Instr.makeSlice 22 (.int .u32 n) (.int .u32 n)).run Try.prog w = .ok (.slice (some ⟨w.heap.size, 0, none⟩) n n) (w.alloc (.cells (wvs (List.replicate n 0)).toArray 34)) := by
  obtain ⟨i0, hi, hz0, hz1, hz2⟩ := info_parts Try.info34
  have h := run_make (P := Try.prog) w 22 34 i0 (.int .u32 0) Try.underlying22 hi hz0 .u32 .u32 n n (by omega) (by omega) (by rw [hz2]; omega) (by omega)
  rw [hz1, Nat.mul_one, Int.toNat_natCast, madeCells_words] at h
  exact h

/-- copy of words that can be read: as many as the shorter one has. -/
theorem run_copy_ws {w : World} (ty : TypeId) (g o dLen dCap : Nat) (l : List Value) (t : TypeId) (hg : Blk w g l t) (b p : Nat) (sLen sCap : Nat) (xs : List UInt32)
    (hx : SegW w (some ⟨b, p, none⟩) xs) (hn : xs.length = Nat.min sLen dLen) (hfit : o + xs.length ≤ l.length) :
    (Builtin.copy_ #[22, 22] ty #[.slice (some ⟨g, o, none⟩) dLen dCap, .slice (some ⟨b, p, none⟩) sLen sCap]).run Try.prog w = .ok (goInt xs.length) (w.setRow g (l.take o ++ wvs xs ++ l.drop (o + xs.length)).toArray) := by
  have h := run_copy_row Try.prog w 22 22 ty 34 g o dLen dCap ⟨b, p, none⟩ sLen sCap l.toArray t (wvs xs) Try.underlying22 Try.size34 hg (by rw [wvs_length]; exact hn) (by
    intro j v hj
    rcases segW_cells hx with h0 | ⟨b', p', e, hc⟩
    · rw [h0] at hj; simp at hj
    · simp at e
      obtain ⟨rfl, rfl⟩ := e
      rw [addr_add]
      exact hc j v hj) (by rw [wvs_length]; simpa using hfit) (wvs_one xs)
  rw [wvs_length] at h
  exact h

set_option maxHeartbeats 1000000 in
theorem message_any (p : Int) (h n k B : Nat) (l : List UInt32) (w : World) (hs : SegW w (some ⟨B, 0, none⟩) l) (hl : l.length = h + n) (hh : h = 2 ∨ h = 3) (hk : k = (wd l (h - 1)).toNat) (h1 : 1 ≤ k) (h2 : k ≤ n) (h3 : n ≤ 16) :
    Calls Try.prog 39 #[bxv p h n, .slice (some ⟨B, 0, none⟩) l.length l.length] w fun e w' => ∃ G, w.heap.size ≤ G ∧ e = .returned (.slice (some ⟨G, 0, none⟩) k k) ∧ Blk w' G (wvs ((l.drop h).take k)) 34 ∧ Keeps (fun _ => False) w w' := by
  obtain ⟨W, hW, hK, hB⟩ := box_new w p h n
  have hs2 := hs.kept hK (fun _ _ e => e)
  have cl := hs2.wd (j := h - 1) (by omega)
  rw [Nat.zero_add, ← hk] at cl
  have hmk := run_make_u32 (w := W) k (by omega)
  obtain ⟨W1, hW1⟩ : ∃ W1, W1 = W.alloc (.cells (wvs (List.replicate k 0)).toArray 34) := ⟨_, rfl⟩
  have hK1 : Keeps (fun _ => False) W W1 := by rw [hW1]; exact (Keeps.refl _ W).alloc _
  have hB1 : Blk W1 W.heap.size (wvs (List.replicate k 0)) 34 := by rw [hW1]; exact Blk.new W _ 34
  have hs3 := hs2.kept hK1 (fun _ _ e => e)
  have hm : SegW W1 (some ⟨B, h, none⟩) ((l.drop h).take k) := by
    refine .inr ⟨B, h, rfl, fun j hj => ?_⟩
    have hj' : j < k := by simp at hj; omega
    have := hs3.wd (j := h + j) (by omega)
    rw [Nat.zero_add] at this
    rw [this, wd_get (by omega)]
    simp
  have hml : ((l.drop h).take k).length = k := by simp; omega
  obtain ⟨L, hL⟩ : ∃ L, L = l.length := ⟨_, rfl⟩
  have hcp := fun ty => run_copy_ws (w := W1) ty W.heap.size 0 k k _ 34 hB1 B h (L - h) (L - h) _ hm (by rw [hml, hL]; exact (Nat.min_eq_right (by omega)).symm) (by rw [hml]; simp [wvs_length])
  have e : (wvs (List.replicate k 0)).take 0 ++ wvs ((l.drop h).take k) ++ (wvs (List.replicate k 0)).drop (0 + ((l.drop h).take k).length) = wvs ((l.drop h).take k) := by simp [hml, wvs]
  rw [e, hml] at hcp
  obtain ⟨W2, hW2⟩ : ∃ W2, W2 = W1.setRow W.heap.size (wvs ((l.drop h).take k)).toArray := ⟨_, rfl⟩
  have hB2 : Blk W2 W.heap.size (wvs ((l.drop h).take k)) 34 := by rw [hW2]; exact hB1.setRow _
  have hK2 : Keeps (fun _ => False) w W2 := by rw [hW2]; exact (hK.trans hK1 fun _ _ e => e).setRow _ _ (fun h => by have := hK.size; omega)
  have d1 := hB.cell (i := 1) rfl
  have d1' := (hB.kept hK1 fun e => e).cell (i := 1) rfl
  obtain ⟨O, hO⟩ : ∃ O, O = w.heap.size := ⟨_, rfl⟩
  obtain ⟨G, hG⟩ : ∃ O, O = W.heap.size := ⟨_, rfl⟩
  rw [← hO] at d1 d1'
  rw [← hW1, ← hG] at hmk
  rw [← hW2, ← hG] at hcp
  rw [← hG] at hB2
  rw [← hL] at hl ⊢
  have e1 : ((h - 1 : Nat) : Int) = (h : Int) - 1 := by omega
  have q1 : (h : Int) - 1 < (L : Int) := by omega
  have q2 : (h : Int) ≤ (L : Int) := by omega
  have q3 : ¬ L = h := by omega
  have q4 : 1 ≤ (h : Int) := by omega
  have q5 : (L : Int) ≤ 19 := by omega
  have q6 : (h : Int) ≤ 3 := by omega
  have HM : Hid (_ = _) := hmk
  have HC : Hid (∀ ty, (Builtin.copy_ #[22, 22] ty #[.slice (some ⟨G, 0, none⟩) k k, .slice (some ⟨B, h, none⟩) (L - h) (L - h)]).run Try.prog W1 = .ok (goInt k) W2) := hcp
  have HW : Hid (W = _ ∧ O = w.heap.size ∧ w.heap.size ≤ G ∧ Blk W2 G (wvs ((l.drop h).take k)) 34 ∧ Keeps (fun _ => False) w W2) := ⟨hW, hO, by rw [hG]; exact hK.size, hB2, hK2⟩
  have ex : ((h : Int) - 1).toNat = h - 1 := by omega
  clear hs hs2 hs3 hm hml hcp e hW2 hB2 hK2 hW1 hK1 hB1 hmk hB hK hO hG hl hk h1 h2 h3 hh hL
  have cl' : (w.alloc (.cells #[.int .i64 p, .int .i64 (h : Int), .int .i64 (n : Int)] 69)).cell? ⟨B, h - 1, none⟩ = some (.int .u32 (k : Int)) := by rw [← hW]; exact cl
  clear hW cl
  go_enter Try.func39, Try.ntmps39
  go_wp2_with (at_make; rw [← HW.out.1]; refine wpList_make_run rfl _ _ 22 rfl (.int .u32 k) (.int .u32 k) (.slice (some ⟨G, 0, none⟩) k k) W1 rfl rfl HM.out ?_; rw [← HW.out.2.1]; refine Hid.out ?_)
  unfold Hid
  clear HM cl' d1
  go_wp2_with (refine isCopy (.tmp 13) (.tmp 17) 22 22 rfl ?_; go_must (refine wpList_copy_run rfl (.tmp 13) (.tmp 17) 22 22 rfl (.slice (some ⟨G, 0, none⟩) k k) (.slice (some ⟨B, h, none⟩) (L - h) (L - h)) (goInt k) W2 rfl rfl HC.out ?_))
  go_ret
  exact ⟨G, HW.out.2.2.1, rfl, HW.out.2.2.2⟩

end Go.Proofs.Ytfcgpjojjehkiaa
