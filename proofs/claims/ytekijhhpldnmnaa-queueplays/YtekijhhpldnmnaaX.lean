import Derived.Test.YtekijhhpldnmnaaE
import Derived.Test.YtekijhhpldnmnaaApp
namespace Go.Proofs.Ytekijhhpldnmnaa
open Go.RowKit
set_option linter.unusedVariables false

theorem win_get? (xs : List UInt32) (p m i : Nat) : (win xs p m)[i]? = if i < m then xs[p + i]? else none := by
  unfold win
  rw [List.getElem?_take, List.getElem?_drop]
theorem win_lay_apart (xs : List UInt32) (p : Nat) (ys : List UInt32) (q m : Nat) (h : p + ys.length ≤ xs.length) (ha : p + ys.length ≤ q ∨ q + m ≤ p) : win (lay xs p ys) q m = win xs q m := by
  apply List.ext_getElem?
  intro i
  rw [win_get?, win_get?]
  by_cases hi : i < m
  · rw [if_pos hi, if_pos hi, lay_get? _ _ _ h, if_neg (by omega)]
  · rw [if_neg hi, if_neg hi]
theorem win_lay_in (xs : List UInt32) (p : Nat) (ys : List UInt32) (q m : Nat) (h : q + m ≤ xs.length) (h1 : q ≤ p) (h2 : p + ys.length ≤ q + m) : win (lay xs p ys) q m = lay (win xs q m) (p - q) ys := by
  have hl := win_length xs q m h
  apply List.ext_getElem?
  intro i
  rw [win_get?, lay_get? _ _ _ (by omega), lay_get? _ _ _ (by omega), win_get?]
  by_cases hi : i < m
  · rw [if_pos hi]
    by_cases hc : p ≤ q + i ∧ q + i < p + ys.length
    · rw [if_pos hc, if_pos (by omega)]; congr 1; omega
    · rw [if_neg hc, if_neg (by omega), if_pos hi]
  · rw [if_neg hi, if_neg (by omega), if_neg hi]
theorem lay_all (l ys : List UInt32) (h : ys.length = l.length) : lay l 0 ys = ys := by simp [lay, h]
theorem win_lay_same (xs : List UInt32) (p : Nat) (ys : List UInt32) (h : p + ys.length ≤ xs.length) : win (lay xs p ys) p ys.length = ys := by
  rw [win_lay_in xs p ys p ys.length h (Nat.le_refl _) (Nat.le_refl _), Nat.sub_self, lay_all _ _ (by rw [win_length _ _ _ h])]
theorem lay_win (xs : List UInt32) (p m : Nat) (h : p + m ≤ xs.length) : lay xs p (win xs p m) = xs := by
  have hl := win_length xs p m h
  apply List.ext_getElem?
  intro i
  rw [lay_get? _ _ _ (by omega), hl]
  by_cases hc : p ≤ i ∧ i < p + m
  · rw [if_pos hc, win_get?, if_pos (by omega)]; congr 1; omega
  · rw [if_neg hc]

theorem ofNat_len {ms : List UInt32} (h : ms.length ≤ 16) : (UInt32.ofNat ms.length).toNat = ms.length := by rw [UInt32.toNat_ofNat']; omega
theorem zeroB_rep (k : Nat) : zeroB (List.replicate k 0) = true := by simp [zeroB, List.all_replicate]

/-- These numbers can be read at this address. -/
def SegI (w : World) (a : Option Addr) (ks : List Int) : Prop :=
  ks = [] ∨ ∃ g o, a = some ⟨g, o, none⟩ ∧ ∀ j, (h : j < ks.length) → w.cell? ⟨g, o + j, none⟩ = some (.int .i64 ks[j])
theorem SegI.kept {S : Nat → Prop} {w w' : World} {a : Option Addr} {ks : List Int} (h : SegI w a ks) (hK : Keeps S w w') (hn : ∀ x, a = some x → ¬ S x.block) : SegI w' a ks := by
  rcases h with h | ⟨g, o, ha, hc⟩
  · exact .inl h
  · refine .inr ⟨g, o, ha, fun j hj => ?_⟩
    have h1 := hc j hj
    have hlt : g < w.heap.size := World.block_lt_of_cell? w ⟨g, o + j, none⟩ h1
    rw [World.cell?_of_block (w := w) (hK.block g hlt (hn _ ha))]
    exact h1



theorem wvs_setm (xs : List UInt32) (p : Nat) (x : UInt32) : wvs (xs.set p x) = (wvs xs).set p (.int .u32 (x.toNat : Int)) := by simp [wvs, List.map_set]

end Go.Proofs.Ytekijhhpldnmnaa
