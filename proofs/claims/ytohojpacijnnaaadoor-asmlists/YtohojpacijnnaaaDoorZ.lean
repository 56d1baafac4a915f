import Derived.Test.YtohojpacijnnaaaDoorA
namespace Go.Proofs.YtohojpacijnnaaaDoor
open Go.RowKit
set_option linter.unusedVariables false


theorem ret_int {k : IntKind} {a b : Int} (h : a = b) : Ending.returned (.int k a) = .returned (.int k b) := by rw [h]
theorem cell_kept {S : Nat → Prop} {w w' : World} {b i : Nat} {v : Value} (h : w.cell? ⟨b, i, none⟩ = some v) (hK : Keeps S w w') (hn : ¬ S b) : w'.cell? ⟨b, i, none⟩ = some v := by
  rw [World.cell?_of_block (w := w) (hK.block b (World.block_lt_of_cell? w ⟨b, i, none⟩ h) hn)]
  exact h
theorem wvs_setm (xs : List UInt32) (p : Nat) (x : UInt32) : wvs (xs.set p x) = (wvs xs).set p (.int .u32 (x.toNat : Int)) := by simp [wvs, List.map_set]

def markW (i : Nat) : UInt32 := 2768240640 + UInt32.ofNat i * 7
theorem markW_any (i : Nat) (w : World) (hi : i ≤ 3000000000) : Calls Tryd.prog 9 #[.int .i64 i] w fun e w' => e = .returned (.int .u32 ((markW i).toNat : Int)) ∧ w' = w := by
  have e : ((markW i).toNat : Int) = (2768240640 + ((i : Int) % 4294967296 * 7) % 4294967296) % 4294967296 := by
    unfold markW
    rw [UInt32.toNat_add, UInt32.toNat_mul, UInt32.toNat_ofNat']
    have h1 : (2768240640 : UInt32).toNat = 2768240640 := rfl
    have h2 : (7 : UInt32).toNat = 7 := rfl
    rw [h1, h2]
    omega
  rw [e]
  have HI : Hid (i ≤ 3000000000) := hi
  clear hi e
  go_enter Tryd.func9, Tryd.ntmps9
  go_wp2
  go_ret
  refine ⟨ret_int ?_, rfl⟩
  first | rfl | (simp only [IntKind.wrap_u32]; omega) | (have := HI.out; omega)

/-- The cells of N things. -/
def fW (N : Nat) (f : Nat → UInt32) : List Value := (List.range N).map fun i => .int .u32 ((f i).toNat : Int)
theorem fW_get {N : Nat} (f : Nat → UInt32) {i : Nat} (h : i < N) : (fW N f)[i]? = some (.int .u32 ((f i).toNat : Int)) := by
  unfold fW
  rw [List.getElem?_map, List.getElem?_range h]
  rfl
theorem fW_length (N : Nat) (f : Nat → UInt32) : (fW N f).length = N := by simp [fW]
theorem fW_set {N : Nat} (f : Nat → UInt32) (m : Nat) (x : UInt32) : (fW N f).set m (.int .u32 ((x).toNat : Int)) = fW N (fun i => if i = m then x else f i) := by
  apply List.ext_getElem?
  intro i
  rw [List.getElem?_set]
  by_cases hi : i < N
  · rw [fW_get _ hi, fW_get _ hi]
    by_cases e : m = i
    · subst e
      simp [fW_length, hi]
    · have e2 : ¬ i = m := fun h => e h.symm
      simp [e, e2]
  · have h1 : (fW N f)[i]? = none := by rw [List.getElem?_eq_none_iff, fW_length]; omega
    have h2 : (fW N (fun i => if i = m then x else f i))[i]? = none := by rw [List.getElem?_eq_none_iff, fW_length]; omega
    rw [h1, h2]
    by_cases e : m = i
    · subst e; simp [fW_length, hi]
    · simp [e]
theorem fW_congr {N : Nat} {f g : Nat → UInt32} (h : ∀ i, i < N → f i = g i) : fW N f = fW N g := by
  unfold fW
  refine List.map_congr_left fun i hi => ?_
  rw [h i (by simpa using hi)]

/-- What a handed list has in its places and behind them. -/
def spareW (ks : List UInt32) (i : Nat) : UInt32 := (ks[i]?).getD (markW i)

end Go.Proofs.YtohojpacijnnaaaDoor
