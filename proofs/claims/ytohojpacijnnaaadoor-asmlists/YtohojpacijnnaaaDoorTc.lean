import Derived.Test.YtohojpacijnnaaaDoorTb
import Derived.Lib.AppendIntMem
import Derived.Lib.Walk
import Derived.BigCall
import Derived.BigGuard
namespace Go.Proofs.YtohojpacijnnaaaDoor
open Go.RowKit Go.Shelf Go.Sort Go.Lib
set_option linter.unusedVariables false
set_option linter.unusedSimpArgs false
set_option maxRecDepth 6000

set_option maxRecDepth 100000 in
set_option maxHeartbeats 6400000 in
theorem fmt_any (x : Nat) (hx : x < 4294967296) (w : World) (ht : Tabs w) : Calls Tryd.prog 29 #[.int .u64 (x : Int), .int .i64 10] w fun e w' => e = .returned (.string (bst (Lib.decDigits x))) ∧ Keeps (fun _ => False) w w' := by
  by_cases h : x < 100
  · have HC := Hid.mkq (Tryd.internal_strconv_small x h w)
    have e1 : IntKind.i64.wrap (x : Int) = (x : Int) := by rw [IntKind.wrap_i64]; omega
    have h' : (x : Int) < 100 := by omega
    go_enter Tryd.func29, Tryd.ntmps29
    go_wp2_with fail
    refine HC.out.mono ?_
    rintro e w1 ⟨rfl, h1⟩
    obtain rfl := h1.symm
    go_wp2
    go_ret
    exact ⟨rfl, Keeps.refl _ _⟩
  · have h' : ¬ (x : Int) < 100 := by omega
    have hu1 : 1 ≤ x := by omega
    have hu64 : x < 18446744073709551616 := by omega
    have hnd20 : Lib.nDigits x ≤ 20 := by have := Lib.numDigits_eq x hu1 hu64; split at this <;> omega
    have hal : Tryd.prog.arrayLen 73 = 24 := by kernel_rfl
    have hsl : ∀ W, (Instr.sliceAt 73 (.pointer (some ⟨w.heap.size, 0, none⟩)) none (some (.int .i64 (Lib.nDigits x : Int))) none).run Tryd.prog W = .ok (.slice (some ⟨w.heap.size, 0, none⟩) (Lib.nDigits x) 24) W := fun W => by
      rw [run_sliceAt_array_h W 73 ⟨w.heap.size, 0, none⟩ Tryd.underlying73 .i64 (Lib.nDigits x : Int) (by omega) (by rw [hal]; omega)]
      have : (sizeOf (Tryd.prog.elem 73)).run Tryd.prog W = .ok 1 W := by kernel_rfl
      rw [this, hal]
      rfl
    have hH0 := Lib.holds_zero0 w 73 (Lib.nDigits x) (by omega)
    have hfmt := Tryd.internal_strconv_formatBase10 w.heap.size 0 24 x (Array.replicate (Lib.nDigits x) 0) (w.alloc (.cells Lib.zeros24 73)) hH0 (by rw [Array.size_replicate]; exact Lib.lt_pow_nDigits x) hu64 (by rw [Array.size_replicate]; omega)
    rw [Array.size_replicate] at hfmt
    have HN := Hid.mkq (Tryd.internal_strconv_numDigits x hu1 hu64 (w.alloc (.cells Lib.zeros24 73)) (Lib.tabIs_alloc ht.pow _))
    have HF := Hid.mkq hfmt
    have HH0 := Hid.mkq hH0
    have HX : Hid (x < 4294967296) := hx
    clear hH0 hal hfmt hx ht hu64
    go_enter Tryd.func29, Tryd.ntmps29
    go_wp2_with fail
    refine HN.out.mono ?_
    rintro e w1 ⟨rfl, h1⟩
    obtain rfl := h1.symm
    go_wp2_with fail
    refine HF.out.mono ?_
    rintro e w2 ⟨rfl, k, v', dk, hw2, hI⟩
    have hcv : (convert 28 9 (.slice (some ⟨w.heap.size, 0, none⟩) (Lib.nDigits x) 24)).run Tryd.prog w2 = .ok (.string ⟨(Lib.decDigits x).toArray⟩) w2 := by
      rw [hw2]
      have h := run_convert_bytes_back (P := Tryd.prog) ((putRow (fun (b : UInt8) => Value.int .u8 (b.toNat : Int)) (w.alloc (.cells Lib.zeros24 73)) w.heap.size 0 dk).drewN k) 28 9 5 ⟨w.heap.size, 0, none⟩ 24 (Lib.decDigits x) Tryd.underlying28 Tryd.underlying5 Tryd.underlying9 (fun j hj => by
        rw [Lib.row_is_numeral hI j hj, Lib.add_plain, World.cell?_drewN]
        exact cell?_putRow (fun (b : UInt8) => Value.int .u8 (b.toNat : Int)) _ w.heap.size 0 _ dk HH0.out (by rw [hI.size, Array.size_replicate]) j (by rw [hI.size]; rw [Lib.decDigits_length] at hj; exact hj))
      rw [Lib.decDigits_length] at h
      exact h
    have HK : Hid (Keeps (fun _ => False) w w2) := by
      obtain ⟨os, eo⟩ := Lib.fin_at w (.cells Lib.zeros24 73) dk k 0
      show Keeps _ _ _
      rw [hw2, eo]
      exact keeps_grow w k os
    clear hw2 hI HF HN HH0
    go_wp2
    go_ret
    exact ⟨rfl, HK.out⟩

theorem fmtU_any (x : Nat) (hx : x < 4294967296) (w : World) (ht : Tabs w) : Calls Tryd.prog 16 #[.int .u64 (x : Int), .int .i64 10] w fun e w' => e = .returned (.string (bst (Lib.decDigits x))) ∧ Keeps (fun _ => False) w w' := by
  have HC := Hid.mkq (fmt_any x hx w ht)
  clear ht
  go_enter Tryd.func16, Tryd.ntmps16
  go_wp2_with fail
  refine HC.out.mono ?_
  rintro e w1 ⟨rfl, hK⟩
  have HK : Hid (Keeps (fun _ => False) w w1) := hK
  clear hK HC
  go_wp2
  go_ret
  exact ⟨rfl, HK.out⟩
end Go.Proofs.YtohojpacijnnaaaDoor
