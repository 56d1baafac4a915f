import Derived.Test.YtomjodoimjiceaaDoorIt
import Derived.Test.YtomjodoimjiceaaDoorRd
namespace Go.Proofs.YtomjodoimjiceaaDoor
open Go.RowKit Go.Shelf
set_option linter.unusedVariables false
set_option maxRecDepth 6000

def valD (l : List UInt8) : Nat := l.foldl (fun a b => 10 * a + (b.toNat - 48)) 0
theorem valD_snoc (l : List UInt8) (b : UInt8) : valD (l ++ [b]) = 10 * valD l + (b.toNat - 48) := by simp [valD]
theorem dig_val {d : Nat} (h : d < 10) : (UInt8.ofNat (48 + d)).toNat = 48 + d := by
  rw [UInt8.toNat_ofNat']; omega
theorem val_dec (u : Nat) : valD (Lib.decDigits u) = u := by
  induction u using Nat.strongRecOn with
  | ind u ih =>
    rw [Lib.decDigits]
    by_cases h : u < 10
    · rw [dif_pos h]
      show 10 * 0 + ((UInt8.ofNat (48 + u)).toNat - 48) = u
      rw [dig_val h]; omega
    · rw [dif_neg h, valD_snoc, ih (u / 10) (by omega), dig_val (by omega)]
      omega
theorem dec_head (u : Nat) : ∃ d r, Lib.decDigits u = d :: r ∧ 48 ≤ d.toNat := by
  induction u using Nat.strongRecOn with
  | ind u ih =>
    rw [Lib.decDigits]
    by_cases h : u < 10
    · rw [dif_pos h]
      exact ⟨_, _, rfl, by rw [dig_val h]; omega⟩
    · rw [dif_neg h]
      obtain ⟨d, r, e, hd⟩ := ih (u / 10) (by omega)
      rw [e]
      exact ⟨d, _, rfl, hd⟩
theorem itoa_inj {m n : Int} (h : Lib.itoa m = Lib.itoa n) : m = n := by
  unfold Lib.itoa at h
  by_cases hm : m < 0
  · rw [if_pos hm] at h
    by_cases hn : n < 0
    · rw [if_pos hn] at h
      have := congrArg valD (List.cons.inj h).2
      rw [val_dec, val_dec] at this
      omega
    · rw [if_neg hn] at h
      obtain ⟨d, r, e, hd⟩ := dec_head n.toNat
      rw [e] at h
      rw [← (List.cons.inj h).1] at hd
      exact absurd hd (by decide)
  · rw [if_neg hm] at h
    by_cases hn : n < 0
    · rw [if_pos hn] at h
      obtain ⟨d, r, e, hd⟩ := dec_head m.toNat
      rw [e] at h
      rw [(List.cons.inj h).1] at hd
      exact absurd hd (by decide)
    · rw [if_neg hn] at h
      have := congrArg valD h
      rw [val_dec, val_dec] at this
      omega

/-- A number's text. -/
def tx (n : Int) : ByteArray := ⟨(Lib.itoa n).toArray⟩
theorem tx_inj {m n : Int} (h : tx m = tx n) : m = n := by
  refine itoa_inj ?_
  have := congrArg ByteArray.data h
  simpa [tx] using this

/-- The table lies there. -/
def Tb (w : World) : Prop := Lib.TabIs Tryd.prog w "internal/strconv.uint64pow10" .u64 Lib.pow10Tab
theorem pow_at : Tryd.prog.globalNamed "internal/strconv.uint64pow10" = some 0 := by kernel_rfl
theorem Tb.kept {S : Nat → Prop} {w w' : World} (h : Tb w) (hK : Keeps S w w') (hn : ¬ S 0) : Tb w' := by
  unfold Tb Lib.TabIs World.var? at h ⊢
  rw [pow_at] at h ⊢
  simp only [Option.bind_some] at h ⊢
  have h0 : 0 < w.heap.size := by
    cases hh : w.heap[0]? with
    | none => rw [hh] at h; cases h
    | some o => exact (Array.getElem?_eq_some_iff.1 hh).1
  rw [hK.block 0 h0 hn]
  exact h
theorem Tb.pos {w : World} (h : Tb w) : 1 ≤ w.heap.size := by
  unfold Tb Lib.TabIs World.var? at h
  rw [pow_at] at h
  simp only [Option.bind_some] at h
  cases hh : w.heap[0]? with
  | none => rw [hh] at h; cases h
  | some o => exact (Array.getElem?_eq_some_iff.1 hh).1

theorem keeps_grow (w : World) (k : Nat) (os : Array Obj) : Keeps (fun _ => False) w (Go.Sort.grow (w.drewN k) os) := by
  have h1 : Keeps (fun _ => False) w (w.drewN k) := (Keeps.refl _ w).drewN k
  refine h1.trans ⟨rfl, rfl, rfl, by simp [Go.Sort.grow], fun b hb _ => ?_⟩ fun _ _ h => h
  simp only [Go.Sort.grow]
  rw [Array.getElem?_append_left hb]

theorem key_any (n : Int) (w : World) (hn : I.I64 n) (hT : Tb w) : Calls Tryd.prog 19 #[.int .i64 n] w fun r w' => r = .returned (.string (tx n)) ∧ Keeps (fun _ => False) w w' := by
  have H1 : Hid (Calls _ _ _ _ _) := Tryd.strconv_Itoa n hn.1 hn.2 w hT
  clear hn hT
  go_enter Tryd.func19, Tryd.ntmps19
  go_wp2_with fail
  refine H1.out.mono ?_
  rintro e w' ⟨rfl, k, os, rfl⟩
  have HK : Hid (Keeps (fun _ => False) w (Go.Sort.grow (w.drewN k) os)) := keeps_grow w k os
  obtain ⟨W, hW⟩ : ∃ W, W = Go.Sort.grow (w.drewN k) os := ⟨_, rfl⟩
  rw [← hW] at HK ⊢
  clear hW H1
  go_wp2
  go_ret
  exact ⟨rfl, HK.out⟩

end Go.Proofs.YtomjodoimjiceaaDoor
