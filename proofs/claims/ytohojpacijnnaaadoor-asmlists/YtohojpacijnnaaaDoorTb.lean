import Derived.Test.YtohojpacijnnaaaDoorTa
namespace Go.Proofs.YtohojpacijnnaaaDoor
open Go.RowKit Go.Shelf
set_option linter.unusedVariables false
set_option linter.unusedSimpArgs false
set_option maxRecDepth 6000

theorem Hid.mkq {p : Prop} (h : p) : Hid p := h
theorem keeps_below {w w' : World} (h : Below w.heap.size w w') : Keeps (fun _ => False) w w' := ⟨h.os, h.tape, h.output, h.size, fun b hb _ => h.block b hb⟩
theorem keeps_grow (w : World) (k : Nat) (os : Array Obj) : Keeps (fun _ => False) w (Go.Sort.grow (w.drewN k) os) := by
  have h1 : Keeps (fun _ => False) w (w.drewN k) := (Keeps.refl _ w).drewN k
  refine h1.trans ⟨rfl, rfl, rfl, by simp [Go.Sort.grow], fun b hb _ => ?_⟩ fun _ _ h => h
  simp only [Go.Sort.grow]
  rw [Array.getElem?_append_left hb]
theorem Tabs.kept {S : Nat → Prop} {w w' : World} (h : Tabs w) (hK : Keeps S w w') (hn : ∀ k, k < 6 → ¬ S k) : Tabs w' := by
  obtain ⟨⟨⟨cs, t, h1, h2⟩, cs', t', h3, h4⟩, ⟨c0, t0, h5, h6⟩, h7⟩ := h
  refine ⟨⟨⟨cs, t, by rw [hK.block 1 (Array.getElem?_eq_some_iff.1 h1).1 (hn 1 (by omega))]; exact h1, h2⟩, cs', t', by rw [hK.block 2 (Array.getElem?_eq_some_iff.1 h3).1 (hn 2 (by omega))]; exact h3, h4⟩, ⟨c0, t0, by rw [hK.block 0 (Array.getElem?_eq_some_iff.1 h5).1 (hn 0 (by omega))]; exact h5, h6⟩, ?_⟩
  unfold Lib.TabIs World.var? at h7 ⊢
  rw [pow_at] at h7 ⊢
  simp only [Option.bind_some] at h7 ⊢
  have h0 : 3 < w.heap.size := by
    cases hh : w.heap[3]? with
    | none => rw [hh] at h7; cases h7
    | some o => exact (Array.getElem?_eq_some_iff.1 hh).1
  rw [hK.block 3 h0 (hn 3 (by omega))]
  exact h7
theorem Tabs.keep {w w' : World} (h : Tabs w) (hK : Keeps (fun _ => False) w w') : Tabs w' := h.kept hK fun _ _ h => h
theorem Tabs.pos {w : World} (h : Tabs w) : 4 ≤ w.heap.size := by
  have h7 := h.pow
  unfold Lib.TabIs World.var? at h7
  rw [pow_at] at h7
  simp only [Option.bind_some] at h7
  cases hh : w.heap[3]? with
  | none => rw [hh] at h7; cases h7
  | some o => exact (Array.getElem?_eq_some_iff.1 hh).1
theorem Tabs.letter {w : World} (h : Tabs w) (k : Nat) (hk : k < 8) : w.cell? ⟨0, k, none⟩ = some (.string (bst (letW k))) := by
  obtain ⟨cs, t, h1, h2⟩ := h.lets
  simp only [World.cell?, h1]
  exact h2 k hk

theorem itoa_any (n : Int) (h : -9223372036854775808 ≤ n ∧ n ≤ 9223372036854775807) (w : World) (ht : Tabs w) : Calls Tryd.prog 19 #[.int .i64 n] w fun e w' => e = .returned (.string (bst (tx n))) ∧ Keeps (fun _ => False) w w' :=
  (Tryd.strconv_Itoa n h.1 h.2 w ht.pow).mono fun e w' ⟨h1, k, os, h2⟩ => ⟨h1, by rw [h2]; exact keeps_grow w k os⟩

theorem reg_any (n : Int) (h : -9223372036854775808 ≤ n ∧ n ≤ 9223372036854775807) (w : World) (ht : Tabs w) : Calls Tryd.prog 25 #[.int .i64 n] w fun e w' => e = .returned (.string (bst (114 :: tx n))) ∧ Keeps (fun _ => False) w w' := by
  have HC := Hid.mkq (itoa_any n h w ht)
  have hz : (bst (tx n)).size ≤ 21 := by rw [bst_size]; exact tx_length h
  clear h ht
  go_enter Tryd.func25, Tryd.ntmps25
  go_wp2_with fail
  refine HC.out.mono ?_
  rintro e w1 ⟨rfl, hK⟩
  have HK : Hid (Keeps (fun _ => False) w w1) := hK
  clear hK HC
  go_wp2
  go_ret
  refine ⟨?_, HK.out⟩
  have : (⟨#[114]⟩ : ByteArray) = bst [114] := rfl
  rw [this, bst_append]
  rfl

/-- Where an instruction keeps the operand of a letter. -/
def ixW (c : UInt8) : Nat := if c = 97 then 1 else if c = 98 then 2 else if c = 99 then 3 else 4
theorem part_any (b : Nat) (c : UInt8) (hc : c = 97 ∨ c = 98 ∨ c = 99 ∨ c = 105) (w : World) : Calls Tryd.prog 24 #[.pointer (some ⟨b, 0, none⟩), .int .i32 (c.toNat : Int)] w fun e w' => e = .returned (.pointer (some ⟨b, ixW c, none⟩)) ∧ w' = w := by
  rcases hc with rfl | rfl | rfl | rfl
  · show Calls Tryd.prog 24 #[.pointer (some ⟨b, 0, none⟩), .int .i32 97] w _
    go_enter Tryd.func24, Tryd.ntmps24
    go_wp2
    go_ret
    exact ⟨rfl, rfl⟩
  · show Calls Tryd.prog 24 #[.pointer (some ⟨b, 0, none⟩), .int .i32 98] w _
    go_enter Tryd.func24, Tryd.ntmps24
    go_wp2
    go_ret
    exact ⟨rfl, rfl⟩
  · show Calls Tryd.prog 24 #[.pointer (some ⟨b, 0, none⟩), .int .i32 99] w _
    go_enter Tryd.func24, Tryd.ntmps24
    go_wp2
    go_ret
    exact ⟨rfl, rfl⟩
  · show Calls Tryd.prog 24 #[.pointer (some ⟨b, 0, none⟩), .int .i32 105] w _
    go_enter Tryd.func24, Tryd.ntmps24
    go_wp2
    go_ret
    exact ⟨rfl, rfl⟩
end Go.Proofs.YtohojpacijnnaaaDoor
