import Derived.Test.YtfcgpjojjehkiaaU
namespace Go.Proofs.Ytfcgpjojjehkiaa
open Go.RowKit
set_option linter.unusedVariables false

set_option maxRecDepth 20000 in
set_option maxHeartbeats 1000000 in
theorem sampleNames_any (w : World) : Calls Try.prog 7 #[] w fun e w' => e = .returned (.bool true) ∧ Keeps (fun _ => False) w w' := by
  have HN := new_in 1 w (by omega) (by omega)
  obtain ⟨xs, hxs⟩ : ∃ xs : List UInt32, xs = List.replicate (1 * 16) 0 := ⟨_, rfl⟩
  obtain ⟨g, hg⟩ : ∃ g, g = w.heap.size := ⟨_, rfl⟩
  obtain ⟨b, hb⟩ : ∃ b, b = w.heap.size + 1 := ⟨_, rfl⟩
  rw [← hxs, ← hb, ← hg] at HN
  have HN : Hid (Calls _ _ _ _ _) := HN
  have HP1 : Hid (∀ W, Mm W b g xs → Calls Try.prog 17 #[.pointer (some ⟨b, 0, none⟩), .int .i64 0, .int .i64 2, .slice none 0 0] W fun e w' => e = .returned (.int .i64 190) ∧ Mm w' b g xs ∧ Keeps (· = g) W w') := by
    intro W h
    have := put_any false b g xs 0 2 none 0 [] W h (.inl rfl) (by omega)
    have e1 : putE false xs 0 2 ([] : List UInt32).length = 190 := by rw [hxs]; decide
    have e2 : putX false xs 0 2 [] = xs := by unfold putX; rw [e1]; rfl
    rw [e1, e2] at this
    exact this
  have HWr : Hid (∀ W, Mm W b g xs → Calls Try.prog 27 #[.pointer (some ⟨b, 0, none⟩), .int .i64 0, .int .u32 9] W fun e w' => e = .returned (.int .i64 0) ∧ Mm w' b g (lay xs 0 [9]) ∧ Keeps (· = g) W w') := by
    intro W h
    exact write_in b g xs 0 9 W h (by rw [hxs]; decide)
  have HP2 : Hid (∀ W, Mm W b g (lay xs 0 [9]) → Calls Try.prog 17 #[.pointer (some ⟨b, 0, none⟩), .int .i64 0, .int .i64 2, .slice (some ⟨W.heap.size, 0, none⟩) 1 1] (W.alloc (.cells #[.int .u32 1] 34)) fun e w' => e = .returned (.int .i64 191) ∧ Keeps (· = g) W w') := by
    intro W h
    have k : Keeps (fun _ => False) W (W.alloc (.cells #[.int .u32 1] 34)) := (Keeps.refl _ W).alloc _
    have hB : Blk (W.alloc (.cells #[.int .u32 1] 34)) W.heap.size (wvs [1]) 34 := Blk.new W #[.int .u32 1] 34
    have := put_any false b g (lay xs 0 [9]) 0 2 (some ⟨W.heap.size, 0, none⟩) 1 [1] _ (h.kept k (fun e => e) (fun e => e)) (segW_of_blk hB) (by omega)
    have e1 : putE false (lay xs 0 [9]) 0 2 ([1] : List UInt32).length = 191 := by rw [hxs]; decide
    rw [e1] at this
    exact this.mono fun e w' ⟨q1, q2, q3⟩ => ⟨q1, (k.mono (T := (· = g)) fun _ _ e => e.elim).trans q3 fun _ _ e => e⟩
  have HG : Hid (g = w.heap.size) := hg
  clear hxs hg hb
  go_enter Try.func7, Try.ntmps7
  go_wp2_with fail
  refine HN.out.mono ?_
  rintro e w1 ⟨rfl, hM, hk⟩
  have H1 : Hid (Calls _ _ _ _ _) := HP1.out w1 hM
  have HK1 : Hid (Keeps (fun _ => False) w w1) := hk
  clear hM hk HN HP1
  go_wp2_with fail
  refine H1.out.mono ?_
  rintro e w2 ⟨rfl, hM, hk⟩
  have H2 : Hid (Calls _ _ _ _ _) := HWr.out w2 hM
  have HK2 : Hid (Keeps (· = g) w1 w2) := hk
  clear hM hk H1 HWr
  go_wp2_with fail
  refine H2.out.mono ?_
  rintro e w3 ⟨rfl, hM, hk⟩
  have H3 : Hid (Calls _ _ _ _ _) := HP2.out w3 hM
  have HK3 : Hid (Keeps (· = g) w1 w3) := HK2.out.trans hk fun _ _ e => e
  clear hM hk H2 HP2
  go_wp2_with fail
  refine H3.out.mono ?_
  rintro e w4 ⟨rfl, hk⟩
  have HK4 : Hid (Keeps (· = g) w1 w4) := HK3.out.trans hk fun _ _ e => e
  clear hk H3
  go_wp2
  go_ret
  exact ⟨rfl, HK1.out.trans HK4.out fun k hk e => by have := HG.out; omega⟩

end Go.Proofs.Ytfcgpjojjehkiaa
