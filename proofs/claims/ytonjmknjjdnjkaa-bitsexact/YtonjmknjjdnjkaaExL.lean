import Derived.Test.YtonjmknjjdnjkaaOwn
namespace Go.Proofs.Ytonjmknjjdnjkaa
open Go.RowKit
set_option linter.unusedVariables false

def nilS : Value := .slice none 0 0

/-- append of one entry of a book. -/
theorem append_kept {w : World} (l v : Value) (hl : l.oneCell' = true) (hv : v.oneCell' = true) (vk : Value) (m : Nat) (cs : List Value) (hown : w.ownsRow 0 100 4 vk m cs) (hm : m ≤ 4294967296) :
    ∃ v' W', (∀ ty, (Builtin.append_ #[29, 29] ty #[vk, .slice (some ⟨w.heap.size, 0, none⟩) 1 1]).run Try.prog (w.alloc (.cells #[l, v, .slice none 0 0, .slice none 0 0] 100)) = .ok v' W') ∧ W'.ownsRow 0 100 4 v' (m + 1) (cs ++ [l, v, .slice none 0 0, .slice none 0 0]) ∧ Grew w vk W' v' := by
  obtain ⟨i0, hi, hz0, hz1, hz2⟩ := info_parts Try.info100
  obtain ⟨v', W', h1, h2, h3, h4⟩ := append_new 29 100 i0 _ 4 96 Try.under29 hi hz0 hz1 hz2 rfl (by omega) vk m cs hown #[l, v, .slice none 0 0, .slice none 0 0] rfl (by
    intro u hu
    have hu' : u = l ∨ u = v ∨ u = .slice none 0 0 ∨ u = .slice none 0 0 := by simpa using hu
    rcases hu' with rfl | rfl | rfl | rfl
    · exact hl
    · exact hv
    · rfl
    · rfl) (by unfold maxLen; omega) (by omega)
  exact ⟨v', W', h1, h2, h3, h4⟩

set_option maxHeartbeats 1000000 in
theorem keepBytes_any (s : Nat × Nat → Ob) (w : World) (X m : Nat) (c0 c1 c2 c3 vk c5 : Value) (cs : List Value) (al aw : Option Addr) (cl cw : Nat) (xs : List UInt8) (ol ow : Nat × Nat) (h : Has s w)
    (hX : s (1, 0) = .blk X [c0, c1, c2, c3, vk, c5] 34) (hr : s (6, 0) = .row 100 4 vk m cs)
    (hl : ∀ s2 w2, Has s2 w2 → s2 ol = s ol → Seg w2 al xs) (hw : ∀ s2 w2, Has s2 w2 → s2 ow = s ow → Seg w2 aw xs) (hol : ol ≠ (13, m) ∧ ol ≠ (6, 0) ∧ ol ≠ (1, 0)) (how : ow ≠ (13, m) ∧ ow ≠ (6, 0) ∧ ow ≠ (1, 0))
    (hlen : xs.length ≤ 17592186044416) (hm : m ≤ 4294967296) :
    Calls Try.prog 54 #[.pointer (some ⟨X, 4, none⟩), .slice al xs.length cl, .slice aw xs.length cw] w fun e w' => e = .returned (.bool true) ∧ ∃ vw vk', (∃ a' c', vw = .slice a' xs.length c') ∧ (∃ a' c', vk' = .slice a' (m + 1) c') ∧
      Has (upd (upd (upd s (13, m) (.row 5 1 vw xs.length (bvs xs))) (6, 0) (.row 100 4 vk' (m + 1) (cs ++ [.slice al xs.length cl, vw, .slice none 0 0, .slice none 0 0]))) (1, 0) (.blk X [c0, c1, c2, c3, vk', c5] 34)) w' := by
  obtain ⟨vw, W1, happ, hown1, hG1⟩ := append_seg (w := w) (.slice none 0 0) 0 cw [] (World.ownsRow_nil _ _ _ _) aw xs (hw s w h rfl) (by omega)
  rw [Nat.zero_add, List.nil_append] at hown1
  have H1 : Has (upd s (13, m) (.row 5 1 vw xs.length (bvs xs))) W1 := h.newRow (13, m) hown1 hG1.new.1 hG1.new.2
  obtain ⟨aw', cw', rfl, _, _⟩ := own_slice hown1
  have hr1 : upd s (13, m) (.row 5 1 (.slice aw' xs.length cw') xs.length (bvs xs)) (6, 0) = .row 100 4 vk m cs := by rw [upd_ne _ _ _ _ (by simp)]; exact hr
  obtain ⟨hrow1, next1⟩ := H1.row hr1
  have hX1 : upd s (13, m) (.row 5 1 (.slice aw' xs.length cw') xs.length (bvs xs)) (1, 0) = .blk X [c0, c1, c2, c3, vk, c5] 34 := by rw [upd_ne _ _ _ _ (by simp)]; exact hX
  have hB1 := (H1.blk hX1).1
  obtain ⟨vk', W2, happ2, hown2, hG2⟩ := append_kept (.slice al xs.length cl) (.slice aw' xs.length cw') rfl rfl vk m cs hrow1 hm
  have H2 := next1 _ _ _ _ hown2 hG2
  obtain ⟨ak', ck', rfl, _, _⟩ := own_slice hown2
  have hX2 : upd (upd s (13, m) (.row 5 1 (.slice aw' xs.length cw') xs.length (bvs xs))) (6, 0) (.row 100 4 (.slice ak' (m + 1) ck') (m + 1) (cs ++ [.slice al xs.length cl, .slice aw' xs.length cw', .slice none 0 0, .slice none 0 0])) (1, 0) = .blk X [c0, c1, c2, c3, vk, c5] 34 := by
    rw [upd_ne _ _ _ _ (by simp)]; exact hX1
  obtain ⟨hB2, next2⟩ := H2.blk hX2
  have hB3 := hB2.setCell 4 (.slice ak' (m + 1) ck')
  have hK3 : Keeps (· = X) W2 (W2.setCell ⟨X, 4, none⟩ (.slice ak' (m + 1) ck')) := (Keeps.refl (· = X) W2).setCell ⟨X, 4, none⟩ _ (fun _ => Eq.refl X)
  have H3 := next2 _ _ _ hB3 hK3
  have s1 := hl _ _ H3 (by rw [upd_ne _ _ _ _ hol.2.2, upd_ne _ _ _ _ hol.2.1, upd_ne _ _ _ _ hol.1])
  have s2 := hw _ _ H3 (by rw [upd_ne _ _ _ _ how.2.2, upd_ne _ _ _ _ how.2.1, upd_ne _ _ _ _ how.1])
  have hcall := sameBytes_any al aw cl cw xs xs _ s1 s2 (by unfold maxLen; omega) rfl
  obtain ⟨avk, cvk, rfl, _, _⟩ := own_slice hrow1
  have e4 := hB1.cell (i := 4) rfl
  have f4 := hB2.cell (i := 4) rfl
  have g4 := hB2.frozen 4
  have HF : Hid (Has _ _) := H3
  obtain ⟨n, hnn⟩ : ∃ n, n = xs.length := ⟨_, rfl⟩
  rw [← hnn] at happ happ2 hcall HF ⊢
  have HAP : Hid (∀ ty, _) := happ
  have HAP2 : Hid (∀ ty, _) := happ2
  have HCL : Hid (Calls _ _ _ _ _) := hcall
  clear hnn happ happ2 hcall H1 H2 H3 s1 s2 hB1 hB2 hB3 hK3 next1 next2 hX1 hX2 hr1 hrow1 hown1 hown2 hG1 hG2 h hX hr hl hw hol how hlen hm
  go_enter Try.func54, Try.ntmps54
  go_wp2_with (at_builtin; refine wpList_append_run rfl (.tmp 8) (.tmp 9) 38 38 rfl (.slice none 0 0) (.slice aw n cw) (.slice aw' n cw') W1 rfl rfl HAP.out ?_; refine Hid.out ?_)
  unfold Hid
  go_wp2_with (at_builtin; go_must (refine wpList_append_run rfl (.tmp 15) (.tmp 19) 29 29 rfl (.slice avk m cvk) (.slice (some ⟨W1.heap.size, 0, none⟩) 1 1) (.slice ak' (m + 1) ck') W2 rfl rfl HAP2.out ?_))
  refine HCL.out.mono ?_
  rintro e w2 ⟨rfl, hK⟩
  have HK : Hid (Keeps _ _ _) := hK
  clear hK
  go_wp2
  go_ret
  exact ⟨rfl, _, _, ⟨_, _, rfl⟩, ⟨_, _, rfl⟩, HF.out.quiet HK.out⟩
/-- append of one entry of a book. -/
theorem append_keptW {w : World} (l v : Value) (hl : l.oneCell' = true) (hv : v.oneCell' = true) (vk : Value) (m : Nat) (cs : List Value) (hown : w.ownsRow 0 102 4 vk m cs) (hm : m ≤ 4294967296) :
    ∃ v' W', (∀ ty, (Builtin.append_ #[30, 30] ty #[vk, .slice (some ⟨w.heap.size, 0, none⟩) 1 1]).run Try.prog (w.alloc (.cells #[l, v, .slice none 0 0, .slice none 0 0] 102)) = .ok v' W') ∧ W'.ownsRow 0 102 4 v' (m + 1) (cs ++ [l, v, .slice none 0 0, .slice none 0 0]) ∧ Grew w vk W' v' := by
  obtain ⟨i0, hi, hz0, hz1, hz2⟩ := info_parts Try.info102
  obtain ⟨v', W', h1, h2, h3, h4⟩ := append_new 30 102 i0 _ 4 96 Try.under30 hi hz0 hz1 hz2 rfl (by omega) vk m cs hown #[l, v, .slice none 0 0, .slice none 0 0] rfl (by
    intro u hu
    have hu' : u = l ∨ u = v ∨ u = .slice none 0 0 ∨ u = .slice none 0 0 := by simpa using hu
    rcases hu' with rfl | rfl | rfl | rfl
    · exact hl
    · exact hv
    · rfl
    · rfl) (by unfold maxLen; omega) (by omega)
  exact ⟨v', W', h1, h2, h3, h4⟩

set_option maxHeartbeats 1000000 in
theorem keepWords_any (s : Nat × Nat → Ob) (w : World) (X m : Nat) (c0 c1 c2 c3 c4 vk : Value) (cs : List Value) (al aw : Option Addr) (cl cw : Nat) (xs : List UInt32) (ol ow : Nat × Nat) (h : Has s w)
    (hX : s (1, 0) = .blk X [c0, c1, c2, c3, c4, vk] 34) (hr : s (7, 0) = .row 102 4 vk m cs)
    (hl : ∀ s2 w2, Has s2 w2 → s2 ol = s ol → SegW w2 al xs) (hw : ∀ s2 w2, Has s2 w2 → s2 ow = s ow → SegW w2 aw xs) (hol : ol ≠ (15, m) ∧ ol ≠ (7, 0) ∧ ol ≠ (1, 0)) (how : ow ≠ (15, m) ∧ ow ≠ (7, 0) ∧ ow ≠ (1, 0))
    (hlen : xs.length ≤ 4398046511104) (hm : m ≤ 4294967296) :
    Calls Try.prog 58 #[.pointer (some ⟨X, 4, none⟩), .slice al xs.length cl, .slice aw xs.length cw] w fun e w' => e = .returned (.bool true) ∧ ∃ vw vk', (∃ a' c', vw = .slice a' xs.length c') ∧ (∃ a' c', vk' = .slice a' (m + 1) c') ∧
      Has (upd (upd (upd s (15, m) (.row 36 1 vw xs.length (wvs xs))) (7, 0) (.row 102 4 vk' (m + 1) (cs ++ [.slice al xs.length cl, vw, .slice none 0 0, .slice none 0 0]))) (1, 0) (.blk X [c0, c1, c2, c3, c4, vk'] 34)) w' := by
  obtain ⟨vw, W1, happ, hown1, hG1⟩ := append_segW (w := w) (.slice none 0 0) 0 cw [] (World.ownsRow_nil _ _ _ _) aw xs (hw s w h rfl) (by omega)
  rw [Nat.zero_add, List.nil_append] at hown1
  have H1 : Has (upd s (15, m) (.row 36 1 vw xs.length (wvs xs))) W1 := h.newRow (15, m) hown1 hG1.new.1 hG1.new.2
  obtain ⟨aw', cw', rfl, _, _⟩ := own_slice hown1
  have hr1 : upd s (15, m) (.row 36 1 (.slice aw' xs.length cw') xs.length (wvs xs)) (7, 0) = .row 102 4 vk m cs := by rw [upd_ne _ _ _ _ (by simp)]; exact hr
  obtain ⟨hrow1, next1⟩ := H1.row hr1
  have hX1 : upd s (15, m) (.row 36 1 (.slice aw' xs.length cw') xs.length (wvs xs)) (1, 0) = .blk X [c0, c1, c2, c3, c4, vk] 34 := by rw [upd_ne _ _ _ _ (by simp)]; exact hX
  have hB1 := (H1.blk hX1).1
  obtain ⟨vk', W2, happ2, hown2, hG2⟩ := append_keptW (.slice al xs.length cl) (.slice aw' xs.length cw') rfl rfl vk m cs hrow1 hm
  have H2 := next1 _ _ _ _ hown2 hG2
  obtain ⟨ak', ck', rfl, _, _⟩ := own_slice hown2
  have hX2 : upd (upd s (15, m) (.row 36 1 (.slice aw' xs.length cw') xs.length (wvs xs))) (7, 0) (.row 102 4 (.slice ak' (m + 1) ck') (m + 1) (cs ++ [.slice al xs.length cl, .slice aw' xs.length cw', .slice none 0 0, .slice none 0 0])) (1, 0) = .blk X [c0, c1, c2, c3, c4, vk] 34 := by
    rw [upd_ne _ _ _ _ (by simp)]; exact hX1
  obtain ⟨hB2, next2⟩ := H2.blk hX2
  have hB3 := hB2.setCell 5 (.slice ak' (m + 1) ck')
  have hK3 : Keeps (· = X) W2 (W2.setCell ⟨X, 5, none⟩ (.slice ak' (m + 1) ck')) := (Keeps.refl (· = X) W2).setCell ⟨X, 5, none⟩ _ (fun _ => Eq.refl X)
  have H3 := next2 _ _ _ hB3 hK3
  have s1 := hl _ _ H3 (by rw [upd_ne _ _ _ _ hol.2.2, upd_ne _ _ _ _ hol.2.1, upd_ne _ _ _ _ hol.1])
  have s2 := hw _ _ H3 (by rw [upd_ne _ _ _ _ how.2.2, upd_ne _ _ _ _ how.2.1, upd_ne _ _ _ _ how.1])
  have hcall := sameWords_any al aw cl cw xs xs _ s1 s2 (by unfold maxLen; omega) (by unfold maxLen; omega) rfl
  obtain ⟨avk, cvk, rfl, _, _⟩ := own_slice hrow1
  have e4 := hB1.cell (i := 5) rfl
  have f4 := hB2.cell (i := 5) rfl
  have g4 := hB2.frozen 5
  have HF : Hid (Has _ _) := H3
  obtain ⟨n, hnn⟩ : ∃ n, n = xs.length := ⟨_, rfl⟩
  rw [← hnn] at happ happ2 hcall HF ⊢
  have HAP : Hid (∀ ty, _) := happ
  have HAP2 : Hid (∀ ty, _) := happ2
  have HCL : Hid (Calls _ _ _ _ _) := hcall
  clear hnn happ happ2 hcall H1 H2 H3 s1 s2 hB1 hB2 hB3 hK3 next1 next2 hX1 hX2 hr1 hrow1 hown1 hown2 hG1 hG2 h hX hr hl hw hol how hlen hm
  go_enter Try.func58, Try.ntmps58
  go_wp2_with (at_builtin; refine wpList_append_run rfl (.tmp 8) (.tmp 9) 39 39 rfl (.slice none 0 0) (.slice aw n cw) (.slice aw' n cw') W1 rfl rfl HAP.out ?_; refine Hid.out ?_)
  unfold Hid
  go_wp2_with (at_builtin; go_must (refine wpList_append_run rfl (.tmp 15) (.tmp 19) 30 30 rfl (.slice avk m cvk) (.slice (some ⟨W1.heap.size, 0, none⟩) 1 1) (.slice ak' (m + 1) ck') W2 rfl rfl HAP2.out ?_))
  refine HCL.out.mono ?_
  rintro e w2 ⟨rfl, hK⟩
  have HK : Hid (Keeps _ _ _) := hK
  clear hK
  go_wp2
  go_ret
  exact ⟨rfl, _, _, ⟨_, _, rfl⟩, ⟨_, _, rfl⟩, HF.out.quiet HK.out⟩
end Go.Proofs.Ytonjmknjjdnjkaa
