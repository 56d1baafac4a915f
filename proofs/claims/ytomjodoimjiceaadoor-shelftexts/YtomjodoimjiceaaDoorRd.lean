import Derived.Test.YtomjodoimjiceaaDoorRc
import Derived.Deep.CutBlock
import Derived.Deep.CutRange
namespace Go.Proofs.YtomjodoimjiceaaDoor
open Go.RowKit Go.Shelf
set_option linter.unusedVariables false
set_option linter.unusedSimpArgs false
set_option maxRecDepth 6000

set_option maxHeartbeats 4000000 in
theorem rput_in (b N : Nat) (ks vs : List ByteArray) (u v : Value) (F : Nat → Prop) (k y : ByteArray) (j : Nat) (w : World) (h : Rf w b N ks vs u v F) (hj : ks[j]? = some k) (hf : ∀ i, i < j → ks[i]? ≠ some k) :
    Calls Tryd.prog 21 #[ptr b, .string k, .string y] w fun r w' => r = .returned (.tuple #[.string ⟨#[]⟩, .bool false]) ∧ NowR w w' b N (ks.eraseIdx j ++ [k]) (vs.eraseIdx j ++ [y]) F := by
  have hjl : j < ks.length := (List.getElem?_eq_some_iff.1 hj).1
  have H1 : Hid (Calls _ _ _ _ _) := place_any b N ks vs u v F k w h
  have H2 : Hid (Calls _ _ _ _ _) := without_any b N ks vs u v F j w h hjl
  have HP : Hid (Plc k ks j) := .inr ⟨j, rfl, hj, hf⟩
  have hLn : (ks.eraseIdx j).length < N := by
    have h1 := h.fits
    rw [List.length_eraseIdx, if_pos hjl]; omega
  have HLn : Hid ((ks.eraseIdx j).length < N) := hLn
  have hjb : (j : Int) ≤ 4096 := by have h1 := h.fits; have h2 := h.hi; omega
  clear h hj hf hjl hLn
  go_enter Tryd.func21, Tryd.ntmps21
  go_wp2_with fail
  refine H1.out.mono ?_
  rintro e w' ⟨p, rfl, hP, hw⟩
  obtain rfl := hw.symm
  obtain rfl := hP.uniq HP.out
  clear hw hP H1
  go_wp2_with fail
  refine H2.out.mono ?_
  rintro e w1 ⟨rfl, ⟨u1, v1, F1, hR1, hF1⟩, hK1⟩
  obtain ⟨a0, cap0, eu, _⟩ := owns_slice hR1.kr
  obtain ⟨a9, cap9, ev, _⟩ := owns_slice hR1.vr
  subst eu ev
  obtain ⟨a1, n1, c1, W1, a2, n2, c2, W2, ap1, ⟨z1, d1, e2⟩, ap2, ⟨z2, d2⟩, hN⟩ := push_rf hR1 HLn.out k y
  have b1 := hR1.blk.cell (i := 1) rfl
  obtain ⟨X1, eX1⟩ : ∃ X1, X1 = W1.setCell ⟨b, 1, none⟩ (.slice a1 n1 c1) := ⟨_, rfl⟩
  rw [← eX1] at e2 ap2
  have HAP1 : Hid (∀ ty, _) := ap1
  have HAP2 : Hid (∀ ty, _) := ap2
  have HX1 : Hid (W1.setCell ⟨b, 1, none⟩ (.slice a1 n1 c1) = X1) := eX1.symm
  have HE : Hid (NowR w (W2.setCell ⟨b, 2, none⟩ (.slice a2 n2 c2)) b N (ks.eraseIdx j ++ [k]) (vs.eraseIdx j ++ [y]) F) := NowR.trans (u := .slice none 0 0) (v := .slice none 0 0) (ks := []) (vs := []) hF1 hK1 hN
  clear H2 hR1 hF1 hK1 hN ap1 ap2 eX1 HLn
  go_upto_region 11 with (at_builtin; go_must (refine wpList_append_run rfl (.tmp 43) (.tmp 45) 58 58 rfl _ (.slice (some ⟨w1.heap.size, 0, none⟩) 1 1) (.slice a1 n1 c1) W1 rfl rfl HAP1.out ?_))
  rw [HX1.out]
  clear z1 d1 b1
  go_wp2_with (at_builtin; go_must (refine wpList_append_run rfl (.tmp 53) (.tmp 55) 58 58 rfl _ (.slice (some ⟨X1.heap.size, 0, none⟩) 1 1) (.slice a2 n2 c2) W2 rfl rfl HAP2.out ?_))
  go_ret2
  exact ⟨rfl, HE.out⟩

set_option maxHeartbeats 4000000 in
theorem rput_new (b N : Nat) (ks vs : List ByteArray) (u v : Value) (F : Nat → Prop) (k y : ByteArray) (w : World) (h : Rf w b N ks vs u v F) (hk : ∀ x ∈ ks, x ≠ k) (hl : ks.length < N) :
    Calls Tryd.prog 21 #[ptr b, .string k, .string y] w fun r w' => r = .returned (.tuple #[.string ⟨#[]⟩, .bool false]) ∧ NowR w w' b N (ks ++ [k]) (vs ++ [y]) F := by
  have H1 : Hid (Calls _ _ _ _ _) := place_any b N ks vs u v F k w h
  have HP : Hid (Plc k ks (-1)) := .inl ⟨rfl, hk⟩
  have h2 := h.kept ((Keeps.refl (fun _ => False) w).drew) fun _ _ h => h
  have b0 := h.blk.cell (i := 0) rfl
  have fl : ((ks.length : Int) == (N : Int)) = false := by simp; omega
  have HFt : Hid (∀ q, F q → F q ∨ w.heap.size ≤ q) := fun q e => .inl e
  obtain ⟨a0, cap0, eu, _⟩ := owns_slice h2.kr
  obtain ⟨a9, cap9, ev, _⟩ := owns_slice h2.vr
  subst eu ev
  obtain ⟨a1, n1, c1, W1, a2, n2, c2, W2, ap1, ⟨z1, d1, e2⟩, ap2, ⟨z2, d2⟩, hN⟩ := push_rf h2 hl k y
  have b1 := h2.blk.cell (i := 1) rfl
  obtain ⟨X1, eX1⟩ : ∃ X1, X1 = W1.setCell ⟨b, 1, none⟩ (.slice a1 n1 c1) := ⟨_, rfl⟩
  rw [← eX1] at e2 ap2
  have HAP1 : Hid (∀ ty, _) := ap1
  have HAP2 : Hid (∀ ty, _) := ap2
  have HX1 : Hid (W1.setCell ⟨b, 1, none⟩ (.slice a1 n1 c1) = X1) := eX1.symm
  have HE : Hid (NowR w (W2.setCell ⟨b, 2, none⟩ (.slice a2 n2 c2)) b N (ks ++ [k]) (vs ++ [y]) F) := NowR.trans (u := .slice none 0 0) (v := .slice none 0 0) (ks := []) (vs := []) HFt.out ((Keeps.refl F w).drew) hN
  have b1w := b1
  clear h h2 hk hl hN ap1 ap2 eX1 HFt
  go_enter Tryd.func21, Tryd.ntmps21
  go_wp2_with fail
  refine H1.out.mono ?_
  rintro e w' ⟨p, rfl, hP, hw⟩
  obtain rfl := hw.symm
  obtain rfl := hP.uniq HP.out
  clear hw hP H1
  go_wp2_with fail
  go_region
  go_upto_region 11 with (at_builtin; go_must (refine wpList_append_run rfl (.tmp 43) (.tmp 45) 58 58 rfl _ (.slice (some ⟨w.drew.heap.size, 0, none⟩) 1 1) (.slice a1 n1 c1) W1 rfl rfl HAP1.out ?_))
  rw [HX1.out]
  clear z1 d1 b1
  go_wp2_with (at_builtin; go_must (refine wpList_append_run rfl (.tmp 53) (.tmp 55) 58 58 rfl _ (.slice (some ⟨X1.heap.size, 0, none⟩) 1 1) (.slice a2 n2 c2) W2 rfl rfl HAP2.out ?_))
  go_ret2
  exact ⟨rfl, HE.out⟩

set_option maxHeartbeats 4000000 in
theorem rput_full (b N : Nat) (ks vs : List ByteArray) (u v : Value) (F : Nat → Prop) (k y x0 : ByteArray) (w : World) (h : Rf w b N ks vs u v F) (hk : ∀ x ∈ ks, x ≠ k) (hl : ks.length = N) (h0 : ks[0]? = some x0) :
    Calls Tryd.prog 21 #[ptr b, .string k, .string y] w fun r w' => r = .returned (.tuple #[.string x0, .bool true]) ∧ NowR w w' b N (ks.tail ++ [k]) (vs.tail ++ [y]) F := by
  have hjl : 0 < ks.length := (List.getElem?_eq_some_iff.1 h0).1
  have H1 : Hid (Calls _ _ _ _ _) := place_any b N ks vs u v F k w h
  have HP : Hid (Plc k ks (-1)) := .inl ⟨rfl, hk⟩
  have h2 := h.kept ((Keeps.refl (fun _ => False) w).drew) fun _ _ h => h
  have hW := without_any b N ks vs u v F 0 w.drew h2 hjl
  rw [List.eraseIdx_zero, List.eraseIdx_zero] at hW
  have hLn : ks.tail.length < N := by
    rw [List.length_tail]; omega
  obtain ⟨K1, eK1⟩ : ∃ K1, K1 = ks.tail := ⟨_, rfl⟩
  obtain ⟨V1, eV1⟩ : ∃ V1, V1 = vs.tail := ⟨_, rfl⟩
  rw [← eK1, ← eV1] at hW ⊢
  rw [← eK1] at hLn
  have H2 : Hid (Calls _ _ _ _ _) := hW
  have HLn : Hid (K1.length < N) := hLn
  obtain ⟨a, cap, rfl, hc⟩ := owns_slice h2.kr
  obtain ⟨g, rfl, hg⟩ := hc 0 _ (sv_get h0)
  have c0 := h2.blk.cell (i := 0) rfl
  have c1' := h2.blk.cell (i := 1) rfl
  have fl : ((ks.length : Int) == (N : Int)) = true := by simp; omega
  have hlp : 0 < (ks.length : Int) := by omega
  have hlb : (ks.length : Int) ≤ 4096 := by have := h.hi; omega
  obtain ⟨L, eL⟩ : ∃ L, L = ks.length := ⟨_, rfl⟩
  rw [← eL] at c1' fl hlp hlb
  have HFt : Hid (∀ q, F q → F q ∨ w.heap.size ≤ q) := fun q e => .inl e
  clear h hk hl h0 h2 hc eL hjl hLn hW eK1 eV1
  go_enter Tryd.func21, Tryd.ntmps21
  go_wp2_with fail
  refine H1.out.mono ?_
  rintro e w' ⟨p, rfl, hP, hw⟩
  obtain rfl := hw.symm
  obtain rfl := hP.uniq HP.out
  clear hw hP H1
  go_wp2_with fail
  go_region
  go_wp2_with fail
  refine H2.out.mono ?_
  rintro e w1 ⟨rfl, ⟨u1, v1, F1, hR1, hF1⟩, hK1⟩
  obtain ⟨a0, cap0, eu, _⟩ := owns_slice hR1.kr
  obtain ⟨a9, cap9, ev, _⟩ := owns_slice hR1.vr
  subst eu ev
  obtain ⟨a1, n1, c1, W1, a2, n2, c2, W2, ap1, ⟨z1, d1, e2⟩, ap2, ⟨z2, d2⟩, hN⟩ := push_rf hR1 HLn.out k y
  have b1 := hR1.blk.cell (i := 1) rfl
  obtain ⟨X1, eX1⟩ : ∃ X1, X1 = W1.setCell ⟨b, 1, none⟩ (.slice a1 n1 c1) := ⟨_, rfl⟩
  rw [← eX1] at e2 ap2
  have HAP1 : Hid (∀ ty, _) := ap1
  have HAP2 : Hid (∀ ty, _) := ap2
  have HX1 : Hid (W1.setCell ⟨b, 1, none⟩ (.slice a1 n1 c1) = X1) := eX1.symm
  have HE : Hid (NowR w (W2.setCell ⟨b, 2, none⟩ (.slice a2 n2 c2)) b N (K1 ++ [k]) (V1 ++ [y]) F) := NowR.trans (u := .slice none 0 0) (v := .slice none 0 0) (ks := []) (vs := []) HFt.out ((Keeps.refl F w).drew) (NowR.trans (u := .slice none 0 0) (v := .slice none 0 0) (ks := []) (vs := []) hF1 hK1 hN)
  clear H2 hR1 hF1 hK1 hN ap1 ap2 eX1 HLn HFt c0 c1' hg fl hlp
  go_upto_region 11 with (at_builtin; go_must (refine wpList_append_run rfl (.tmp 43) (.tmp 45) 58 58 rfl _ (.slice (some ⟨w1.heap.size, 0, none⟩) 1 1) (.slice a1 n1 c1) W1 rfl rfl HAP1.out ?_))
  rw [HX1.out]
  clear z1 d1 b1
  go_wp2_with (at_builtin; go_must (refine wpList_append_run rfl (.tmp 53) (.tmp 55) 58 58 rfl _ (.slice (some ⟨X1.heap.size, 0, none⟩) 1 1) (.slice a2 n2 c2) W2 rfl rfl HAP2.out ?_))
  go_ret2
  exact ⟨rfl, HE.out⟩

end Go.Proofs.YtomjodoimjiceaaDoor
