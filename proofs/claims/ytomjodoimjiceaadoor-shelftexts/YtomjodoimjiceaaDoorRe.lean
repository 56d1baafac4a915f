import Derived.Test.YtomjodoimjiceaaDoorRk
namespace Go.Proofs.YtomjodoimjiceaaDoor
open Go.RowKit Go.Shelf
set_option linter.unusedVariables false
set_option linter.unusedSimpArgs false
set_option maxRecDepth 6000

theorem NowR.of_keeps {w w' w2 : World} {b N : Nat} {ks' vs' : List ByteArray} {F : Nat → Prop} (hK : Keeps (fun _ => False) w w') (h : NowR w' w2 b N ks' vs' F) : NowR w w2 b N ks' vs' F :=
  NowR.trans (u := .slice none 0 0) (v := .slice none 0 0) (ks := []) (vs := []) (fun _ e => .inl e) (hK.mono fun _ _ h => h.elim) h
theorem NowR.same {w w' : World} {b N : Nat} {ks vs : List ByteArray} {u v : Value} {F : Nat → Prop} (h : Rf w b N ks vs u v F) (hK : Keeps (fun _ => False) w w') : NowR w w' b N ks vs F :=
  ⟨⟨u, v, F, h.kept hK fun _ _ h => h, fun _ e => .inl e⟩, hK.mono fun _ _ h => h.elim⟩

theorem rget_out (b N : Nat) (ks vs : List ByteArray) (u v : Value) (F : Nat → Prop) (k : ByteArray) (w : World) (h : Rf w b N ks vs u v F) (hk : ∀ x ∈ ks, x ≠ k) :
    Calls Tryd.prog 23 #[ptr b, .string k] w fun r w' => r = .returned (.tuple #[.string ⟨#[]⟩, .bool false]) ∧ w' = w := by
  have H1 : Hid (Calls _ _ _ _ _) := rpeek_out b N ks vs u v F k w h hk
  clear h hk
  go_enter Tryd.func23, Tryd.ntmps23
  go_wp2_with fail
  refine H1.out.mono ?_
  rintro e w' ⟨rfl, hw⟩
  obtain rfl := hw.symm
  clear hw H1
  go_wp2
  go_ret2
  exact ⟨rfl, rfl⟩

theorem rget_in (b N : Nat) (ks vs : List ByteArray) (u v : Value) (F : Nat → Prop) (k y : ByteArray) (j : Nat) (w : World) (h : Rf w b N ks vs u v F) (hj : ks[j]? = some k) (hf : ∀ i, i < j → ks[i]? ≠ some k) (hy : vs[j]? = some y) :
    Calls Tryd.prog 23 #[ptr b, .string k] w fun r w' => r = .returned (.tuple #[.string y, .bool true]) ∧ NowR w w' b N (ks.eraseIdx j ++ [k]) (vs.eraseIdx j ++ [y]) F := by
  have H1 : Hid (Calls _ _ _ _ _) := rpeek_in b N ks vs u v F k y j w h hj hf hy
  have H2 : Hid (∀ w', Keeps (fun _ => False) w w' → Calls Tryd.prog 21 #[ptr b, .string k, .string y] w' fun r w2 => r = .returned (.tuple #[.string ⟨#[]⟩, .bool false]) ∧ NowR w w2 b N (ks.eraseIdx j ++ [k]) (vs.eraseIdx j ++ [y]) F) := fun w' hK =>
    (rput_in b N ks vs u v F k y j w' (h.kept hK fun _ _ h => h) hj hf).mono fun r w2 ⟨q1, q2⟩ => ⟨q1, q2.of_keeps hK⟩
  clear h hj hf hy
  go_enter Tryd.func23, Tryd.ntmps23
  go_wp2_with fail
  refine H1.out.mono ?_
  rintro e w' ⟨rfl, hK⟩
  have H3 : Hid (Calls _ _ _ _ _) := H2.out w' hK
  clear hK H1 H2
  go_wp2_with fail
  refine H3.out.mono ?_
  rintro e w2 ⟨rfl, hN⟩
  have HN : Hid (NowR w w2 b N (ks.eraseIdx j ++ [k]) (vs.eraseIdx j ++ [y]) F) := hN
  clear hN H3
  go_wp2
  go_ret2
  exact ⟨rfl, HN.out⟩

theorem rdrop_out (b N : Nat) (ks vs : List ByteArray) (u v : Value) (F : Nat → Prop) (k : ByteArray) (w : World) (h : Rf w b N ks vs u v F) (hk : ∀ x ∈ ks, x ≠ k) :
    Calls Tryd.prog 27 #[ptr b, .string k] w fun r w' => r = .returned (.bool false) ∧ w' = w := by
  have H1 : Hid (Calls _ _ _ _ _) := place_any b N ks vs u v F k w h
  have HP : Hid (Plc k ks (-1)) := .inl ⟨rfl, hk⟩
  clear h hk
  go_enter Tryd.func27, Tryd.ntmps27
  go_wp2_with fail
  refine H1.out.mono ?_
  rintro e w' ⟨p, rfl, hP, hw⟩
  obtain rfl := hw.symm
  obtain rfl := hP.uniq HP.out
  clear hw hP H1
  go_wp2
  go_ret
  exact ⟨rfl, rfl⟩

theorem rdrop_in (b N : Nat) (ks vs : List ByteArray) (u v : Value) (F : Nat → Prop) (k : ByteArray) (j : Nat) (w : World) (h : Rf w b N ks vs u v F) (hj : ks[j]? = some k) (hf : ∀ i, i < j → ks[i]? ≠ some k) :
    Calls Tryd.prog 27 #[ptr b, .string k] w fun r w' => r = .returned (.bool true) ∧ NowR w w' b N (ks.eraseIdx j) (vs.eraseIdx j) F := by
  have hjl : j < ks.length := (List.getElem?_eq_some_iff.1 hj).1
  have H1 : Hid (Calls _ _ _ _ _) := place_any b N ks vs u v F k w h
  have H2 : Hid (Calls _ _ _ _ _) := without_any b N ks vs u v F j w h hjl
  have HP : Hid (Plc k ks j) := .inr ⟨j, rfl, hj, hf⟩
  have hjb : (j : Int) ≤ 4096 := by have h1 := h.fits; have h2 := h.hi; omega
  clear h hj hf hjl
  go_enter Tryd.func27, Tryd.ntmps27
  go_wp2_with fail
  refine H1.out.mono ?_
  rintro e w' ⟨p, rfl, hP, hw⟩
  obtain rfl := hw.symm
  obtain rfl := hP.uniq HP.out
  clear hw hP
  go_wp2_with fail
  refine H1.out.mono ?_
  rintro e w' ⟨p, rfl, hP, hw⟩
  obtain rfl := hw.symm
  obtain rfl := hP.uniq HP.out
  clear hw hP H1
  go_wp2_with fail
  refine H2.out.mono ?_
  rintro e w2 ⟨rfl, hN⟩
  have HN : Hid (NowR w w2 b N (ks.eraseIdx j) (vs.eraseIdx j) F) := hN
  clear hN H2
  go_wp2
  go_ret
  exact ⟨rfl, HN.out⟩

theorem rclear_any (b N : Nat) (ks vs : List ByteArray) (u v : Value) (F : Nat → Prop) (w : World) (h : Rf w b N ks vs u v F) :
    Calls Tryd.prog 28 #[ptr b] w fun r w' => r = .returned (.tuple #[]) ∧ NowR w w' b N [] [] F := by
  obtain ⟨a0, cap0, eu, _⟩ := owns_slice h.kr
  obtain ⟨a9, cap9, ev, _⟩ := owns_slice h.vr
  subst eu ev
  have c1 := h.blk.cell (i := 1) rfl
  have c2 := h.blk.cell (i := 2) rfl
  have z1 := h.blk.frozen 1
  have z2 := h.blk.frozen 2
  have HE : Hid (NowR w ((w.setCell ⟨b, 1, none⟩ (.slice none 0 0)).setCell ⟨b, 2, none⟩ (.slice none 0 0)) b N [] [] F) := by
    have hks : Keeps (· = b) w ((w.setCell ⟨b, 1, none⟩ (.slice none 0 0)).setCell ⟨b, 2, none⟩ (.slice none 0 0)) := ((Keeps.refl (· = b) w).setCell _ _ fun _ => rfl).setCell _ _ fun _ => rfl
    refine ⟨⟨.slice none 0 0, .slice none 0 0, F, ⟨(h.blk.setCell 1 _).setCell 2 _, ⟨rfl, .inl ⟨rfl, rfl⟩⟩, ⟨rfl, .inl ⟨rfl, rfl⟩⟩, rfl, Nat.zero_le _, h.hi, fun g e => by simp [Value.ownBlock] at e, fun g e => by simp [Value.ownBlock] at e, h.fb, fun k hk => Nat.lt_of_lt_of_le (h.lt k hk) hks.size⟩, fun _ e => .inl e⟩, hks.mono fun k _ e => by rw [e]; exact h.fb⟩
  clear h
  go_enter Tryd.func28, Tryd.ntmps28
  go_wp2
  go_end0
  exact ⟨rfl, HE.out⟩

theorem rlen_any (b N : Nat) (ks vs : List ByteArray) (u v : Value) (F : Nat → Prop) (w : World) (h : Rf w b N ks vs u v F) :
    Calls Tryd.prog 12 #[ptr b] w fun r w' => r = .returned (.int .i64 ks.length) ∧ w' = w := by
  obtain ⟨a0, cap0, eu, _⟩ := owns_slice h.kr
  subst eu
  have c1 := h.blk.cell (i := 1) rfl
  clear h
  go_enter Tryd.func12, Tryd.ntmps12
  go_wp2
  go_ret
  exact ⟨rfl, rfl⟩

theorem rnew_yes (room : Nat) (w : World) (lo : 1 ≤ room) (hi : room ≤ 4096) :
    Calls Tryd.prog 6 #[.int .i64 room] w fun r w' => r = .returned (.tuple #[ptr w.heap.size, .int .i64 0]) ∧ Rf w' w.heap.size room [] [] (.slice none 0 0) (.slice none 0 0) (fun k => k = w.heap.size) ∧ Keeps (fun _ => False) w w' := by
  have HE : Hid (Rf (w.alloc (.cells #[.int .i64 room, .slice none 0 0, .slice none 0 0] 60)) w.heap.size room [] [] (.slice none 0 0) (.slice none 0 0) (fun k => k = w.heap.size) ∧ Keeps (fun _ => False) w (w.alloc (.cells #[.int .i64 room, .slice none 0 0, .slice none 0 0] 60))) :=
    ⟨⟨Blk.new w _ 60, ⟨rfl, .inl ⟨rfl, rfl⟩⟩, ⟨rfl, .inl ⟨rfl, rfl⟩⟩, rfl, Nat.zero_le _, hi, fun g e => by simp [Value.ownBlock] at e, fun g e => by simp [Value.ownBlock] at e, rfl, fun k hk => by rw [hk]; exact (Blk.new w #[.int .i64 room, .slice none 0 0, .slice none 0 0] 60).lt⟩, (Keeps.refl _ w).alloc _⟩
  have h1 : decide ((room : Int) < 1) = false := decide_eq_false (by omega)
  have h2 : decide (4096 < (room : Int)) = false := decide_eq_false (by omega)
  clear lo hi
  go_enter Tryd.func6, Tryd.ntmps6
  go_wp2
  go_ret2
  exact ⟨rfl, HE.out⟩

theorem rnew_no (room : Int) (w : World) (h : room < 1 ∨ 4096 < room) :
    Calls Tryd.prog 6 #[.int .i64 room] w fun r w' => r = .returned (.tuple #[.pointer none, .int .i64 60]) ∧ w' = w := by
  by_cases h1 : room < 1
  · go_enter Tryd.func6, Tryd.ntmps6
    go_wp2
    go_ret2
    exact ⟨rfl, rfl⟩
  · have h2 : 4096 < room := by omega
    go_enter Tryd.func6, Tryd.ntmps6
    go_wp2
    go_ret2
    exact ⟨rfl, rfl⟩

end Go.Proofs.YtomjodoimjiceaaDoor
