import Derived.Test.YtomjodoimjiceaaDoorDS
namespace Go.Proofs.YtomjodoimjiceaaDoor.S
open Go.RowKit Go.Shelf
set_option linter.unusedVariables false
set_option maxRecDepth 6000

set_option maxHeartbeats 400000 in
theorem put_in (s m : Nat) (e x : N) (room : Nat) (A C : List N) (nw od : Nat → Nat) (l : Lf) (w : World) (h : Sh Tryd.prog T w s m e room (A ++ x :: C) nw od) (hk : I64 x.key) :
    Calls Tryd.prog 20 #[ptr s, .string x.key, l.v] w fun r w' => r = .returned (.tuple #[.string ⟨#[]⟩, .bool false]) ∧ (∃ nw' od', Sh Tryd.prog T w' s m e room (A ++ C ++ [{ x with thing := l }]) nw' od') ∧ Keeps (Own s m e (A ++ x :: C)) w w' := by
  obtain ⟨W, hW⟩ : ∃ W, W = w.alloc (.cells #[.int .i64 l.p, .int .i64 l.f] 28) := ⟨_, rfl⟩
  have hKW : Keeps (fun _ => False) w W := by rw [hW]; exact (Keeps.refl _ w).alloc _
  have hB : Blk W w.heap.size l.vs 28 := by rw [hW]; exact Blk.new w _ 28
  have h0 := h.kept hKW fun _ _ h => h
  have hx := h0.ring.nodes x (by simp)
  have f1 := hx.frozen 1
  have f2 := hx.frozen 2
  have d1 := hx.cell (i := 1) rfl
  have d2 := hx.cell (i := 2) rfl
  have v0 := hB.cell (i := 0) rfl
  have v1 := hB.cell (i := 1) rfl
  have H1 : Hid (Calls _ _ _ _ _) := find_some s m e x room A C nw od W h0 hk
  have H2 : Hid (Calls Tryd.prog 41 #[ptr s, ptr x.blk] _ _) := renew_any s m e { x with thing := l } room A C nw od _ (h0.setThing l)
  obtain ⟨k, hkk⟩ : ∃ k, k = x.key := ⟨_, rfl⟩
  rw [← hkk] at H1 ⊢
  have HE : Hid (k = x.key ∧ W = _ ∧ Keeps (fun _ => False) w W) := ⟨hkk, hW, hKW⟩
  clear h hk hkk hx h0 hKW hW hB
  go_enter Tryd.func20, Tryd.ntmps20
  go_wp2_with fail
  rw [← HE.out.2.1]
  refine H1.out.mono ?_
  rintro r w1 ⟨rfl, rfl⟩
  clear H1
  go_wp2_with fail
  refine H2.out.mono ?_
  rintro r w2 ⟨rfl, hS, hK⟩
  have HS : Hid ((∃ nw' od', Sh Tryd.prog T w2 s m e room (A ++ C ++ [{ x with thing := l }]) nw' od') ∧ Keeps (Own s m e (A ++ { x with thing := l } :: C)) _ w2) := ⟨hS, hK⟩
  clear hS hK H2 f1 d1 f2 d2 v0 v1
  go_wp2
  go_ret2
  refine ⟨rfl, by rw [HE.out.1]; exact HS.out.1, ?_⟩
  have hK := HS.out.2
  have hx : w1.heap.size < w1.heap.size ∨ True := .inr trivial
  refine (((HE.out.2.2.mono fun _ _ h => h.elim).setCell _ _ ?_).setCell _ _ ?_).trans hK ?_
  · exact fun _ => .inr (.inr ⟨x, by simp, rfl⟩)
  · exact fun _ => .inr (.inr ⟨x, by simp, rfl⟩)
  rintro b _ (rfl | rfl | ⟨z, hz, rfl⟩)
  · exact .inl rfl
  · exact .inr (.inl rfl)
  · simp at hz
    rcases hz with h | h | h | h
    · exact .inr (.inr ⟨e, by simp, by rw [h]⟩)
    · exact .inr (.inr ⟨z, by simp [h], rfl⟩)
    · exact .inr (.inr ⟨x, by simp, by rw [h]⟩)
    · exact .inr (.inr ⟨z, by simp [h], rfl⟩)

set_option maxHeartbeats 1000000 in
theorem put_new (s m : Nat) (e : N) (room : Nat) (xs : List N) (nw od : Nat → Nat) (k : ByteArray) (l : Lf) (w : World) (h : Sh Tryd.prog T w s m e room xs nw od) (hk : I64 k) (hn : ∀ x ∈ xs, x.key ≠ k) (hf : xs.length < room) :
    Calls Tryd.prog 20 #[ptr s, .string k, l.v] w fun r w' => r = .returned (.tuple #[.string ⟨#[]⟩, .bool false]) ∧ (∃ b nw' od', w.heap.size ≤ b ∧ Sh Tryd.prog T w' s m e room (xs ++ [⟨b, k, l⟩]) nw' od') ∧ Keeps (Own s m e xs) w w' := by
  obtain ⟨W, hW⟩ : ∃ W, W = w.alloc (.cells #[.int .i64 l.p, .int .i64 l.f] 28) := ⟨_, rfl⟩
  have hKW : Keeps (fun _ => False) w W := by rw [hW]; exact (Keeps.refl _ w).alloc _
  have hB : Blk W w.heap.size l.vs 28 := by rw [hW]; exact Blk.new w _ 28
  have h0 := h.kept hKW fun _ _ h => h
  have v0 := hB.cell (i := 0) rfl
  have v1 := hB.cell (i := 1) rfl
  have HW : Hid (W = _ ∧ Keeps (fun _ => False) w W) := ⟨hW, hKW⟩
  have H1 : Hid (Calls _ _ _ _ _) := find_none s m e room xs nw od k W h0 hk hn
  have hL : (mapOf xs).length = xs.length := by simp [mapOf]
  have H2 : Hid (∀ q, Calls Tryd.prog 42 #[ptr s, .string k, l.v] (W.drewN q) _) := fun q => add_any s m e room xs nw od k l (W.drewN q) (h0.drewN q) hk hn hf
  have hl : ∀ ty q, (Builtin.len_ #[47] ty #[.map (some m)]).run Tryd.prog (W.drewN q) = .ok (.int .i64 xs.length) (W.drewN q) := fun ty q => by
    have := (h0.drewN q).map.len (ty := ty) Tryd.underlying47
    rw [hL] at this
    exact this
  have c0 := h0.cells.1
  have c1 := h0.cells.2.1
  obtain ⟨L, hLL⟩ : ∃ L, L = xs.length := ⟨_, rfl⟩
  rw [← hLL] at hl hf
  have hf' : (L : Int) < room := by omega
  clear h hk hn hL hLL hf h0 hKW hW hB
  go_enter Tryd.func20, Tryd.ntmps20
  go_wp2_with fail
  rw [← HW.out.1]
  refine H1.out.mono ?_
  rintro r w1 ⟨rfl, rfl⟩
  clear H1
  go_wp2_with fail
  go_quiet (fail)
  go_wp2_with fail
  refine (H2.out _).mono ?_
  rintro r w2 ⟨rfl, hS, hK⟩
  have HS : Hid ((∃ b nw' od', w.heap.size ≤ b ∧ Sh Tryd.prog T w2 s m e room (xs ++ [⟨b, k, l⟩]) nw' od') ∧ Keeps (Own s m e xs) w w2) := ⟨by obtain ⟨nw', od', hS⟩ := hS; exact ⟨_, nw', od', by have := HW.out.2.size; simp; omega, hS⟩, (HW.out.2.mono fun _ _ h => h.elim).trans hK.fromDrewN fun _ _ h => h⟩
  clear hS hK H2 c0 c1 hl v0 v1
  go_wp2
  go_ret2
  exact ⟨rfl, HS.out⟩

set_option maxHeartbeats 1000000 in
theorem put_full (s m : Nat) (e x : N) (room : Nat) (xs : List N) (nw od : Nat → Nat) (k : ByteArray) (l : Lf) (w : World) (h : Sh Tryd.prog T w s m e room (x :: xs) nw od) (hk : I64 k) (hkx : I64 x.key) (hn : ∀ z ∈ x :: xs, z.key ≠ k) (hf : xs.length + 1 = room) :
    Calls Tryd.prog 20 #[ptr s, .string k, l.v] w fun r w' => r = .returned (.tuple #[.string x.key, .bool true]) ∧ (∃ b nw' od', w.heap.size ≤ b ∧ Sh Tryd.prog T w' s m e room (xs ++ [⟨b, k, l⟩]) nw' od') ∧ Keeps (Own s m e (x :: xs)) w w' := by
  obtain ⟨W, hW⟩ : ∃ W, W = w.alloc (.cells #[.int .i64 l.p, .int .i64 l.f] 28) := ⟨_, rfl⟩
  have hKW : Keeps (fun _ => False) w W := by rw [hW]; exact (Keeps.refl _ w).alloc _
  have hB : Blk W w.heap.size l.vs 28 := by rw [hW]; exact Blk.new w _ 28
  have h0 := h.kept hKW fun _ _ h => h
  have hBO : ¬ Own s m e (x :: xs) w.heap.size := fun ho => by have := h.lt _ ho; omega
  have HB : Hid (Blk W w.heap.size l.vs 28 ∧ ¬ Own s m e (x :: xs) w.heap.size) := ⟨hB, hBO⟩
  have HW : Hid (W = _ ∧ Keeps (fun _ => False) w W) := ⟨hW, hKW⟩
  have H1 : Hid (Calls _ _ _ _ _) := find_none s m e room (x :: xs) nw od k W h0 hk hn
  have hL : (mapOf (x :: xs)).length = room := by simp [mapOf]; omega
  have H2 : Hid (∀ q, Calls Tryd.prog 43 #[ptr s, ptr x.blk] (W.drewN q) _) := fun q => remove_any s m e x room [] xs nw od (W.drewN q) (h0.drewN q) hkx
  have hl : ∀ ty q, (Builtin.len_ #[47] ty #[.map (some m)]).run Tryd.prog (W.drewN q) = .ok (.int .i64 room) (W.drewN q) := fun ty q => by
    have := (h0.drewN q).map.len (ty := ty) Tryd.underlying47
    rw [hL] at this
    exact this
  have c0 := h0.cells.1
  have c1 := h0.cells.2.1
  have c2 := h0.cells.2.2
  have en : nw e.blk = x.blk := h.ring.chain.1
  have c3 := (h0.ring.nodes e (by simp)).cell (i := 4) rfl
  rw [en] at c3
  have hxo : ¬ Own s m e xs x.blk := by
    rintro (he | he | ⟨z, hz, he⟩)
    · exact h.sx x (by simp) he
    · exact h.mx x (by simp) he
    · have nd := h.ring.nodup
      rw [List.map_cons] at nd
      rcases List.mem_cons.1 hz with h' | h'
      · rw [h'] at he; rw [he] at nd; simp at nd
      · have := (List.nodup_cons.1 (List.nodup_cons.1 nd).2).1
        exact this (by rw [he]; exact List.mem_map.2 ⟨z, h', rfl⟩)
  have HXO : Hid (¬ Own s m e xs x.blk) := hxo
  have HX : Hid ((∀ z ∈ xs, z.key ≠ k) ∧ I64 k ∧ xs.length < room ∧ ∀ b, Own s m e (x :: xs) b → b < w.heap.size) := ⟨fun z hz => hn z (by simp [hz]), hk, by omega, h.lt⟩
  clear h hk hkx hn hL hf en hxo h0 hKW hW hB hBO
  go_enter Tryd.func20, Tryd.ntmps20
  go_wp2_with fail
  rw [← HW.out.1]
  refine H1.out.mono ?_
  rintro r w1 ⟨rfl, rfl⟩
  clear H1
  go_wp2_with fail
  go_quiet (fail)
  go_wp2_with fail
  refine (H2.out _).mono ?_
  rintro r w2 ⟨rfl, ⟨nw2, od2, hS⟩, hK, kx⟩
  have HK : Hid (Keeps (Own s m e (x :: xs)) w w2) := (HW.out.2.mono fun _ _ h => h.elim).trans hK.fromDrewN fun _ _ h => h
  have hB2 : Blk w2 w.heap.size l.vs 28 := HB.out.1.kept hK.fromDrewN HB.out.2
  have v0 := hB2.cell (i := 0) rfl
  have v1 := hB2.cell (i := 1) rfl
  have hk2 : x.blk < w2.heap.size := Nat.lt_of_lt_of_le (HX.out.2.2.2 x.blk (.inr (.inr ⟨x, by simp, rfl⟩))) HK.out.size
  have H3 : Hid (Calls Tryd.prog 42 #[ptr s, .string k, l.v] w2 _) := add_any s m e room xs nw2 od2 k l w2 hS HX.out.2.1 HX.out.1 HX.out.2.2.1
  have hxo := HXO.out
  have HK2 : Hid (w2.cell? ⟨x.blk, 0, none⟩ = some (.string x.key) ∧ x.blk < w2.heap.size ∧ ¬ Own s m e xs x.blk) := ⟨kx, hk2, hxo⟩
  clear hS hK H2 c0 c1 c2 c3 hl kx hk2 hxo hB2
  go_wp2_with fail
  refine H3.out.mono ?_
  rintro r w3 ⟨rfl, ⟨nw3, od3, hS3⟩, hK3⟩
  have k3 : w3.cell? ⟨x.blk, 0, none⟩ = some (.string x.key) := by
    rw [World.cell?_of_block (w := w2) (hK3.block x.blk HK2.out.2.1 HK2.out.2.2)]
    exact HK2.out.1
  have HS : Hid ((∃ b nw' od', w.heap.size ≤ b ∧ Sh Tryd.prog T w3 s m e room (xs ++ [⟨b, k, l⟩]) nw' od') ∧ Keeps (Own s m e xs) w2 w3) := ⟨⟨_, nw3, od3, Nat.le_succ_of_le HK.out.size, hS3⟩, hK3⟩
  clear hS3 hK3 H3 v0 v1
  go_wp2
  go_ret2
  refine ⟨rfl, HS.out.1, HK.out.trans HS.out.2 ?_⟩
  rintro b _ (rfl | rfl | ⟨z, hz, rfl⟩)
  · exact .inl rfl
  · exact .inr (.inl rfl)
  · simp at hz
    rcases hz with h | h
    · exact .inr (.inr ⟨e, by simp, by rw [h]⟩)
    · exact .inr (.inr ⟨z, by simp [h], rfl⟩)

end Go.Proofs.YtomjodoimjiceaaDoor.S
