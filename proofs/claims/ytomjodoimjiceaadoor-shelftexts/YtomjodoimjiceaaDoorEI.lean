import Derived.Test.YtomjodoimjiceaaDoorDI
namespace Go.Proofs.YtomjodoimjiceaaDoor.I
open Go.RowKit Go.Shelf
set_option linter.unusedVariables false
set_option maxRecDepth 6000

set_option maxHeartbeats 400000 in
theorem put_in (s m : Nat) (e x : N) (room : Nat) (A C : List N) (nw od : Nat → Nat) (n : Int) (w : World) (h : Sh Tryd.prog T w s m e room (A ++ x :: C) nw od) (hk : I64 x.key) :
    Calls Tryd.prog 16 #[ptr s, .int .i64 x.key, (.int .i64 n)] w fun r w' => r = .returned (.tuple #[.int .i64 0, .bool false]) ∧ (∃ nw' od', Sh Tryd.prog T w' s m e room (A ++ C ++ [{ x with thing := (.int .i64 n) }]) nw' od') ∧ Keeps (Own s m e (A ++ x :: C)) w w' := by
  have hx := h.ring.nodes x (by simp)
  have f1 := hx.frozen 1
  have d1 := hx.cell (i := 1) rfl
  have H1 : Hid (Calls _ _ _ _ _) := find_some s m e x room A C nw od w h hk
  have H2 : Hid (Calls Tryd.prog 35 #[ptr s, ptr x.blk] (w.setCell ⟨x.blk, 1, none⟩ (.int .i64 n)) _) := renew_any s m e { x with thing := (.int .i64 n) } room A C nw od _ (h.setThing (.int .i64 n))
  obtain ⟨k, hkk⟩ : ∃ k, k = x.key := ⟨_, rfl⟩
  rw [← hkk] at H1 ⊢
  have HE : Hid (k = x.key) := hkk
  clear h hk hkk hx
  go_enter Tryd.func16, Tryd.ntmps16
  go_wp2_with fail
  refine H1.out.mono ?_
  rintro r w1 ⟨rfl, rfl⟩
  clear H1
  go_wp2_with fail
  refine H2.out.mono ?_
  rintro r w2 ⟨rfl, hS, hK⟩
  have HS : Hid ((∃ nw' od', Sh Tryd.prog T w2 s m e room (A ++ C ++ [{ x with thing := (.int .i64 n) }]) nw' od') ∧ Keeps (Own s m e (A ++ { x with thing := (.int .i64 n) } :: C)) (w1.setCell ⟨x.blk, 1, none⟩ (.int .i64 n)) w2) := ⟨hS, hK⟩
  clear hS hK H2 f1 d1
  go_wp2
  go_ret2
  refine ⟨rfl, by rw [HE.out]; exact HS.out.1, ?_⟩
  have hK := HS.out.2
  refine ((Keeps.refl _ w1).setCell _ _ fun _ => .inr (.inr ⟨x, by simp, rfl⟩)).trans hK ?_
  rintro b _ (rfl | rfl | ⟨z, hz, rfl⟩)
  · exact .inl rfl
  · exact .inr (.inl rfl)
  · simp at hz
    rcases hz with h | h | h | h
    · exact .inr (.inr ⟨e, by simp, by rw [h]⟩)
    · exact .inr (.inr ⟨z, by simp [h], rfl⟩)
    · exact .inr (.inr ⟨x, by simp, by rw [h]⟩)
    · exact .inr (.inr ⟨z, by simp [h], rfl⟩)

set_option maxHeartbeats 1000000 in
theorem put_new (s m : Nat) (e : N) (room : Nat) (xs : List N) (nw od : Nat → Nat) (k : Int) (n : Int) (w : World) (h : Sh Tryd.prog T w s m e room xs nw od) (hk : I64 k) (hn : ∀ x ∈ xs, x.key ≠ k) (hf : xs.length < room) :
    Calls Tryd.prog 16 #[ptr s, .int .i64 k, (.int .i64 n)] w fun r w' => r = .returned (.tuple #[.int .i64 0, .bool false]) ∧ (∃ nw' od', Sh Tryd.prog T w' s m e room (xs ++ [⟨w.heap.size, k, (.int .i64 n)⟩]) nw' od') ∧ Keeps (Own s m e xs) w w' := by
  have H1 : Hid (Calls _ _ _ _ _) := find_none s m e room xs nw od k w h hk hn
  have hl := h.map.len (ty := 0) Tryd.underlying83
  have hL : (mapOf xs).length = xs.length := by simp [mapOf]
  have H2 : Hid (∀ q, Calls Tryd.prog 36 #[ptr s, .int .i64 k, (.int .i64 n)] (w.drewN q) _) := fun q => add_any s m e room xs nw od k n (w.drewN q) (h.drewN q) hk hn hf
  have hl : ∀ ty q, (Builtin.len_ #[83] ty #[.map (some m)]).run Tryd.prog (w.drewN q) = .ok (.int .i64 xs.length) (w.drewN q) := fun ty q => by
    have := (h.drewN q).map.len (ty := ty) Tryd.underlying83
    rw [hL] at this
    exact this
  have c0 := h.cells.1
  have c1 := h.cells.2.1
  obtain ⟨L, hLL⟩ : ∃ L, L = xs.length := ⟨_, rfl⟩
  rw [← hLL] at hl hf
  have hf' : (L : Int) < room := by omega
  clear h hk hn hL hLL hf
  go_enter Tryd.func16, Tryd.ntmps16
  go_wp2_with fail
  refine H1.out.mono ?_
  rintro r w1 ⟨rfl, rfl⟩
  clear H1
  go_wp2_with fail
  go_quiet (fail)
  go_wp2_with fail
  refine (H2.out _).mono ?_
  rintro r w2 ⟨rfl, hS, hK⟩
  have HS : Hid ((∃ nw' od', Sh Tryd.prog T w2 s m e room (xs ++ [⟨w1.heap.size, k, (.int .i64 n)⟩]) nw' od') ∧ Keeps (Own s m e xs) w1 w2) := ⟨hS, hK.fromDrewN⟩
  clear hS hK H2 c0 c1 hl
  go_wp2
  go_ret2
  exact ⟨rfl, HS.out⟩

set_option maxHeartbeats 1000000 in
theorem put_full (s m : Nat) (e x : N) (room : Nat) (xs : List N) (nw od : Nat → Nat) (k : Int) (n : Int) (w : World) (h : Sh Tryd.prog T w s m e room (x :: xs) nw od) (hk : I64 k) (hkx : I64 x.key) (hn : ∀ z ∈ x :: xs, z.key ≠ k) (hf : xs.length + 1 = room) :
    Calls Tryd.prog 16 #[ptr s, .int .i64 k, (.int .i64 n)] w fun r w' => r = .returned (.tuple #[.int .i64 x.key, .bool true]) ∧ (∃ b nw' od', w.heap.size ≤ b ∧ Sh Tryd.prog T w' s m e room (xs ++ [⟨b, k, (.int .i64 n)⟩]) nw' od') ∧ Keeps (Own s m e (x :: xs)) w w' := by
  have H1 : Hid (Calls _ _ _ _ _) := find_none s m e room (x :: xs) nw od k w h hk hn
  have hL : (mapOf (x :: xs)).length = room := by simp [mapOf]; omega
  have H2 : Hid (∀ q, Calls Tryd.prog 37 #[ptr s, ptr x.blk] (w.drewN q) _) := fun q => remove_any s m e x room [] xs nw od (w.drewN q) (h.drewN q) hkx
  have hl : ∀ ty q, (Builtin.len_ #[83] ty #[.map (some m)]).run Tryd.prog (w.drewN q) = .ok (.int .i64 room) (w.drewN q) := fun ty q => by
    have := (h.drewN q).map.len (ty := ty) Tryd.underlying83
    rw [hL] at this
    exact this
  have c0 := h.cells.1
  have c1 := h.cells.2.1
  have c2 := h.cells.2.2
  have en : nw e.blk = x.blk := h.ring.chain.1
  have c3 := (h.ring.nodes e (by simp)).cell (i := 3) rfl
  rw [en] at c3
  have hxo : ¬ Own s m e xs x.blk := by
    rintro (he | he | ⟨z, hz, he⟩)
    · exact h.sx x (by simp) he
    · exact h.mx x (by simp) he
    · have nd := h.ring.nodup
      rw [List.map_cons] at nd
      rcases List.mem_cons.1 hz with h' | h'
      · rw [h'] at he; rw [he] at nd; simp at nd
      · have := (List.nodup_cons.1 (List.nodup_cons.1 nd).2).1
        exact this (by rw [he]; exact List.mem_map.2 ⟨z, h', rfl⟩)
  have HXO : Hid (¬ Own s m e xs x.blk) := hxo
  have HX : Hid ((∀ z ∈ xs, z.key ≠ k) ∧ I64 k ∧ xs.length < room ∧ ∀ b, Own s m e (x :: xs) b → b < w.heap.size) := ⟨fun z hz => hn z (by simp [hz]), hk, by omega, h.lt⟩
  clear h hk hkx hn hL hf en hxo
  go_enter Tryd.func16, Tryd.ntmps16
  go_wp2_with fail
  refine H1.out.mono ?_
  rintro r w1 ⟨rfl, rfl⟩
  clear H1
  go_wp2_with fail
  go_quiet (fail)
  go_wp2_with fail
  refine (H2.out _).mono ?_
  rintro r w2 ⟨rfl, ⟨nw2, od2, hS⟩, hK, kx⟩
  have HK : Hid (Keeps (Own s m e (x :: xs)) w1 w2) := hK.fromDrewN
  have hk2 : x.blk < w2.heap.size := Nat.lt_of_lt_of_le (HX.out.2.2.2 x.blk (.inr (.inr ⟨x, by simp, rfl⟩))) HK.out.size
  have H3 : Hid (Calls Tryd.prog 36 #[ptr s, .int .i64 k, (.int .i64 n)] w2 _) := add_any s m e room xs nw2 od2 k n w2 hS HX.out.2.1 HX.out.1 HX.out.2.2.1
  have hxo := HXO.out
  have HK2 : Hid (w2.cell? ⟨x.blk, 0, none⟩ = some (.int .i64 x.key) ∧ x.blk < w2.heap.size ∧ ¬ Own s m e xs x.blk) := ⟨kx, hk2, hxo⟩
  clear hS hK H2 c0 c1 c2 c3 hl kx hk2 hxo
  go_wp2_with fail
  refine H3.out.mono ?_
  rintro r w3 ⟨rfl, ⟨nw3, od3, hS3⟩, hK3⟩
  have k3 : w3.cell? ⟨x.blk, 0, none⟩ = some (.int .i64 x.key) := by
    rw [World.cell?_of_block (w := w2) (hK3.block x.blk HK2.out.2.1 HK2.out.2.2)]
    exact HK2.out.1
  have HS : Hid ((∃ b nw' od', w1.heap.size ≤ b ∧ Sh Tryd.prog T w3 s m e room (xs ++ [⟨b, k, (.int .i64 n)⟩]) nw' od') ∧ Keeps (Own s m e xs) w2 w3) := ⟨⟨_, nw3, od3, HK.out.size, hS3⟩, hK3⟩
  clear hS3 hK3 H3
  go_wp2
  go_ret2
  refine ⟨rfl, HS.out.1, HK.out.trans HS.out.2 ?_⟩
  rintro b _ (rfl | rfl | ⟨z, hz, rfl⟩)
  · exact .inl rfl
  · exact .inr (.inl rfl)
  · simp at hz
    rcases hz with h | h
    · exact .inr (.inr ⟨e, by simp, by rw [h]⟩)
    · exact .inr (.inr ⟨z, by simp [h], rfl⟩)

end Go.Proofs.YtomjodoimjiceaaDoor.I
