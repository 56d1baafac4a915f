import Derived.Test.YtomjodoimjiceaaDoorDQ
namespace Go.Proofs.YtomjodoimjiceaaDoor.Q
open Go.RowKit Go.Shelf
set_option linter.unusedVariables false
set_option maxRecDepth 6000

theorem load_pr {w : World} {b : Nat} {l : Pr} (h : Blk w b l.vs 28) : (loadVar 28 ⟨b, 0, none⟩).run Tryd.prog w = .ok l.v w :=
  run_loadVar_row w b 28 28 _ _ _ h Tryd.underlying28 (by simp) (by kernel_rfl)

theorem results_cell_tmp {P : Program} {fn : Func} {p u : Tmp} {ty : TypeId} (h : fn.results = #[.cell p ty, .tmp u]) (tmps : Array Value) (w : World) (a : Addr) (v : Value)
    (hp : tmps.getD p undef = .pointer (some a)) (hl : (loadVar ty a).run P w = .ok v w) : (results fn tmps).run P w = .ok (.tuple #[v, tmps.getD u undef]) w := by
  have hp' : tmps[p]?.getD undef = .pointer (some a) := by simpa using hp
  simp [results, h, hp', asAddr, hl]

theorem _root_.Go.Proofs.YtomjodoimjiceaaDoor.Blk.setPr {w : World} {b : Nat} {l0 : Pr} (h : Blk w b l0.vs 28) (l : Pr) : Blk ((w.setCell ⟨b, 0, .none⟩ (.int .i64 l.a)).setCell ⟨b, 1, .none⟩ (.int .i64 l.b)) b l.vs 28 :=
  (h.setCell 0 _).setCell 1 _

theorem _root_.Go.Proofs.YtomjodoimjiceaaDoor.Keeps.setPr {S : Nat → Prop} {w w' : World} (h : Keeps S w w') (b : Nat) (l : Pr) (hb : b < w.heap.size → S b) : Keeps S w ((w'.setCell ⟨b, 0, .none⟩ (.int .i64 l.a)).setCell ⟨b, 1, .none⟩ (.int .i64 l.b)) :=
  (h.setCell _ _ hb).setCell _ _ hb

theorem cell_kept {S : Nat → Prop} {w w' : World} {a : Addr} {v : Value} (h : w.cell? a = some v) (hK : Keeps S w w') (hn : ¬ S a.block) : w'.cell? a = some v := by
  rw [World.cell?_of_block (w := w) (hK.block a.block (World.block_lt_of_cell? w a h) hn)]
  exact h

/-- What Put makes first: its key, its answer's key, the key that is none. -/
abbrev px (w : World) (k : Pr) : World := ((w.alloc (.cells #[.int .i64 k.a, .int .i64 k.b] 28)).alloc (.cells #[.int .i64 0, .int .i64 0] 28)).alloc (.cells #[.int .i64 0, .int .i64 0] 28)
structure PX (w : World) (k : Pr) (W : World) : Prop where
  keeps : Keeps (fun _ => False) w W
  k : Blk W w.heap.size k.vs 28
  r : Blk W (w.heap.size + 1) Pr.none.vs 28
  z : Blk W (w.heap.size + 1 + 1) Pr.none.vs 28
theorem px_ok (w : World) (k : Pr) : PX w k (px w k) := by
  refine ⟨(((Keeps.refl _ w).alloc _).alloc _).alloc _, ((Blk.new w _ 28).alloc _).alloc _, ?_, ?_⟩
  · rw [show w.heap.size + 1 = (w.alloc (.cells #[.int .i64 k.a, .int .i64 k.b] 28)).heap.size by simp]
    exact (Blk.new _ _ 28).alloc _
  · rw [show w.heap.size + 1 + 1 = ((w.alloc (.cells #[.int .i64 k.a, .int .i64 k.b] 28)).alloc (.cells #[.int .i64 0, .int .i64 0] 28)).heap.size by simp]
    exact Blk.new _ _ 28
theorem PX.next {w W W' : World} {k : Pr} {S : Nat → Prop} (h : PX w k W) (hK : Keeps S W W') (hS : ∀ b, S b → b < w.heap.size) : Blk W' w.heap.size k.vs 28 ∧ Blk W' (w.heap.size + 1) Pr.none.vs 28 ∧ Blk W' (w.heap.size + 1 + 1) Pr.none.vs 28 :=
  ⟨h.k.kept hK fun h => by have := hS _ h; omega, h.r.kept hK fun h => by have := hS _ h; omega, h.z.kept hK fun h => by have := hS _ h; omega⟩

set_option maxHeartbeats 1000000 in
theorem put_in (s m : Nat) (e x : N) (room : Nat) (A C : List N) (nw od : Nat → Nat) (n : ByteArray) (w : World) (h : Sh Tryd.prog T w s m e room (A ++ x :: C) nw od) (hk : I64 x.key) :
    Calls Tryd.prog 29 #[ptr s, x.key.v, .string n] w fun r w' => r = .returned (.tuple #[Pr.none.v, .bool false]) ∧ (∃ nw' od', Sh Tryd.prog T w' s m e room (A ++ C ++ [{ x with thing := .string n }]) nw' od') ∧ Keeps (Own s m e (A ++ x :: C)) w w' := by
  have HP : Hid (PX w x.key (px w x.key)) := px_ok w x.key
  have h0 := h.kept HP.out.keeps fun _ _ h => h
  have HL : Hid (∀ b, Own s m e (A ++ x :: C) b → b < w.heap.size) := h.lt
  have d0 := HP.out.k.cell (i := 0) rfl
  have d1 := HP.out.k.cell (i := 1) rfl
  have H1 : Hid (Calls _ _ _ _ _) := find_some s m e x room A C nw od (px w x.key) h0 hk
  have H2 : Hid (∀ w1, Keeps (fun _ => False) (px w x.key) w1 → Sh Tryd.prog T w1 s m e room (A ++ x :: C) nw od) := fun w1 hK => h0.kept hK fun _ _ h => h
  obtain ⟨W, hW⟩ : ∃ W, W = px w x.key := ⟨_, rfl⟩
  rw [← hW] at H1 H2 HP d0 d1
  obtain ⟨k, hkk⟩ : ∃ k, k = x.key := ⟨_, rfl⟩
  rw [← hkk] at H1 HP hW d0 d1 ⊢
  have HW : Hid (((w.alloc (.cells #[.int .i64 k.a, .int .i64 k.b] 28)).alloc (.cells #[.int .i64 0, .int .i64 0] 28)).alloc (.cells #[.int .i64 0, .int .i64 0] 28) = W ∧ k = x.key) := ⟨hW.symm, hkk⟩
  clear h hk hkk h0 hW
  go_enter Tryd.func29, Tryd.ntmps29
  go_wp2_with fail
  rw [HW.out.1]
  refine H1.out.mono ?_
  rintro r w1 ⟨rfl, hK1⟩
  have hS1 := H2.out w1 hK1
  have hx := hS1.ring.nodes x (by simp)
  have f1 := hx.frozen 2
  have c1 := hx.cell (i := 2) rfl
  have H3 : Hid (Calls Tryd.prog 48 #[ptr s, ptr x.blk] (w1.setCell ⟨x.blk, 2, none⟩ (.string n)) _) := renew_any s m e { x with thing := .string n } room A C nw od _ (hS1.setThing (.string n))
  have HK1 : Hid (Keeps (fun _ => False) W w1) := hK1
  clear H1 H2 hK1 hS1 hx d0 d1
  go_wp2_with fail
  refine H3.out.mono ?_
  rintro r w2 ⟨rfl, hS, hK⟩
  have hsub : ∀ b, Own s m e (A ++ { x with thing := .string n } :: C) b → Own s m e (A ++ x :: C) b := by
    rintro b (rfl | rfl | ⟨z, hz, rfl⟩)
    · exact .inl rfl
    · exact .inr (.inl rfl)
    · simp at hz
      rcases hz with h | h | h | h
      · exact .inr (.inr ⟨e, by simp, by rw [h]⟩)
      · exact .inr (.inr ⟨z, by simp [h], rfl⟩)
      · exact .inr (.inr ⟨x, by simp, by rw [h]⟩)
      · exact .inr (.inr ⟨z, by simp [h], rfl⟩)
  have hK2 : Keeps (Own s m e (A ++ x :: C)) W w2 := ((HK1.out.mono fun _ _ h => h.elim).setCell _ _ fun _ => .inr (.inr ⟨x, by simp, rfl⟩)).trans hK fun b _ hb => hsub b hb
  obtain ⟨_, hR2, hZ2⟩ := HP.out.next hK2 HL.out
  have HS : Hid ((∃ nw' od', Sh Tryd.prog T w2 s m e room (A ++ C ++ [{ x with thing := .string n }]) nw' od') ∧ Keeps (Own s m e (A ++ x :: C)) W w2 ∧ Blk w2 (w.heap.size + 1) Pr.none.vs 28 ∧ ∀ b, Own s m e (A ++ C ++ [{ x with thing := .string n }]) b → Own s m e (A ++ x :: C) b) := ⟨hS, hK2, hR2, fun b hb => hsub b (by
    rcases hb with h | h | ⟨z, hz, h⟩
    · exact .inl h
    · exact .inr (.inl h)
    · exact .inr (.inr ⟨z, by simp at hz ⊢; rcases hz with h | h | h | h <;> simp [h], h⟩))⟩
  have z0 := hZ2.cell (i := 0) rfl
  have z1 := hZ2.cell (i := 1) rfl
  have r0 := hR2.cell (i := 0) rfl
  have r1 := hR2.cell (i := 1) rfl
  have g0 := hR2.frozen 0
  have g1 := hR2.frozen 1
  clear hS hK H3 f1 c1 hsub hK2 hR2 hZ2 HK1
  go_wp2
  refine bodyPost_ret (results_cell_tmp rfl _ _ _ Pr.none.v rfl (load_pr (HS.out.2.2.1.setPr Pr.none))) rfl ?_
  have hK4 := (Keeps.refl (fun b => b = w.heap.size + 1) w2).setPr (w.heap.size + 1) Pr.none (fun _ => rfl)
  obtain ⟨nw', od', hS⟩ := HS.out.1
  refine ⟨rfl, by rw [← HW.out.2] at *; exact ⟨nw', od', hS.kept hK4 fun b hb he => by have := HL.out b (HS.out.2.2.2 b hb); omega⟩, ?_⟩
  exact (((HP.out.keeps.mono fun _ _ h => h.elim).trans HS.out.2.1 fun _ _ h => h)).trans hK4 fun b hb he => by omega

set_option maxHeartbeats 1000000 in
theorem put_new (s m : Nat) (e : N) (room : Nat) (xs : List N) (nw od : Nat → Nat) (k : Pr) (n : ByteArray) (w : World) (h : Sh Tryd.prog T w s m e room xs nw od) (hk : I64 k) (hn : ∀ x ∈ xs, x.key ≠ k) (hf : xs.length < room) :
    Calls Tryd.prog 29 #[ptr s, k.v, .string n] w fun r w' => r = .returned (.tuple #[Pr.none.v, .bool false]) ∧ (∃ b nw' od', w.heap.size ≤ b ∧ Sh Tryd.prog T w' s m e room (xs ++ [⟨b, k, .string n⟩]) nw' od') ∧ Keeps (Own s m e xs) w w' := by
  have HP : Hid (PX w k (px w k)) := px_ok w k
  have h0 := h.kept HP.out.keeps fun _ _ h => h
  have HL : Hid (∀ b, Own s m e xs b → b < w.heap.size) := h.lt
  have d0 := HP.out.k.cell (i := 0) rfl
  have d1 := HP.out.k.cell (i := 1) rfl
  have H1 : Hid (Calls _ _ _ _ _) := find_none s m e room xs nw od k (px w k) h0 hk hn
  have H2 : Hid (∀ w1, Keeps (fun _ => False) (px w k) w1 → Sh Tryd.prog T w1 s m e room xs nw od) := fun w1 hK => h0.kept hK fun _ _ h => h
  have HA : Hid (I64 k ∧ (∀ x ∈ xs, x.key ≠ k) ∧ xs.length < room) := ⟨hk, hn, hf⟩
  obtain ⟨W, hW⟩ : ∃ W, W = px w k := ⟨_, rfl⟩
  rw [← hW] at H1 H2 HP d0 d1
  have HW : Hid (((w.alloc (.cells #[.int .i64 k.a, .int .i64 k.b] 28)).alloc (.cells #[.int .i64 0, .int .i64 0] 28)).alloc (.cells #[.int .i64 0, .int .i64 0] 28) = W) := hW.symm
  clear h hk hn hf h0 hW
  go_enter Tryd.func29, Tryd.ntmps29
  go_wp2_with fail
  rw [HW.out]
  refine H1.out.mono ?_
  rintro r w1 ⟨rfl, hK1⟩
  have hS1 := H2.out w1 hK1
  have hL : (mapOf xs).length = xs.length := by simp [mapOf]
  have hl : ∀ ty q, (Builtin.len_ #[55] ty #[.map (some m)]).run Tryd.prog (w1.drewN q) = .ok (.int .i64 xs.length) (w1.drewN q) := fun ty q => by
    have := (hS1.drewN q).map.len (ty := ty) Tryd.underlying55
    rw [hL] at this
    exact this
  have c0 := hS1.cells.1
  have c1 := hS1.cells.2.1
  have H3 : Hid (∀ q, Calls Tryd.prog 49 #[ptr s, k.v, .string n] (w1.drewN q) _) := fun q => add_any s m e room xs nw od k n (w1.drewN q) (hS1.drewN q) HA.out.1 HA.out.2.1 HA.out.2.2
  obtain ⟨L, hLL⟩ : ∃ L, L = xs.length := ⟨_, rfl⟩
  rw [← hLL] at hl
  have hf' : (L : Int) < room := by have := HA.out.2.2; omega
  have HK1 : Hid (Keeps (fun _ => False) W w1) := hK1
  have e0 := (HP.out.next hK1 (fun _ h => h.elim)).1.cell (i := 0) rfl
  have e1 := (HP.out.next hK1 (fun _ h => h.elim)).1.cell (i := 1) rfl
  clear H1 H2 hK1 hS1 hL hLL d0 d1
  go_wp2_with fail
  go_quiet (fail)
  go_wp2_with fail
  refine (H3.out _).mono ?_
  rintro r w2 ⟨rfl, hS, hK⟩
  have hK2 : Keeps (Own s m e xs) W w2 := (HK1.out.mono fun _ _ h => h.elim).trans hK.fromDrewN fun _ _ h => h
  obtain ⟨_, hR2, hZ2⟩ := HP.out.next hK2 HL.out
  have HS : Hid ((∃ b nw' od', w.heap.size + 1 + 1 < b ∧ Sh Tryd.prog T w2 s m e room (xs ++ [⟨b, k, .string n⟩]) nw' od') ∧ Keeps (Own s m e xs) W w2 ∧ Blk w2 (w.heap.size + 1) Pr.none.vs 28) := ⟨by
    obtain ⟨nw', od', hS⟩ := hS
    exact ⟨_, nw', od', by have h1 := HK1.out.size; have h2 := HP.out.z.lt; simp only [World.drewN] at *; show w.heap.size + 1 + 1 < w1.heap.size + 1; omega, hS⟩, hK2, hR2⟩
  have z0 := hZ2.cell (i := 0) rfl
  have z1 := hZ2.cell (i := 1) rfl
  have r0 := hR2.cell (i := 0) rfl
  have r1 := hR2.cell (i := 1) rfl
  have g0 := hR2.frozen 0
  have g1 := hR2.frozen 1
  clear hS hK H3 hK2 hR2 hZ2 HK1 c0 c1 hl e0 e1
  go_wp2
  refine bodyPost_ret (results_cell_tmp rfl _ _ _ Pr.none.v rfl (load_pr (HS.out.2.2.setPr Pr.none))) rfl ?_
  have hK4 := (Keeps.refl (fun b => b = w.heap.size + 1) w2).setPr (w.heap.size + 1) Pr.none (fun _ => rfl)
  obtain ⟨b, nw', od', hb, hS⟩ := HS.out.1
  refine ⟨rfl, ⟨b, nw', od', by omega, hS.kept hK4 fun b' hb' he => ?_⟩, ?_⟩
  · rcases hb' with h | h | ⟨z, hz, h⟩
    · have := HL.out s (.inl rfl); omega
    · have := HL.out m (.inr (.inl rfl)); omega
    · simp at hz
      rcases hz with h5 | h5 | h5
      · have := HL.out e.blk (.inr (.inr ⟨e, by simp, rfl⟩)); rw [h5] at h; omega
      · have := HL.out z.blk (.inr (.inr ⟨z, by simp [h5], rfl⟩)); omega
      · rw [h5] at h; simp at h; omega
  · exact (((HP.out.keeps.mono fun _ _ h => h.elim).trans HS.out.2.1 fun _ _ h => h)).trans hK4 fun b hb he => by omega

set_option maxHeartbeats 1000000 in
theorem put_full (s m : Nat) (e x : N) (room : Nat) (xs : List N) (nw od : Nat → Nat) (k : Pr) (n : ByteArray) (w : World) (h : Sh Tryd.prog T w s m e room (x :: xs) nw od) (hk : I64 k) (hkx : I64 x.key) (hn : ∀ z ∈ x :: xs, z.key ≠ k) (hf : xs.length + 1 = room) :
    Calls Tryd.prog 29 #[ptr s, k.v, .string n] w fun r w' => r = .returned (.tuple #[x.key.v, .bool true]) ∧ (∃ b nw' od', w.heap.size ≤ b ∧ Sh Tryd.prog T w' s m e room (xs ++ [⟨b, k, .string n⟩]) nw' od') ∧ Keeps (Own s m e (x :: xs)) w w' := by
  have HP : Hid (PX w k (px w k)) := px_ok w k
  have h0 := h.kept HP.out.keeps fun _ _ h => h
  have HL : Hid (∀ b, Own s m e (x :: xs) b → b < w.heap.size) := h.lt
  have d0 := HP.out.k.cell (i := 0) rfl
  have d1 := HP.out.k.cell (i := 1) rfl
  have H1 : Hid (Calls _ _ _ _ _) := find_none s m e room (x :: xs) nw od k (px w k) h0 hk hn
  have H2 : Hid (∀ w1, Keeps (fun _ => False) (px w k) w1 → Sh Tryd.prog T w1 s m e room (x :: xs) nw od) := fun w1 hK => h0.kept hK fun _ _ h => h
  have hxo : ¬ Own s m e xs x.blk := by
    rintro (he | he | ⟨z, hz, he⟩)
    · exact h.sx x (by simp) he
    · exact h.mx x (by simp) he
    · have nd := h.ring.nodup
      rw [List.map_cons] at nd
      rcases List.mem_cons.1 hz with h' | h'
      · rw [h'] at he; rw [he] at nd; simp at nd
      · have := (List.nodup_cons.1 (List.nodup_cons.1 nd).2).1
        exact this (by rw [he]; exact List.mem_map.2 ⟨z, h', rfl⟩)
  have HA : Hid (I64 k ∧ (∀ z ∈ xs, z.key ≠ k) ∧ xs.length + 1 = room ∧ I64 x.key ∧ ¬ Own s m e xs x.blk) := ⟨hk, fun z hz => hn z (by simp [hz]), hf, hkx, hxo⟩
  obtain ⟨W, hW⟩ : ∃ W, W = px w k := ⟨_, rfl⟩
  rw [← hW] at H1 H2 HP d0 d1
  have HW : Hid (((w.alloc (.cells #[.int .i64 k.a, .int .i64 k.b] 28)).alloc (.cells #[.int .i64 0, .int .i64 0] 28)).alloc (.cells #[.int .i64 0, .int .i64 0] 28) = W) := hW.symm
  clear h hk hn hf h0 hW hkx hxo
  go_enter Tryd.func29, Tryd.ntmps29
  go_wp2_with fail
  rw [HW.out]
  refine H1.out.mono ?_
  rintro r w1 ⟨rfl, hK1⟩
  have hS1 := H2.out w1 hK1
  have hL : (mapOf (x :: xs)).length = room := by have := HA.out.2.2.1; simp [mapOf]; omega
  have hl : ∀ ty q, (Builtin.len_ #[55] ty #[.map (some m)]).run Tryd.prog (w1.drewN q) = .ok (.int .i64 room) (w1.drewN q) := fun ty q => by
    have := (hS1.drewN q).map.len (ty := ty) Tryd.underlying55
    rw [hL] at this
    exact this
  have c0 := hS1.cells.1
  have c1 := hS1.cells.2.1
  have c2 := hS1.cells.2.2
  have en : nw e.blk = x.blk := hS1.ring.chain.1
  have c3 := (hS1.ring.nodes e (by simp)).cell (i := 4) rfl
  rw [en] at c3
  have H3 : Hid (∀ q, Calls Tryd.prog 50 #[ptr s, ptr x.blk] (w1.drewN q) _) := fun q => remove_any s m e x room [] xs nw od (w1.drewN q) (hS1.drewN q) HA.out.2.2.2.1
  have HK1 : Hid (Keeps (fun _ => False) W w1) := hK1
  clear H1 H2 hK1 hS1 hL d0 d1 en
  go_wp2_with fail
  go_quiet (fail)
  go_wp2_with fail
  refine (H3.out _).mono ?_
  rintro r w2 ⟨rfl, ⟨nw2, od2, hS⟩, hK, kx0, kx1⟩
  have hK2 : Keeps (Own s m e (x :: xs)) W w2 := (HK1.out.mono fun _ _ h => h.elim).trans hK.fromDrewN fun _ _ h => h
  obtain ⟨hk2, -, -⟩ := HP.out.next hK2 HL.out
  have e0 := hk2.cell (i := 0) rfl
  have e1 := hk2.cell (i := 1) rfl
  have hxl : x.blk < w2.heap.size := Nat.lt_of_lt_of_le (HL.out x.blk (.inr (.inr ⟨x, by simp, rfl⟩))) (Nat.le_trans HP.out.keeps.size hK2.size)
  have H4 : Hid (Calls Tryd.prog 49 #[ptr s, k.v, .string n] w2 _) := add_any s m e room xs nw2 od2 k n w2 hS HA.out.1 HA.out.2.1 (by have := HA.out.2.2.1; omega)
  have HK2 : Hid (w2.cell? ⟨x.blk, 0, none⟩ = some (.int .i64 x.key.a) ∧ w2.cell? ⟨x.blk, 1, none⟩ = some (.int .i64 x.key.b) ∧ x.blk < w2.heap.size ∧ Keeps (Own s m e (x :: xs)) W w2) := ⟨kx0, kx1, hxl, hK2⟩
  clear hS hK H3 c0 c1 c2 c3 hl kx0 kx1 hK2 hk2 hxl HK1
  go_wp2_with fail
  refine H4.out.mono ?_
  rintro r w3 ⟨rfl, ⟨nw3, od3, hS3⟩, hK3⟩
  have k0 := cell_kept HK2.out.1 hK3 HA.out.2.2.2.2
  have k1 := cell_kept HK2.out.2.1 hK3 HA.out.2.2.2.2
  have hK4 : Keeps (Own s m e (x :: xs)) W w3 := HK2.out.2.2.2.trans hK3 fun b _ hb => own_sub (fun z hz => by simp [hz]) hb
  obtain ⟨_, hR2, hZ2⟩ := HP.out.next hK4 HL.out
  have HS : Hid ((∃ b nw' od', w.heap.size + 1 + 1 < b ∧ Sh Tryd.prog T w3 s m e room (xs ++ [⟨b, k, .string n⟩]) nw' od') ∧ Keeps (Own s m e (x :: xs)) W w3 ∧ Blk w3 (w.heap.size + 1) Pr.none.vs 28) := ⟨⟨_, nw3, od3, by have h1 := HK2.out.2.2.2.size; have h2 := HP.out.z.lt; omega, hS3⟩, hK4, hR2⟩
  have r0 := hR2.cell (i := 0) rfl
  have r1 := hR2.cell (i := 1) rfl
  have g0 := hR2.frozen 0
  have g1 := hR2.frozen 1
  clear hS3 hK3 H4 hK4 hR2 hZ2 HK2 e0 e1
  go_wp2
  refine bodyPost_ret (results_cell_tmp rfl _ _ _ x.key.v rfl (load_pr (HS.out.2.2.setPr x.key))) rfl ?_
  have hK4 := (Keeps.refl (fun b => b = w.heap.size + 1) w3).setPr (w.heap.size + 1) x.key (fun _ => rfl)
  obtain ⟨b, nw', od', hb, hS⟩ := HS.out.1
  refine ⟨rfl, ⟨b, nw', od', by omega, hS.kept hK4 fun b' hb' he => ?_⟩, ?_⟩
  · rcases hb' with h | h | ⟨z, hz, h⟩
    · have := HL.out s (.inl rfl); omega
    · have := HL.out m (.inr (.inl rfl)); omega
    · simp at hz
      rcases hz with h5 | h5 | h5
      · have := HL.out e.blk (.inr (.inr ⟨e, by simp, rfl⟩)); rw [h5] at h; omega
      · have := HL.out z.blk (.inr (.inr ⟨z, by simp [h5], rfl⟩)); omega
      · rw [h5] at h; simp at h; omega
  · exact (((HP.out.keeps.mono fun _ _ h => h.elim).trans HS.out.2.1 fun _ _ h => h)).trans hK4 fun b hb he => by omega

end Go.Proofs.YtomjodoimjiceaaDoor.Q
