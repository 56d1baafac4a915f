import Derived.Test.YtljhdijledclhaaKp
namespace Go.Proofs.Ytljhdijledclhaa
open Go.RowKit
set_option linter.unusedVariables false
set_option linter.unusedSimpArgs false

theorem OwnW.zero (w : World) : OwnW w w (.slice none 0 0) [] := ⟨World.ownsRow_nil _ _ _ _, (fun k hk => by cases hk), Keeps.refl _ _⟩
theorem OwnW.of_blk {w w' : World} {xs : List UInt32} (h : Blk w' w.heap.size (wvs xs) 26) (hl : xs.length ≤ maxLen) (hK : Keeps (fun _ => False) w w') : OwnW w w' (.slice (some ⟨w.heap.size, 0, none⟩) xs.length xs.length) xs :=
  ⟨own_of_blkW h hl, fun k hk => by cases hk; exact Nat.le_refl _, hK⟩

section
variable {s : Nat × Nat → Ob} {w w' : World} {o o2 : Nat × Nat}
theorem Has.rm_ne_blk {b g c : Nat} {xs : List UInt32} {l : List Value} {t : TypeId} (h : Has s w) (h1 : s o = .rm b g xs) (h2 : s o2 = .blk c l t) (hne : o ≠ o2) : g ≠ c := by
  obtain ⟨tag, h⟩ := h
  have g1 := h o
  have g2 := h o2
  rw [h1] at g1
  rw [h2] at g2
  rintro rfl
  exact hne (g1.2.2.symm.trans g2.2)
theorem Has.row_ne_rm {e : TypeId} {z n b g : Nat} {v : Value} {vs : List Value} {xs : List UInt32} (h : Has s w) (h1 : s o = .rm b g xs) (h2 : s o2 = .row e z v n vs) (hne : o ≠ o2) : v.ownBlock ≠ some g := by
  obtain ⟨tag, h⟩ := h
  have g1 := h o
  have g2 := h o2
  rw [h1] at g1
  rw [h2] at g2
  intro hk
  exact hne (g1.2.2.symm.trans (g2.2 g hk))
end

theorem segW_pre {w : World} {G : Nat} {xs : List UInt32} {zs : List Value} (h : Blk w G (wvs xs ++ zs) 26) : SegW w (some ⟨G, 0, none⟩) xs := by
  refine .inr ⟨G, 0, rfl, fun j hj => ?_⟩
  have := h.cell (i := j) (v := .int .u32 (xs[j].toNat : Int)) (by rw [List.getElem?_append_left (by rw [wvs_length]; exact hj)]; exact wvs_get xs j hj)
  rw [Nat.zero_add]
  exact this

/-- Two lists that were told alike are kept, one behind the other. -/
theorem two_keeps {w0 w : World} {s : Nat × Nat → Ob} {g : GS} {X T : Nat} {al cl bl : Option Addr} {bc n : Nat} {ts : List UInt32} (hH : Has s w) (hR : Rel s g w0) (hS : Small g T) (hX : g.X = X) (hn : ts.length = n) (h16 : n ≤ 16384) (hT : T ≤ 8589934592)
    (h1 : s (24, 0) = .row 26 1 (.slice al n n) n (wvs ts)) (h2 : s (24, 1) = .row 26 1 (.slice cl n n) n (wvs ts))
    (hwant : ∀ s' w' g', Has s' w' → Rel s' g' w0 → g'.P = g.P → s' (24, 2) = s (24, 2) → SegW w' bl ts ∧ ∀ x, bl = some x → ts ≠ [] → x.block ≠ g'.X ∧ g'.sk.ownBlock ≠ some x.block) :
    Hid (Calls Try.prog 46 #[.pointer (some ⟨X, 2, none⟩), .slice al n n, .slice bl n bc] w fun e w6 => e = .returned (.bool true) ∧
      Hid (Calls Try.prog 46 #[.pointer (some ⟨X, 2, none⟩), .slice cl n n, .slice bl n bc] w6 fun e w7 => e = .returned (.bool true) ∧ Game w0 w7 X (T + 2))) := by
  subst hn hX
  obtain ⟨g1, g2⟩ := hwant s w g hH hR rfl rfl
  have hk := hS.k
  refine (keep_step hH hR h1 (by simp) g1 g2 (by omega) (by omega)).mono ?_
  rintro e w6 ⟨rfl, s6, v6, k6, H6, R6, e6⟩
  refine ⟨rfl, ?_⟩
  have S6 := hS.pushK (al := al) (xs := ts) (v := v6) (sk' := k6) h16
  obtain ⟨f1, f2⟩ := hwant s6 w6 _ H6 R6 rfl (e6 _ (by simp) (by simp))
  have hk6 := S6.k
  refine (keep_step H6 R6 ((e6 (24, 1) (by simp) (by simp)).trans h2) (by simp) f1 f2 (by omega) (by omega)).mono ?_
  rintro e w7 ⟨rfl, s7, v7, k7, H7, R7, e7⟩
  exact ⟨rfl, s7, _, H7, R7, S6.pushK h16, rfl⟩

/-- The calls of a Take, one behind another. -/
theorem take_chain {w0 w2 : World} {S2 : Nat × Nat → Ob} {g : GS} {i O Q X T : Nat} {p : Pr} {oc : List Value} (hH : Has S2 w2) (hR : Rel S2 g w0) (hS : Small g T) (hX : g.X = X) (hp : g.P[i]? = some p) (hO : S2 (21, 0) = .blk O oc 29) (hQ : S2 (22, 0) = .blk Q [ptr p.b, ptr p.rb] 85)
    (a b : Int) (ha : in64 a) (hb : in64 b) (hT : T ≤ 8589934592) :
    ∃ (n : Nat) (E : Int), (n : Int) ≤ 16384 ∧ Hid (Calls Try.prog 39 #[ptr p.b, .int .i64 a, .int .i64 b] w2 fun e w3 => ∃ al, e = .returned (.tuple #[.slice al n n, .int .i64 E]) ∧ Blk w3 O oc 29 ∧ Blk w3 Q [ptr p.b, ptr p.rb] 85 ∧
      Hid (Calls Try.prog 39 #[ptr p.b, .int .i64 a, .int .i64 b] w3 fun e w4 => ∃ cl, e = .returned (.tuple #[.slice cl n n, .int .i64 E]) ∧ Blk w4 O oc 29 ∧ Blk w4 Q [ptr p.b, ptr p.rb] 85 ∧
        Hid (Calls Try.prog 45 #[ptr p.rb, .int .i64 a, .int .i64 b] w4 fun e w5 => ∃ bl bc, e = .returned (.tuple #[.slice bl n bc, .int .i64 E]) ∧
          Hid (Calls Try.prog 46 #[.pointer (some ⟨X, 2, none⟩), .slice al n n, .slice bl n bc] w5 fun e w6 => e = .returned (.bool true) ∧
            Hid (Calls Try.prog 46 #[.pointer (some ⟨X, 2, none⟩), .slice cl n n, .slice bl n bc] w6 fun e w7 => e = .returned (.bool true) ∧ Game w0 w7 X (T + 2)))))) := by
  have hm := hR.mm i p hp
  have hsm : p.xs.length ≤ 16384 := (hH.mm hm.1).1.small
  obtain ⟨ts, E, hts, hA, hB⟩ : ∃ (ts : List UInt32) (E : Int), ts.length ≤ 16384 ∧ (∀ w, Mm w p.b p.g p.xs → Calls Try.prog 39 #[ptr p.b, .int .i64 a, .int .i64 b] w fun e w' => ∃ al, e = .returned (.tuple #[.slice al ts.length ts.length, .int .i64 E]) ∧ OwnW w w' (.slice al ts.length ts.length) ts) ∧
      ∀ w, Rm w p.rb p.rg p.xs → Calls Try.prog 45 #[ptr p.rb, .int .i64 a, .int .i64 b] w fun e w' => ∃ bl bc, e = .returned (.tuple #[.slice bl ts.length bc, .int .i64 E]) ∧ OwnW w w' (.slice bl ts.length bc) ts := by
    by_cases hin : 0 ≤ a ∧ 0 ≤ b ∧ a + b ≤ p.xs.length
    · obtain ⟨n, rfl⟩ : ∃ n : Nat, a = n := ⟨a.toNat, by omega⟩
      obtain ⟨m, rfl⟩ : ∃ n : Nat, b = n := ⟨b.toNat, by omega⟩
      have hwl := win_length p.xs n m (by omega)
      refine ⟨win p.xs n m, 0, by omega, fun w h => ?_, fun w h => ?_⟩
      · refine (take_in p.b p.g p.xs n m w h (by omega)).mono ?_
        rintro e w' ⟨rfl, k1, k2⟩
        refine ⟨some ⟨w.heap.size, 0, none⟩, by rw [hwl], OwnW.of_blk k1 (by rw [hwl]; unfold maxLen; omega) k2⟩
      · refine (rtake_in p.rb p.rg p.xs n m w h (by omega)).mono ?_
        rintro e w' ⟨bl, bc, rfl, k1⟩
        exact ⟨bl, bc, by rw [hwl], by rw [hwl]; exact k1⟩
    · refine ⟨[], 51, by simp, fun w h => ?_, fun w h => ?_⟩
      · refine (take_out p.b p.g p.xs a b w h hin ha.2).mono ?_
        rintro e w' ⟨rfl, rfl⟩
        exact ⟨none, rfl, OwnW.zero _⟩
      · refine (rtake_out p.rb p.rg p.xs a b w h ha.1 ha.2 hin).mono ?_
        rintro e w' ⟨rfl, rfl⟩
        exact ⟨none, 0, rfl, OwnW.zero _⟩
  refine ⟨ts.length, E, by omega, (hA w2 (hH.mm hm.1).1).mono ?_⟩
  rintro e w3 ⟨al, rfl, o3⟩
  have H3 := hH.newRow (24, 0) o3.own o3.new o3.k
  have R3 := hR.other 24 0 (by omega) (.row 26 1 (.slice al ts.length ts.length) ts.length (wvs ts))
  refine ⟨al, rfl, (H3.blk (o := (21, 0)) (by rw [upd_ne _ _ _ _ (by simp)]; exact hO)).1, (H3.blk (o := (22, 0)) (by rw [upd_ne _ _ _ _ (by simp)]; exact hQ)).1, (hA w3 (H3.mm (R3.mm i p hp).1).1).mono ?_⟩
  rintro e w4 ⟨cl, rfl, o4⟩
  have H4 := H3.newRow (24, 1) o4.own o4.new o4.k
  have R4 := R3.other 24 1 (by omega) (.row 26 1 (.slice cl ts.length ts.length) ts.length (wvs ts))
  refine ⟨cl, rfl, (H4.blk (o := (21, 0)) (by rw [upd_ne _ _ _ _ (by simp), upd_ne _ _ _ _ (by simp)]; exact hO)).1, (H4.blk (o := (22, 0)) (by rw [upd_ne _ _ _ _ (by simp), upd_ne _ _ _ _ (by simp)]; exact hQ)).1, (hB w4 (H4.rm (R4.mm i p hp).2).1).mono ?_⟩
  rintro e w5 ⟨bl, bc, rfl, o5⟩
  have H5 := H4.newRow (24, 2) o5.own o5.new o5.k
  have R5 := R4.other 24 2 (by omega) (.row 26 1 (.slice bl ts.length bc) ts.length (wvs ts))
  refine ⟨bl, bc, rfl, ?_⟩
  refine two_keeps H5 R5 hS hX rfl hts hT (by rw [upd_ne _ _ _ _ (by simp), upd_ne _ _ _ _ (by simp), upd_self]) (by rw [upd_ne _ _ _ _ (by simp), upd_self]) fun s' w' g' H' R' eP e2 => ?_
  rw [upd_self] at e2
  refine ⟨owns_segW (H'.row e2).1, fun x hx h0 => ?_⟩
  obtain ⟨q, hq⟩ := own_seg (H'.row e2).1 rfl h0
  rw [hx] at hq
  cases hq
  subst hx
  exact ⟨fun e => H'.row_ne_blk e2 R'.x (by simp) (congrArg some e), H'.row_ne e2 R'.rk (by simp) rfl⟩

/-- The calls of Words, one behind another. -/
theorem words_chain {w0 w2 : World} {S2 : Nat × Nat → Ob} {g : GS} {i O Q X T : Nat} {p : Pr} {oc : List Value} (hH : Has S2 w2) (hR : Rel S2 g w0) (hS : Small g T) (hX : g.X = X) (hp : g.P[i]? = some p) (hO : S2 (21, 0) = .blk O oc 29) (hQ : S2 (22, 0) = .blk Q [ptr p.b, ptr p.rb] 85) (hT : T ≤ 8589934592) :
    ∃ (n f : Nat), (n : Int) ≤ 16384 ∧ (f : Int) ≤ 1024 ∧ Hid (Calls Try.prog 16 #[ptr p.b] w2 fun e w3 => e = .returned (.int .i64 f) ∧ w3 = w2) ∧
     Hid (Calls Try.prog 17 #[ptr p.b] w2 fun e w3 => ∃ al, e = .returned (.slice al n n) ∧ Blk w3 Q [ptr p.b, ptr p.rb] 85 ∧
      Hid (Calls Try.prog 17 #[ptr p.b] w3 fun e w4 => ∃ cl bc, e = .returned (.slice cl n n) ∧ Blk w4 Q [ptr p.b, ptr p.rb] 85 ∧ w4.cell? ⟨p.rb, 0, none⟩ = some (.slice (some ⟨p.rg, 0, none⟩) n bc) ∧
          Hid (∀ w5, Keeps (fun _ => False) w4 w5 → Calls Try.prog 46 #[.pointer (some ⟨X, 2, none⟩), .slice al n n, .slice (some ⟨p.rg, 0, none⟩) n bc] w5 fun e w6 => ∃ bc, e = .returned (.bool true) ∧ Blk w6 Q [ptr p.b, ptr p.rb] 85 ∧ w6.cell? ⟨p.rb, 0, none⟩ = some (.slice (some ⟨p.rg, 0, none⟩) n bc) ∧
            Hid (∀ w5, Keeps (fun _ => False) w6 w5 → Calls Try.prog 46 #[.pointer (some ⟨X, 2, none⟩), .slice cl n n, .slice (some ⟨p.rg, 0, none⟩) n bc] w5 fun e w7 => e = .returned (.bool true) ∧ Blk w7 Q [ptr p.b, ptr p.rb] 85 ∧
              Hid (∀ w5, Keeps (fun _ => False) w7 w5 → Calls Try.prog 50 #[ptr p.rb] w5 fun e w8 => e = .returned (.int .i64 f) ∧ Game w0 w8 X (T + 2)))))) := by
  subst hX
  have hm := hR.mm i p hp
  have hsm : p.xs.length ≤ 16384 := (hH.mm hm.1).1.small
  obtain ⟨f, f1, f2, hf⟩ := hS.px i p hp
  have cell : ∀ {s : Nat × Nat → Ob} {w : World}, Has s w → s (6, i) = .rm p.rb p.rg p.xs → ∃ bc, w.cell? ⟨p.rb, 0, none⟩ = some (.slice (some ⟨p.rg, 0, none⟩) p.xs.length bc) := fun h hs => by
    obtain ⟨c, -, hb⟩ := (h.rm hs).1.blk
    exact ⟨c, hb.cell rfl⟩
  have seg : ∀ {s : Nat × Nat → Ob} {w : World} {g' : GS}, Has s w → Rel s g' w0 → s (6, i) = .rm p.rb p.rg p.xs → SegW w (some ⟨p.rg, 0, none⟩) p.xs ∧ ∀ x, (some ⟨p.rg, 0, none⟩ : Option Addr) = some x → p.xs ≠ [] → x.block ≠ g'.X ∧ g'.sk.ownBlock ≠ some x.block := fun h R hs => by
    obtain ⟨ys, hy⟩ := (h.rm hs).1.row
    refine ⟨segW_pre hy, fun x hx _ => ?_⟩
    cases hx
    exact ⟨h.rm_ne_blk hs R.x (by simp), h.row_ne_rm hs R.rk (by simp)⟩
  refine ⟨p.xs.length, f, by omega, by omega, frames_any p.b p.g p.xs f w2 (hH.mm hm.1).1 hf, (words_any p.b p.g p.xs w2 (hH.mm hm.1).1).mono ?_⟩
  rintro e w3 ⟨rfl, k3, q3⟩
  have o3 := OwnW.of_blk k3 (by unfold maxLen; omega) q3
  have H3 := hH.newRow (24, 0) o3.own o3.new o3.k
  have R3 := hR.other 24 0 (by omega) (.row 26 1 (.slice (some ⟨w2.heap.size, 0, none⟩) p.xs.length p.xs.length) p.xs.length (wvs p.xs))
  refine ⟨_, rfl, (H3.blk (o := (22, 0)) (by rw [upd_ne _ _ _ _ (by simp)]; exact hQ)).1, (words_any p.b p.g p.xs w3 (H3.mm (R3.mm i p hp).1).1).mono ?_⟩
  rintro e w4 ⟨rfl, k4, q4⟩
  have o4 := OwnW.of_blk k4 (by unfold maxLen; omega) q4
  have H4 := H3.newRow (24, 1) o4.own o4.new o4.k
  have R4 := R3.other 24 1 (by omega) (.row 26 1 (.slice (some ⟨w3.heap.size, 0, none⟩) p.xs.length p.xs.length) p.xs.length (wvs p.xs))
  obtain ⟨b4, c4⟩ := cell H4 (R4.mm i p hp).2
  refine ⟨_, b4, rfl, (H4.blk (o := (22, 0)) (by rw [upd_ne _ _ _ _ (by simp), upd_ne _ _ _ _ (by simp)]; exact hQ)).1, c4, ?_⟩
  have hk := hS.k
  intro w5 hK5
  have H5 := H4.quiet hK5
  obtain ⟨g1, g2⟩ := seg H5 R4 (R4.mm i p hp).2
  refine (keep_step H5 R4 (o := (24, 0)) (by rw [upd_ne _ _ _ _ (by simp), upd_self]) (by simp) g1 g2 (by omega) (by omega)).mono ?_
  rintro e w6 ⟨rfl, s6, v6, k6, H6, R6, e6⟩
  have S6 := hS.pushK (al := some ⟨w2.heap.size, 0, none⟩) (xs := p.xs) (v := v6) (sk' := k6) hsm
  have m6 := (R6.mm i p hp).2
  obtain ⟨b6, c6⟩ := cell H6 m6
  refine ⟨b6, rfl, (H6.blk (o := (22, 0)) (by rw [e6 _ (by simp) (by simp), upd_ne _ _ _ _ (by simp), upd_ne _ _ _ _ (by simp)]; exact hQ)).1, c6, ?_⟩
  have hk6 := S6.k
  intro w6' hK6'
  have H6' := H6.quiet hK6'
  obtain ⟨f1', f2'⟩ := seg H6' R6 m6
  refine (keep_step H6' R6 (o := (24, 1)) (by rw [e6 _ (by simp) (by simp), upd_self]) (by simp) f1' f2' (by omega) (by omega)).mono ?_
  rintro e w7 ⟨rfl, s7, v7, k7, H7, R7, e7⟩
  refine ⟨rfl, (H7.blk (o := (22, 0)) (by rw [e7 _ (by simp) (by simp), e6 _ (by simp) (by simp), upd_ne _ _ _ _ (by simp), upd_ne _ _ _ _ (by simp)]; exact hQ)).1, ?_⟩
  intro w7' hK7'
  have H7' := H7.quiet hK7'
  refine (rframes_any p.rb p.rg p.xs f w7' (H7'.rm (R7.mm i p hp).2).1 hf).mono ?_
  rintro e w8 ⟨rfl, rfl⟩
  exact ⟨rfl, s7, _, H7', R7, S6.pushK hsm, rfl⟩

end Go.Proofs.Ytljhdijledclhaa
