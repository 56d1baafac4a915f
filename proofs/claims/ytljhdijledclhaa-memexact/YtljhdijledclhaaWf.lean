import Derived.Test.YtljhdijledclhaaWa
namespace Go.Proofs.Ytljhdijledclhaa
open Go.RowKit
set_option linter.unusedVariables false
set_option linter.unusedSimpArgs false

theorem upd_comm (s : Nat × Nat → Ob) (o1 o2 : Nat × Nat) (x y : Ob) (h : o1 ≠ o2) : upd (upd s o1 x) o2 y = upd (upd s o2 y) o1 x := by
  funext o
  unfold upd
  by_cases h1 : o = o1
  · subst h1; simp [h]
  · simp [h1]

section
variable {s : Nat × Nat → Ob} {w w' : World} {o o2 : Nat × Nat}
theorem Has.drop {b : Nat} {l : List Value} {t : TypeId} (h : Has s w) (hs : s o = .blk b l t) (hK : Keeps (· = b) w w') : Has (upd s o .nothing) w' := by
  obtain ⟨tag, h⟩ := h
  have ho := h o
  rw [hs] at ho
  exact has_step h hK (fun k _ e => by rw [e]; exact ho.2) trivial
theorem Has.rm_ge {b g : Nat} {xs : List UInt32} {w0 : World} (h : Has s w) (hs : s o = .rm b g xs) (hs2 : s o2 = .base w0) (hne : o ≠ o2) : w0.heap.size ≤ g := by
  obtain ⟨tag, h⟩ := h
  have h1 := h o
  have h2 := h o2
  rw [hs] at h1
  rw [hs2] at h2
  exact Nat.le_of_not_lt fun hlt => hne (h1.2.2.symm.trans (h2.1 g hlt))
theorem Has.blk_ge {b : Nat} {l : List Value} {t : TypeId} {w0 : World} (h : Has s w) (hs : s o = .blk b l t) (hs2 : s o2 = .base w0) (hne : o ≠ o2) : w0.heap.size ≤ b := by
  obtain ⟨tag, h⟩ := h
  have h1 := h o
  have h2 := h o2
  rw [hs] at h1
  rw [hs2] at h2
  exact Nat.le_of_not_lt fun hlt => hne (h1.2.symm.trans (h2.1 b hlt))
end

theorem segW_lt {w : World} {a : Option Addr} {ws : List UInt32} (h : SegW w a ws) : ∀ x, a = some x → ws ≠ [] → x.block < w.heap.size := by
  intro x hx h0
  rcases h with h | ⟨g, o, h1, h2⟩
  · exact absurd h h0
  · rw [h1] at hx
    cases hx
    have hp : 0 < ws.length := List.length_pos_iff.2 h0
    exact World.block_lt_of_cell? w ⟨g, o + 0, none⟩ (h2 0 hp)

theorem Wk.open {w0 w w2 : World} {X T : Nat} {oc : List Value} {s : Nat × Nat → Ob} {g : GS} {i : Nat} {p : Pr} {lb lc : Nat} (h : Wk w0 w X T oc s g i p lb lc)
    (hK : Keeps (fun _ => False) ((w.alloc (.cells oc.toArray 29)).alloc (.cells #[ptr p.b, ptr p.rb] 85)) w2) :
    ∃ S2, Has S2 w2 ∧ Rel S2 g w0 ∧ S2 (21, 0) = .blk w.heap.size oc 29 ∧ S2 (22, 0) = .blk (w.heap.size + 1) [ptr p.b, ptr p.rb] 85 :=
  ⟨_, h.h2.quiet hK, (h.rel.other 21 0 (by omega) _).other 22 0 (by omega) _, by rw [upd_ne _ _ _ _ (by simp), upd_self], upd_self _ _ _⟩

/-- The calls of a Lay, one behind another. -/
theorem lay_chain {w0 w2 : World} {S2 : Nat × Nat → Ob} {g : GS} {i O Q X T : Nat} {p : Pr} {oc : List Value} (hH : Has S2 w2) (hR : Rel S2 g w0) (hS : Small g T) (hX : g.X = X) (hp : g.P[i]? = some p) (hO : S2 (21, 0) = .blk O oc 29) (hQ : S2 (22, 0) = .blk Q [ptr p.b, ptr p.rb] 85)
    (pw : Option Addr) (ws : List UInt32) (cw : Nat) (hseg : SegW w0 pw ws) (hl : ws.length ≤ 4294967000) (a : Int) (ha : in64 a) :
    ∃ B, Hid (Calls Try.prog 31 #[.slice pw ws.length cw] w2 fun e w3 => e = .returned (.slice (some ⟨B, 0, none⟩) ws.length (ws.length + 9)) ∧ Blk w3 O oc 29 ∧ Blk w3 Q [ptr p.b, ptr p.rb] 85 ∧
      ∃ E, Hid (Calls Try.prog 40 #[ptr p.b, .int .i64 a, .slice (some ⟨B, 0, none⟩) ws.length (ws.length + 9)] w3 fun e w4 => e = .returned (.int .i64 E) ∧ Blk w4 O oc 29 ∧ Blk w4 Q [ptr p.b, ptr p.rb] 85 ∧
        Hid (Calls Try.prog 34 #[.slice (some ⟨B, 0, none⟩) ws.length (ws.length + 9), .slice pw ws.length cw] w4 fun e w5 => e = .returned (.bool true) ∧ Blk w5 O oc 29 ∧ Blk w5 Q [ptr p.b, ptr p.rb] 85 ∧
          Hid (Calls Try.prog 47 #[ptr p.rb, .int .i64 a, .slice pw ws.length cw] w5 fun e w6 => e = .returned (.int .i64 E) ∧ Game w0 w6 X (T + 2))))) := by
  have hm := hR.mm i p hp
  have segAt : ∀ {s : Nat × Nat → Ob} {w' : World}, Has s w' → s (0, 0) = .base w0 → SegW w' pw ws := fun h hb => hseg.kept (h.base hb) (fun _ _ e => e)
  refine ⟨w2.heap.size, (lentW pw cw ws w2 (segAt hH hR.base) hl).mono ?_⟩
  rintro e w3 ⟨rfl, hB3, hK3⟩
  have H3 := hH.newBlk (20, 0) hB3 (Nat.le_refl _) hK3
  have hR3 := hR.other 20 0 (by omega) (.blk w2.heap.size (wvs (ws ++ marksW 9)) 26)
  have hO3 : upd S2 (20, 0) (.blk w2.heap.size (wvs (ws ++ marksW 9)) 26) (21, 0) = .blk O oc 29 := by rw [upd_ne _ _ _ _ (by simp)]; exact hO
  have hQ3 : upd S2 (20, 0) (.blk w2.heap.size (wvs (ws ++ marksW 9)) 26) (22, 0) = .blk Q [ptr p.b, ptr p.rb] 85 := by rw [upd_ne _ _ _ _ (by simp)]; exact hQ
  have h20 : upd S2 (20, 0) (.blk w2.heap.size (wvs (ws ++ marksW 9)) 26) (20, 0) = .blk w2.heap.size (wvs (ws ++ marksW 9)) 26 := upd_self _ _ _
  revert H3 hR3 hO3 hQ3 h20
  generalize upd S2 (20, 0) (.blk w2.heap.size (wvs (ws ++ marksW 9)) 26) = S3
  intro H3 hR3 hO3 hQ3 h20
  have hm3 := hR3.mm i p hp
  have hs3 : SegW w3 (some ⟨w2.heap.size, 0, none⟩) ws := by
    have h := segW_part hB3 0 ws.length (by rw [List.length_append]; omega)
    rw [List.drop_zero, List.take_left'] at h
    · exact h
    · rfl
  refine ⟨rfl, (H3.blk hO3).1, (H3.blk hQ3).1, ?_⟩
  have key : ∀ E xs', xs'.length = p.xs.length → (∀ w5, Rm w5 p.rb p.rg p.xs → SegW w5 pw ws → (∀ x, pw = some x → ws ≠ [] → x.block ≠ p.rg) → Calls Try.prog 47 #[ptr p.rb, .int .i64 a, .slice pw ws.length cw] w5 fun e w6 => e = .returned (.int .i64 E) ∧ Rm w6 p.rb p.rg xs' ∧ Keeps (· = p.rg) w5 w6) →
      ∀ w4, Mm w4 p.b p.g xs' → Keeps (· = p.g) w3 w4 → Blk w4 O oc 29 ∧ Blk w4 Q [ptr p.b, ptr p.rb] 85 ∧
        Hid (Calls Try.prog 34 #[.slice (some ⟨w2.heap.size, 0, none⟩) ws.length (ws.length + 9), .slice pw ws.length cw] w4 fun e w5 => e = .returned (.bool true) ∧ Blk w5 O oc 29 ∧ Blk w5 Q [ptr p.b, ptr p.rb] 85 ∧
          Hid (Calls Try.prog 47 #[ptr p.rb, .int .i64 a, .slice pw ws.length cw] w5 fun e w6 => e = .returned (.int .i64 E) ∧ Game w0 w6 X (T + 2))) := by
    intro E xs' hx hlay w4 hm4 hK4
    have H4 := (H3.mm hm3.1).2 w4 xs' hm4 hK4
    have n4 : ∀ o, o ≠ (5, i) → upd S3 (5, i) (.mm p.b p.g xs') o = S3 o := fun o ho => upd_ne _ _ _ _ ho
    have hb4 : upd S3 (5, i) (.mm p.b p.g xs') (0, 0) = .base w0 := by rw [n4 _ (by simp)]; exact hR3.base
    have h204 : upd S3 (5, i) (.mm p.b p.g xs') (20, 0) = .blk w2.heap.size (wvs (ws ++ marksW 9)) 26 := by rw [n4 _ (by simp)]; exact h20
    have hB4 := (H4.blk h204).1
    have hge := H4.blk_ge h204 hb4 (by simp)
    refine ⟨(H4.blk (o := (21, 0)) (by rw [n4 _ (by simp)]; exact hO3)).1, (H4.blk (o := (22, 0)) (by rw [n4 _ (by simp)]; exact hQ3)).1, ?_⟩
    refine (backW w2.heap.size pw cw ws w4 hB4 (segAt H4 hb4) (fun x hx h0 => ?_) hl).mono ?_
    · have := segW_lt hseg x hx h0
      omega
    rintro e w5 ⟨rfl, hK5⟩
    have H5 := H4.drop h204 hK5
    have n5 : ∀ o, o ≠ (20, 0) → o ≠ (5, i) → upd (upd S3 (5, i) (.mm p.b p.g xs')) (20, 0) .nothing o = S3 o := fun o h1 h2 => by rw [upd_ne _ _ _ _ h1, upd_ne _ _ _ _ h2]
    have hb5 : upd (upd S3 (5, i) (.mm p.b p.g xs')) (20, 0) .nothing (0, 0) = .base w0 := by rw [n5 _ (by simp) (by simp)]; exact hR3.base
    have h65 : upd (upd S3 (5, i) (.mm p.b p.g xs')) (20, 0) .nothing (6, i) = .rm p.rb p.rg p.xs := by rw [n5 _ (by simp) (by simp)]; exact hm3.2
    have hrg := H5.rm_ge h65 hb5 (by simp)
    refine ⟨rfl, (H5.blk (o := (21, 0)) (by rw [n5 _ (by simp) (by simp)]; exact hO3)).1, (H5.blk (o := (22, 0)) (by rw [n5 _ (by simp) (by simp)]; exact hQ3)).1, ?_⟩
    refine (hlay w5 (H5.rm h65).1 (segAt H5 hb5) (fun x hx h0 => ?_)).mono ?_
    · have := segW_lt hseg x hx h0
      omega
    rintro e w6 ⟨rfl, hr6, hK6⟩
    have H6 := (H5.rm h65).2 w6 xs' hr6 hK6
    rw [upd_comm S3 (5, i) (20, 0) _ _ (by simp)] at H6
    exact ⟨rfl, _, _, H6, (hR3.other 20 0 (by omega) .nothing).setP hp xs', (hS.mono (by omega)).setP hp xs' hx, hX⟩
  by_cases hin : 0 ≤ a ∧ a + ws.length ≤ p.xs.length
  · obtain ⟨n, rfl⟩ : ∃ n : Nat, a = n := ⟨a.toNat, by omega⟩
    refine ⟨0, (lay_in p.b p.g p.xs n _ _ ws w3 (H3.mm hm3.1).1 hs3 (by omega)).mono ?_⟩
    rintro e w4 ⟨rfl, hm4, hK4⟩
    obtain ⟨k1, k2, k3⟩ := key 0 (lay p.xs n ws) (lay_length _ _ _ (by omega)) (fun w5 h5 h6 h7 => rlay_in p.rb p.rg p.xs n pw cw ws w5 h5 h6 h7 (by omega)) w4 hm4 hK4
    exact ⟨rfl, k1, k2, k3⟩
  · refine ⟨51, (lay_out p.b p.g p.xs a _ ws.length _ w3 (H3.mm hm3.1).1 hin ha.2).mono ?_⟩
    rintro e w4 ⟨rfl, rfl⟩
    obtain ⟨k1, k2, k3⟩ := key 51 p.xs rfl (fun w5 h5 h6 h7 => (rlay_out p.rb p.rg p.xs a pw cw ws.length w5 h5 ha.1 ha.2 hin).mono (fun e w' h => by obtain ⟨rfl, rfl⟩ := h; exact ⟨rfl, h5, Keeps.refl _ _⟩)) _ (H3.mm hm3.1).1 (Keeps.refl _ _)
    exact ⟨rfl, k1, k2, k3⟩

set_option maxRecDepth 100000 in
set_option maxHeartbeats 4000000 in
theorem works_6 (who oth a b c : Int) (W : Nat) (pw : Option Addr) (ws : List UInt32) (cw : Nat) (w0 w : World) (X T : Nat) (h : Game w0 w X T) (hwho : in64 who) (ha : in64 a) (hseg : SegW w0 pw ws) (hl : ws.length ≤ 4294967000) :
    Calls Try.prog 12 #[.pointer (some ⟨X, 0, none⟩), .agg #[.int .i64 6, .int .i64 who, .int .i64 oth, .int .i64 a, .int .i64 b, .int .i64 c, .int .u32 W, .slice pw ws.length cw]] w fun e w' => e = .returned (.bool true) ∧ Game w0 w' X (T + 2) := by
  obtain ⟨s, g, p, lb, lc, hk⟩ := h.wk (ocs 6 who oth a b c W (.slice pw ws.length cw)) who
  have HW : Hid (Wk w0 w X T (ocs 6 who oth a b c W (.slice pw ws.length cw)) s g (pk who g.P.length) p lb lc) := hk
  have c0 := hk.c0
  have c1 := hk.c1
  have c2 := hk.c2
  have m1 : (g.P.length : Int) ≤ 12 := by have := hk.sm.p12; omega
  have m2 : 0 < g.P.length := hk.sm.p1
  have hlt := pk_lt who g.P.length m2
  obtain ⟨L, hL⟩ : ∃ L, L = g.P.length := ⟨_, rfl⟩
  have HL : Hid (L = g.P.length) := hL
  rw [← hL] at c0 c1 c2 m1 m2 hlt
  obtain ⟨i, hi⟩ : ∃ i, i = pk who L := ⟨_, rfl⟩
  have HP : ∀ w, Calls _ _ _ w _ := fun w => pick_any who L w m2 (by omega) hwho.1 hwho.2
  rw [← hi] at c1 c2 hlt HP
  have HP : Hid (∀ w, _) := HP
  have HI : Hid (i = pk who L) := hi
  have hlt' : (i : Int) < L := by omega
  unfold ocs at c0 c1 c2
  unfold ptr at c1 c2
  clear h hk hwho hL hi
  -- PRE
  obtain ⟨O, hO⟩ : ∃ O, O = w.heap.size := ⟨_, rfl⟩
  have HO : Hid (O = w.heap.size) := hO
  have o1 : (w.alloc (.cells #[.int .i64 6, .int .i64 who, .int .i64 oth, .int .i64 a, .int .i64 b, .int .i64 c, .int .u32 W, .slice pw ws.length cw] 29)).cell? ⟨O, 1, none⟩ = some (.int .i64 who) := by rw [hO]; exact (Blk.new w _ 29).cell rfl
  go_enter Try.func12, Try.ntmps12
  go_wp2_with fail
  rw [← HO.out]
  obtain ⟨w1, hw1⟩ : ∃ w1, w1 = w.alloc (.cells #[.int .i64 6, .int .i64 who, .int .i64 oth, .int .i64 a, .int .i64 b, .int .i64 c, .int .u32 W, .slice pw ws.length cw] 29) := ⟨_, rfl⟩
  have HW1 : Hid (w1 = w.alloc (.cells #[.int .i64 6, .int .i64 who, .int .i64 oth, .int .i64 a, .int .i64 b, .int .i64 c, .int .u32 W, .slice pw ws.length cw] 29)) := hw1
  rw [← hw1]
  have hS0 : w1.drew.cell? ⟨X, 0, none⟩ = some (.slice (some ⟨lb, 0, none⟩) L lc) ∧ w1.drew.cell? ⟨O, 1, none⟩ = some (.int .i64 who) ∧ w1.drew.cell? ⟨lb, i * 2, none⟩ = some (.pointer (some ⟨p.b, 0, none⟩)) ∧ w1.drew.cell? ⟨lb, i * 2 + 1, none⟩ = some (.pointer (some ⟨p.rb, 0, none⟩)) := by
    rw [hw1]; exact ⟨c0, o1, c1, c2⟩
  have hSz : (w1.alloc (Obj.cells #[Value.pointer none, Value.pointer none] 85)).drew.cell? ⟨X, 0, none⟩ = some (.slice (some ⟨lb, 0, none⟩) L lc) ∧ (w1.alloc (Obj.cells #[Value.pointer none, Value.pointer none] 85)).drew.cell? ⟨O, 1, none⟩ = some (.int .i64 who) ∧ (w1.alloc (Obj.cells #[Value.pointer none, Value.pointer none] 85)).drew.cell? ⟨lb, i * 2, none⟩ = some (.pointer (some ⟨p.b, 0, none⟩)) ∧ (w1.alloc (Obj.cells #[Value.pointer none, Value.pointer none] 85)).drew.cell? ⟨lb, i * 2 + 1, none⟩ = some (.pointer (some ⟨p.rb, 0, none⟩)) := by
    have hKz : Keeps (fun _ => False) w1.drew (w1.alloc (Obj.cells #[Value.pointer none, Value.pointer none] 85)).drew := (((Keeps.refl (fun _ => False) w1.drew).alloc _))
    exact ⟨cell_kept hS0.1 hKz (fun e => e), cell_kept hS0.2.1 hKz (fun e => e), cell_kept hS0.2.2.1 hKz (fun e => e), cell_kept hS0.2.2.2 hKz (fun e => e)⟩
  obtain ⟨Q, hQ⟩ : ∃ Q, Q = w1.heap.size := ⟨_, rfl⟩
  obtain ⟨w2, hw2⟩ : ∃ w2, w2 = (w1.alloc (Obj.cells #[.pointer (some ⟨p.b, 0, none⟩), .pointer (some ⟨p.rb, 0, none⟩)] 85)).drew := ⟨_, rfl⟩
  have HQ : Hid (w2 = (w1.alloc (Obj.cells #[.pointer (some ⟨p.b, 0, none⟩), .pointer (some ⟨p.rb, 0, none⟩)] 85)).drew) := hw2
  have HSf : Hid (w2.cell? ⟨X, 0, none⟩ = some (.slice (some ⟨lb, 0, none⟩) L lc) ∧ w2.cell? ⟨O, 1, none⟩ = some (.int .i64 who) ∧ w2.cell? ⟨lb, i * 2, none⟩ = some (.pointer (some ⟨p.b, 0, none⟩)) ∧ w2.cell? ⟨lb, i * 2 + 1, none⟩ = some (.pointer (some ⟨p.rb, 0, none⟩))) := by
    have hKz : Keeps (fun _ => False) w1.drew w2 := by rw [hw2]; exact (Keeps.refl (fun _ => False) w1.drew).alloc _
    exact ⟨cell_kept hS0.1 hKz (fun e => e), cell_kept hS0.2.1 hKz (fun e => e), cell_kept hS0.2.2.1 hKz (fun e => e), cell_kept hS0.2.2.2 hKz (fun e => e)⟩
  have hHw := HW.out.h2
  have hKw : Keeps (fun _ => False) ((w.alloc (.cells (ocs 6 who oth a b c W (.slice pw ws.length cw)).toArray 29)).alloc (.cells #[ptr p.b, ptr p.rb] 85)) w2 := by
    rw [hw2, hw1]; exact (Keeps.refl _ _).drew
  have H2 := hHw.quiet hKw
  have o0 := (H2.blk (o := (21, 0)) (by rw [upd_ne _ _ _ _ (by simp), upd_self])).1
  have q0 := (H2.blk (o := (22, 0)) (upd_self _ _ _)).1
  have hz : w1.heap.size = w.heap.size + 1 := by rw [hw1, World.size_alloc]
  rw [← hO] at o0
  rw [← hz, ← hQ] at q0
  unfold ocs at o0
  unfold ptr at q0
  have k0 := o0.cell (i := 0) rfl
  have k1 := o0.cell (i := 1) rfl
  have k3 := o0.cell (i := 3) rfl
  have k4 := o0.cell (i := 4) rfl
  have k5 := o0.cell (i := 5) rfl
  have k6 := o0.cell (i := 6) rfl
  have k7 := o0.cell (i := 7) rfl
  have j0 := q0.cell (i := 0) rfl
  have j1 := q0.cell (i := 1) rfl
  obtain ⟨S2, g1, g2, g3, g4⟩ := HW.out.open hKw
  obtain ⟨B, hch⟩ := lay_chain g1 g2 HW.out.sm HW.out.x HW.out.hp g3 g4 pw ws cw hseg hl a ha
  rw [← hz, ← hQ, ← hO] at hch
  unfold ocs ptr at hch
  obtain ⟨nw, hnw⟩ : ∃ n, n = ws.length := ⟨_, rfl⟩
  rw [← hnw] at hch k7
  have HQ1 : Hid (Q = w1.heap.size) := hQ
  clear hQ hw1 c0 c1 c2 o1 hO hw2 hHw hKw H2 o0 q0 hz ha hseg g1 g2 g3 g4 hl hnw
  refine wp_region_held_drew (S := fun w' => w'.cell? ⟨X, 0, none⟩ = some (.slice (some ⟨lb, 0, none⟩) L lc) ∧ w'.cell? ⟨O, 1, none⟩ = some (.int .i64 who) ∧ w'.cell? ⟨lb, i * 2, none⟩ = some (.pointer (some ⟨p.b, 0, none⟩)) ∧ w'.cell? ⟨lb, i * 2 + 1, none⟩ = some (.pointer (some ⟨p.rb, 0, none⟩))) Try.mixed hS0 (fun hHeld => ?_)
  simp only [List.size_toArray, List.length_cons, List.length_nil, Nat.reduceAdd, Array.replicate_succ, Array.replicate_zero, List.push_toArray, List.append_toArray, List.nil_append, List.cons_append]
  refine hk 0 (.pointer (some ⟨X, 0, none⟩)) hHeld ?_
  simp only [Act.put, List.setIfInBounds_toArray, List.set_cons_zero, List.set_cons_succ]
  refine hk 1 (.pointer (some ⟨X, 0, none⟩)) hHeld ?_
  simp only [Act.put, List.setIfInBounds_toArray, List.set_cons_zero, List.set_cons_succ]
  refine hk 2 (.pointer (some ⟨X, 0, none⟩)) hHeld ?_
  simp only [Act.put, List.setIfInBounds_toArray, List.set_cons_zero, List.set_cons_succ]
  refine hk 3 (.slice (some ⟨lb, 0, none⟩) L lc) hHeld ?_
  simp only [Act.put, List.setIfInBounds_toArray, List.set_cons_zero, List.set_cons_succ]
  refine hk 4 (.pointer (some ⟨O, 1, none⟩)) hHeld ?_
  simp only [Act.put, List.setIfInBounds_toArray, List.set_cons_zero, List.set_cons_succ]
  refine hk 5 (.int .i64 who) hHeld ?_
  simp only [Act.put, List.setIfInBounds_toArray, List.set_cons_zero, List.set_cons_succ]
  refine hk 6 (.pointer (some ⟨X, 0, none⟩)) hHeld ?_
  simp only [Act.put, List.setIfInBounds_toArray, List.set_cons_zero, List.set_cons_succ]
  refine hk 7 (.pointer (some ⟨X, 0, none⟩)) hHeld ?_
  simp only [Act.put, List.setIfInBounds_toArray, List.set_cons_zero, List.set_cons_succ]
  refine hk 8 (.pointer (some ⟨X, 0, none⟩)) hHeld ?_
  simp only [Act.put, List.setIfInBounds_toArray, List.set_cons_zero, List.set_cons_succ]
  refine hk 9 (.slice (some ⟨lb, 0, none⟩) L lc) hHeld ?_
  simp only [Act.put, List.setIfInBounds_toArray, List.set_cons_zero, List.set_cons_succ]
  refine hk 10 (.int .i64 (L : Int)) hHeld ?_
  simp only [Act.put, List.setIfInBounds_toArray, List.set_cons_zero, List.set_cons_succ]
  refine wpAnyH_ready (rs := [11, 14]) (by kernel_rfl) (by simp) ?_
  refine AllReadyH.cons rfl (fun Kq hK => ?_) (AllReadyH.cons rfl (fun Kq hK => ?_) AllReadyH.nil)
  focus
    go_simp
    refine (HP.out _).mono ?_
    rintro e w2 ⟨rfl, hw2⟩
    subst hw2
    refine hK.out _ _ hS0 (fun hHeld => ?_)
    simp only [Act.put, List.setIfInBounds_toArray, List.set_cons_zero, List.set_cons_succ]
    refine hk 12 (.pointer (some ⟨lb, i * 2, none⟩)) hHeld ?_
    simp only [Act.put, List.setIfInBounds_toArray, List.set_cons_zero, List.set_cons_succ]
    refine hk 13 (.agg #[.pointer (some ⟨p.b, 0, none⟩), .pointer (some ⟨p.rb, 0, none⟩)]) hHeld ?_
    simp only [Act.put, List.setIfInBounds_toArray, List.set_cons_zero, List.set_cons_succ]
    refine wpAnyH_ready (rs := [14]) (by kernel_rfl) (by simp) ?_
    refine AllReadyH.cons rfl (fun Kq hK => ?_) AllReadyH.nil
    go_simp
    refine hK.out _ _ hSz (fun hHeld => ?_)
    simp only [Act.put, List.setIfInBounds_toArray, List.set_cons_zero, List.set_cons_succ]
  rotate_left
  focus
    go_simp
    refine hK.out _ _ hSz (fun hHeld => ?_)
    simp only [Act.put, List.setIfInBounds_toArray, List.set_cons_zero, List.set_cons_succ]
    refine wpAnyH_ready (rs := [11]) (by kernel_rfl) (by simp) ?_
    refine AllReadyH.cons rfl (fun Kq hK => ?_) AllReadyH.nil
    go_simp
    refine (HP.out _).mono ?_
    rintro e w2 ⟨rfl, hw2⟩
    subst hw2
    refine hK.out _ _ hSz (fun hHeld => ?_)
    simp only [Act.put, List.setIfInBounds_toArray, List.set_cons_zero, List.set_cons_succ]
    refine hk 12 (.pointer (some ⟨lb, i * 2, none⟩)) hHeld ?_
    simp only [Act.put, List.setIfInBounds_toArray, List.set_cons_zero, List.set_cons_succ]
    refine hk 13 (.agg #[.pointer (some ⟨p.b, 0, none⟩), .pointer (some ⟨p.rb, 0, none⟩)]) hHeld ?_
    simp only [Act.put, List.setIfInBounds_toArray, List.set_cons_zero, List.set_cons_succ]
  all_goals
    refine wpAnyH_ready (rs := [15]) (by kernel_rfl) (by simp) ?_
    refine AllReadyH.cons rfl (fun Kq hK => ?_) AllReadyH.nil
    go_simp
    rw [← HQ.out, ← HQ1.out]
    refine hK.out _ _ HSf.out (fun hHeld => ?_)
    simp only [Act.put, List.setIfInBounds_toArray, List.set_cons_zero, List.set_cons_succ]
    refine wpAnyH_done (by kernel_rfl) ?_ _
    clear hHeld hK hS0 hSz
    go_wp2_with fail
    refine hch.out.mono ?_
    rintro e w3 ⟨rfl, o3, q3, E, C1⟩
    have k0a := o3.cell (i := 0) rfl
    have k3a := o3.cell (i := 3) rfl
    have k7a := o3.cell (i := 7) rfl
    have j0a := q3.cell (i := 0) rfl
    have j1a := q3.cell (i := 1) rfl
    clear hch o3 q3 k0 k1 k3 k4 k5 k6 k7 j0 j1
    go_wp2_with fail
    refine C1.out.mono ?_
    rintro e w4 ⟨rfl, o4, q4, C2⟩
    have k0b := o4.cell (i := 0) rfl
    have k3b := o4.cell (i := 3) rfl
    have k7b := o4.cell (i := 7) rfl
    have j0b := q4.cell (i := 0) rfl
    have j1b := q4.cell (i := 1) rfl
    clear C1 o4 q4 k0a k3a k7a j0a j1a
    go_wp2_with fail
    refine C2.out.mono ?_
    rintro e w5 ⟨rfl, o5, q5, C3⟩
    have k0c := o5.cell (i := 0) rfl
    have k3c := o5.cell (i := 3) rfl
    have k7c := o5.cell (i := 7) rfl
    have j0c := q5.cell (i := 0) rfl
    have j1c := q5.cell (i := 1) rfl
    clear C2 o5 q5 k0b k3b k7b j0b j1b
    go_wp2_with fail
    refine C3.out.mono ?_
    rintro e w6 ⟨rfl, hG⟩
    have HF : Hid (Game w0 w6 X (T + 2)) := hG
    clear C3 hG k0c k3c k7c j0c j1c
    go_wp2
    go_ret
    exact ⟨rfl, HF.out⟩

end Go.Proofs.Ytljhdijledclhaa
