import Derived.Test.YtekijhhpldnmnaaV
namespace Go.Proofs.Ytekijhhpldnmnaa
open Go.RowKit
set_option linter.unusedVariables false
set_option linter.unusedSimpArgs false

def layR (xs : List UInt32) (rs : List Rr) : List UInt32 := rs.foldl (fun ys r => lay ys r.p r.l) xs
theorem layR_length (xs : List UInt32) (rs : List Rr) (h : ∀ r ∈ rs, r.p + r.l.length ≤ xs.length) : (layR xs rs).length = xs.length := by
  induction rs generalizing xs with
  | nil => rfl
  | cons r rs ih =>
    have h1 := lay_length xs r.p r.l (h r (by simp))
    show (layR (lay xs r.p r.l) rs).length = _
    rw [ih _ (fun s hs => by rw [h1]; exact h s (by simp [hs])), h1]
theorem layR_snoc (xs : List UInt32) (rs : List Rr) (j : Nat) (r : Rr) (h : rs[j]? = some r) : layR xs (rs.take (j + 1)) = lay (layR xs (rs.take j)) r.p r.l := by
  unfold layR
  rw [List.take_add_one, h, List.foldl_append]
  rfl

set_option maxRecDepth 20000 in
set_option maxHeartbeats 1000000 in
theorem layAll_any (b g : Nat) (xs : List UInt32) (a : Option Addr) (c n d : Nat) (rs : List Rr) (w : World) (hm : Mm w b g xs) (hs : SegR w a n d rs) (ha : ∀ x, a = some x → x.block ≠ g) (hr : ∀ r ∈ rs, Blk w r.G (wvs r.l) 52 ∧ r.G ≠ g ∧ r.p + r.l.length ≤ xs.length) (hl : rs.length ≤ 100) :
    Calls Try.prog 50 #[.pointer (some ⟨b, 0, none⟩), .slice a rs.length c] w fun e w' => e = .returned (.int .i64 0) ∧ Mm w' b g (layR xs rs) ∧ Keeps (· = g) w w' := by
  obtain ⟨L, hL⟩ : ∃ L, L = rs.length := ⟨_, rfl⟩
  have HS : Hid (SegR w a n d rs ∧ L = rs.length ∧ (∀ r ∈ rs, Blk w r.G (wvs r.l) 52 ∧ r.G ≠ g ∧ r.p + r.l.length ≤ xs.length) ∧ (∀ x, a = some x → x.block ≠ g) ∧ Mm w b g xs) := ⟨hs, hL, hr, ha, hm⟩
  rw [← hL] at hl ⊢
  have hl2 : (L : Int) ≤ 100 := by omega
  clear hs hL hr ha hm
  go_enter Try.func50, Try.ntmps50
  go_wp2
  go_loopw [10] (fun i wr => ∃ j : Nat, j ≤ L ∧ i = .int .i64 j ∧ Mm wr b g (layR xs (rs.take j)) ∧ Keeps (· = g) w wr) (fun i _ => L - (intOf i).toNat)
  case atStart => exact ⟨0, by omega, rfl, by simpa [layR] using HS.out.2.2.2.2, Keeps.refl _ _⟩
  case round =>
    obtain ⟨j, hj, rfl, hmr, hk⟩ := hrel
    by_cases hlt : j < L
    · have hjx : j < rs.length := by rw [← HS.out.2.1]; exact hlt
      have hlt' : (j : Int) < L := by omega
      obtain ⟨r, hr⟩ : ∃ r, rs[j]? = some r := ⟨_, List.getElem?_eq_getElem hjx⟩
      have hk0 : SegR wr a n d rs := HS.out.1.kept hk fun x hx => HS.out.2.2.2.1 x hx
      obtain ⟨gg, o, rfl, c0, c1, c2, c3, c4⟩ := hk0.at hr
      obtain ⟨q1, q2, q3⟩ := HS.out.2.2.1 r (List.mem_of_getElem? hr)
      obtain ⟨W3, hW3⟩ : ∃ W3, W3 = wr.alloc (.cells (rwc r.p r.h n d r.G r.l.length) 75) := ⟨_, rfl⟩
      have hk3 : Keeps (fun _ => False) wr W3 := by rw [hW3]; exact (Keeps.refl _ wr).alloc _
      have hk3' : Keeps (· = g) w W3 := hk.trans hk3 fun _ _ e => e.elim
      have hfl := layR_length xs (rs.take j) (fun s hs => (HS.out.2.2.1 s (List.mem_of_mem_take hs)).2.2)
      have HC : Hid (Calls _ _ _ _ _) := rlay_any b g (layR xs (rs.take j)) r.p r.h n d r.G r.l.length r.l W3 (hmr.kept hk3 (fun e => e) (fun e => e)) (q1.kept hk3' q2) rfl (by rw [hfl]; exact q3)
      have HW : Hid (Keeps (· = g) w W3 ∧ rs[j]? = some r) := ⟨hk3', hr⟩
      obtain ⟨p, hp⟩ : ∃ p, p = r.p := ⟨_, rfl⟩
      obtain ⟨h, hh⟩ : ∃ p, p = r.h := ⟨_, rfl⟩
      obtain ⟨G, hG⟩ : ∃ p, p = r.G := ⟨_, rfl⟩
      obtain ⟨N, hN⟩ : ∃ p, p = r.l.length := ⟨_, rfl⟩
      have HPL : Hid (layR xs (rs.take (j + 1)) = lay (layR xs (rs.take j)) p r.l) := by rw [hp]; exact layR_snoc xs rs j r hr
      rw [← hp, ← hh, ← hG, ← hN] at HC
      rw [← hp] at c0
      rw [← hh] at c1
      rw [← hG, ← hN] at c4
      have HW1 : Hid (W3 = wr.alloc (.cells (rwc p h n d G N) 75)) := by rw [hp, hh, hG, hN]; exact hW3
      clear hk hk3 hk3' hW3 hr hjx hj hp hh hG hN q1 q2 q3 hk0 hmr hfl
      go_wp2_with fail
      rw [← HW1.out]
      refine HC.out.mono ?_
      rintro e w4 ⟨rfl, hm4, hk4⟩
      have HK4 : Hid (Mm _ _ _ _ ∧ Keeps _ _ _) := ⟨hm4, hk4⟩
      clear hm4 hk4 HC
      go_wp2
      go_roundw
      case rel => exact ⟨j + 1, by omega, by go_num, by rw [HPL.out]; exact HK4.out.1, HW.out.1.trans HK4.out.2 fun _ _ e => e⟩
      case measure => simp [intOf]; omega
    · obtain rfl : j = L := by omega
      have HR : Hid (Mm wr b g (layR xs rs) ∧ Keeps (· = g) w wr) := by
        rw [List.take_of_length_le (by have := HS.out.2.1; omega)] at hmr
        exact ⟨hmr, hk⟩
      clear hk hmr
      go_wp2
      go_ret
      exact ⟨rfl, HR.out⟩

/-- A port that was taken out of the memory. -/
structure Pr where
  q : Nat
  G : Nat
  x : Rw
def Pr.rr (n d : Nat) (t : Pr) : Rr := ⟨t.q, 3, t.G, enc 3 n d t.x⟩

set_option maxRecDepth 20000 in
set_option maxHeartbeats 1000000 in
theorem bringAll_any (b0 o0 c0_1 : Nat) (m : List UInt32) (a : Option Addr) (c n d M : Nat) (ps : List Pr) (w : World) (hs : SegR w a n d (ps.map (Pr.rr n d))) (ha : ∀ x, a = some x → ∀ t ∈ ps, x.block ≠ t.G)
    (hr : ∀ t ∈ ps, t.x.Ok 3 n d ∧ Rb w t.G 3 n d (enc 3 n d t.x) ∧ b0 ≠ t.G) (hd : ∀ (i k : Nat) (s t : Pr), ps[i]? = some s → ps[k]? = some t → i ≠ k → s.G ≠ t.G)
    (hm : SegW w (some ⟨b0, o0, none⟩) m) (h1 : 1 ≤ m.length) (h2 : m.length ≤ n) (hl : ps.length ≤ 100) :
    Calls Try.prog 48 #[.slice (some ⟨b0, o0, none⟩) m.length c0_1, .slice a ps.length c] w fun e w' => e = .returned (.tuple #[]) ∧ (∀ t ∈ ps, Rb w' t.G 3 n d (enc 3 n d (t.x.bring d m))) ∧ Keeps (fun k => ∃ t ∈ ps, k = t.G) w w' := by
  obtain ⟨L, hL⟩ : ∃ L, L = ps.length := ⟨_, rfl⟩
  obtain ⟨k, hk⟩ : ∃ k, k = m.length := ⟨_, rfl⟩
  have HS : Hid (SegR w a n d (ps.map (Pr.rr n d)) ∧ L = ps.length ∧ (∀ t ∈ ps, t.x.Ok 3 n d ∧ Rb w t.G 3 n d (enc 3 n d t.x) ∧ b0 ≠ t.G) ∧ (∀ x, a = some x → ∀ t ∈ ps, x.block ≠ t.G)) := ⟨hs, hL, hr, ha⟩
  have HD : Hid (∀ (i k : Nat) (s t : Pr), ps[i]? = some s → ps[k]? = some t → i ≠ k → s.G ≠ t.G) := hd
  have HM : Hid (SegW w (some ⟨b0, o0, none⟩) m ∧ 1 ≤ m.length ∧ m.length ≤ n ∧ k = m.length) := ⟨hm, h1, h2, hk⟩
  rw [← hL] at hl ⊢
  rw [← hk]
  have hl2 : (L : Int) ≤ 100 := by omega
  clear hs hL hr ha hm hd h1 h2 hk
  go_enter Try.func48, Try.ntmps48
  go_wp2
  go_loopw [8] (fun i wr => ∃ j : Nat, j ≤ L ∧ i = .int .i64 j ∧ (∀ (i : Nat) (t : Pr), ps[i]? = some t → Rb wr t.G 3 n d (enc 3 n d (if i < j then t.x.bring d m else t.x))) ∧ Keeps (fun k => ∃ t ∈ ps, k = t.G) w wr) (fun i _ => L - (intOf i).toNat)
  case atStart => exact ⟨0, by omega, rfl, fun i t ht => by rw [if_neg (by omega)]; exact (HS.out.2.2.1 t (List.mem_of_getElem? ht)).2.1, Keeps.refl _ _⟩
  case round =>
    obtain ⟨j, hj, rfl, hrr, hk⟩ := hrel
    by_cases hlt : j < L
    · have hjx : j < ps.length := by rw [← HS.out.2.1]; exact hlt
      have hlt' : (j : Int) < L := by omega
      obtain ⟨t, ht⟩ : ∃ t, ps[j]? = some t := ⟨_, List.getElem?_eq_getElem hjx⟩
      have hmem := List.mem_of_getElem? ht
      have hk0 : SegR wr a n d (ps.map (Pr.rr n d)) := HS.out.1.kept hk fun x hx ⟨s, hs, e⟩ => HS.out.2.2.2 x hx s hs e
      obtain ⟨gg, o, rfl, c0, c1, c2, c3, c4⟩ := hk0.at (j := j) (r := t.rr n d) (by rw [List.getElem?_map, ht]; rfl)
      obtain ⟨q1, q2, q3⟩ := HS.out.2.2.1 t hmem
      have hRj := hrr j t ht
      rw [if_neg (by omega)] at hRj
      obtain ⟨N, hN⟩ : ∃ N, N = (enc 3 n d t.x).length := ⟨_, rfl⟩
      replace c0 : wr.cell? ⟨gg, o + j * 5, none⟩ = some (.int .i64 t.q) := c0
      replace c1 : wr.cell? ⟨gg, o + j * 5 + 1, none⟩ = some (.int .i64 3) := c1
      replace c4 : wr.cell? ⟨gg, o + j * 5 + 4, none⟩ = some (.slice (some ⟨t.G, 0, none⟩) N N) := by rw [hN]; exact c4
      obtain ⟨W3, hW3⟩ : ∃ W3, W3 = wr.alloc (.cells #[.int .i64 t.q, .int .i64 3, .int .i64 n, .int .i64 d, .slice (some ⟨t.G, 0, none⟩) N N] 75) := ⟨_, rfl⟩
      have hk3 : Keeps (fun _ => False) wr W3 := by rw [hW3]; exact (Keeps.refl _ wr).alloc _
      have hk3' : Keeps (fun k => ∃ t ∈ ps, k = t.G) w W3 := hk.trans hk3 fun _ _ e => e.elim
      have hmW : SegW W3 (some ⟨b0, o0, none⟩) m := HM.out.1.kept hk3' fun x hx ⟨s, hs, e⟩ => by cases hx; exact (HS.out.2.2.1 s hs).2.2 e
      have hC := bring_any t.q t.G 3 n d N (enc 3 n d t.x) W3 b0 o0 c0_1 m rfl (hRj.grown hk3) hN (by rw [fst_enc (.inr rfl) q1 hRj.d2]; exact q1.f) (by rw [cnt_enc (.inr rfl) q1 hRj.d2]; exact q1.m) hmW q3 HM.out.2.1 HM.out.2.2.1
      rw [bringL_enc q1 hRj.d2 HM.out.2.2.1, ← HM.out.2.2.2] at hC
      have HC : Hid (Calls Try.prog 66 #[.agg #[.int .i64 t.q, .int .i64 3, .int .i64 n, .int .i64 d, .slice (some ⟨t.G, 0, none⟩) N N], .slice (some ⟨b0, o0, none⟩) k c0_1] W3 fun e w' => e = .returned (.tuple #[]) ∧ Blk w' t.G (wvs (enc 3 n d (t.x.bring d m))) 52 ∧ Keeps (· = t.G) W3 w') := hC
      have HR : Hid (∀ w4, Blk w4 t.G (wvs (enc 3 n d (t.x.bring d m))) 52 → Keeps (· = t.G) W3 w4 → (∀ (i : Nat) (s : Pr), ps[i]? = some s → Rb w4 s.G 3 n d (enc 3 n d (if i < j + 1 then s.x.bring d m else s.x))) ∧ Keeps (fun k => ∃ t ∈ ps, k = t.G) w w4) := fun w4 hb4 k4 => by
        refine ⟨fun i s hs => ?_, hk3'.trans k4 fun b hb e => ⟨t, hmem, e⟩⟩
        by_cases hij : i = j
        · subst hij
          rw [ht] at hs
          cases hs
          rw [if_pos (by omega)]
          exact ⟨hb4, enc_length (.inr rfl) (q1.bring ⟨HM.out.2.1, HM.out.2.2.1⟩), .inr rfl, hRj.n1, hRj.n2, hRj.d1, hRj.d2⟩
        · have := ((hrr i s hs).grown hk3).kept k4 (HD.out i j s t hs ht hij)
          by_cases hi2 : i < j
          · rw [if_pos hi2] at this; rw [if_pos (by omega)]; exact this
          · rw [if_neg hi2] at this; rw [if_neg (by omega)]; exact this
      obtain ⟨tq, htq⟩ : ∃ q, q = t.q := ⟨_, rfl⟩
      obtain ⟨tG, htG⟩ : ∃ q, q = t.G := ⟨_, rfl⟩
      rw [← htq] at c0
      rw [← htG] at c4
      rw [← htq, ← htG] at HC
      rw [← htG] at HR
      have HW1 : Hid (W3 = wr.alloc (.cells #[.int .i64 tq, .int .i64 3, .int .i64 n, .int .i64 d, .slice (some ⟨tG, 0, none⟩) N N] 75)) := by rw [htq, htG]; exact hW3
      clear hC hk hk3 hk3' hW3 ht hmem hjx hj q1 q2 q3 hk0 hRj hrr hN hmW htq htG
      go_wp2_with fail
      rw [← HW1.out]
      refine HC.out.mono ?_
      rintro e w4 ⟨rfl, hb4, hk4⟩
      have HK4 : Hid (_ ∧ Keeps _ _ _) := HR.out w4 hb4 hk4
      clear hb4 hk4 HC HR
      go_wp2
      go_roundw
      case rel => exact ⟨j + 1, by omega, by go_num, HK4.out.1, HK4.out.2⟩
      case measure => simp [intOf]; omega
    · obtain rfl : j = L := by omega
      have HR : Hid ((∀ t ∈ ps, Rb wr t.G 3 n d (enc 3 n d (t.x.bring d m))) ∧ Keeps (fun k => ∃ t ∈ ps, k = t.G) w wr) := by
        refine ⟨fun t ht => ?_, hk⟩
        obtain ⟨i, hi, rfl⟩ := List.getElem_of_mem ht
        have := hrr i _ (List.getElem?_eq_getElem hi)
        rw [if_pos (by have := HS.out.2.1; omega)] at this
        exact this
      clear hk hrr
      go_wp2
      go_end0
      exact ⟨rfl, HR.out⟩

end Go.Proofs.Ytekijhhpldnmnaa
namespace Go.Proofs.Ytekijhhpldnmnaa
open Go.RowKit
set_option linter.unusedVariables false
set_option linter.unusedSimpArgs false

def flatR (n d : Nat) (rs : List Rr) : List Value := rs.flatMap (Rr.vs n d)
theorem flatR_length (n d : Nat) (rs : List Rr) : (flatR n d rs).length = rs.length * 5 := by
  induction rs with
  | nil => rfl
  | cons b bs ih => rw [flatR, List.flatMap_cons, List.length_append, show (bs.flatMap (Rr.vs n d)).length = bs.length * 5 from ih, List.length_cons]; show 5 + _ = _; omega
theorem flatR_get {n d : Nat} {rs : List Rr} {j : Nat} {b : Rr} (h : rs[j]? = some b) {r : Nat} {u : Value} (hu : (b.vs n d)[r]? = some u) : (flatR n d rs)[j * 5 + r]? = some u := by
  have hr : r < 5 := (List.getElem?_eq_some_iff.1 hu).1
  induction rs generalizing j with
  | nil => simp at h
  | cons c bs ih =>
    have e : flatR n d (c :: bs) = c.vs n d ++ flatR n d bs := rfl
    have hc : (c.vs n d).length = 5 := rfl
    rw [e]
    cases j with
    | zero =>
      simp at h
      subst h
      rw [List.getElem?_append_left (by omega), Nat.zero_mul, Nat.zero_add]; exact hu
    | succ j =>
      rw [List.getElem?_append_right (by omega), hc, show (j + 1) * 5 + r - 5 = j * 5 + r by omega]
      exact ih (by simpa using h)
theorem segR_of_owns {w : World} {v : Value} {n d : Nat} {rs : List Rr} (h : w.ownsRow 0 75 5 v rs.length (flatR n d rs)) : ∃ a c, v = .slice a rs.length c ∧ SegR w a n d rs ∧ ∀ x, a = some x → v.ownBlock = some x.block := by
  have hcl := fun g hg => h.cells (g := g) hg
  rcases h.2 with ⟨rfl, h0⟩ | ⟨g, cap, cur, rfl, _⟩
  · exact ⟨none, 0, by rw [h0], .inl (List.eq_nil_of_length_eq_zero h0), fun x e => by cases e⟩
  · refine ⟨_, cap, rfl, .inr ⟨g, 0, rfl, fun j b hb => ?_⟩, fun x e => by cases e; rfl⟩
    have q : ∀ r u, (b.vs n d)[r]? = some u → w.cell? ⟨g, 0 + j * 5 + r, none⟩ = some u := fun r u hu => by
      have := hcl g rfl _ _ (flatR_get hb hu)
      rw [addr_add] at this
      rw [Nat.add_assoc]
      exact this
    exact ⟨q 0 _ rfl, q 1 _ rfl, q 2 _ rfl, q 3 _ rfl, q 4 _ rfl⟩
theorem owns_lt {w : World} {e : TypeId} {size n : Nat} {v : Value} {vs : List Value} (h : w.ownsRow 0 e size v n vs) : ∀ k, v.ownBlock = some k → k < w.heap.size := by
  intro k hk
  rcases h.2 with ⟨rfl, _⟩ | ⟨g, cap, cur, rfl, _, hg, _⟩
  · cases hk
  · cases hk; exact (Array.getElem?_eq_some_iff.1 hg).1

theorem Try.info75 : (Try.prog.info? 75).map (fun i => (i.zero, i.size, i.bytes)) = some (some (.agg #[.int .i64 0, .int .i64 0, .int .i64 0, .int .i64 0, .slice none 0 0]), 5, 56) := by kernel_rfl

/-- append of one row. -/
theorem append_row {w : World} (n d : Nat) (x : Rr) (v : Value) (m : Nat) (vs : List Value) (hown : w.ownsRow 0 75 5 v m vs) (hn : m ≤ 100) :
    ∃ v' W', (∀ ty, (Builtin.append_ #[81, 81] ty #[v, .slice (some ⟨w.heap.size, 0, none⟩) 1 1]).run Try.prog (w.alloc (.cells (x.vs n d).toArray 75)) = .ok v' W') ∧ W'.ownsRow 0 75 5 v' (m + 1) (vs ++ x.vs n d) ∧
      (v'.ownBlock = v.ownBlock ∨ ∃ k, v'.ownBlock = some k ∧ w.heap.size ≤ k) ∧ Keeps (fun k => some k = v.ownBlock) w W' := by
  obtain ⟨i0, hi, hz0, hz1, hz2⟩ := info_parts Try.info75
  exact append_new 81 75 i0 _ 5 56 Try.underlying81 hi hz0 hz1 hz2 rfl (by omega) v m vs hown (x.vs n d).toArray rfl (by intro u hu; simp [Rr.vs] at hu; rcases hu with rfl | rfl | rfl | rfl | rfl <;> rfl) (by unfold maxLen; omega) (by omega)

/-- While ports are taken out. -/
structure TpI (w wr : World) (v : Value) (xs : List UInt32) (n d : Nat) (ports : List Int) (rs : List Rr) : Prop where
  own : wr.ownsRow 0 75 5 v rs.length (flatR n d rs)
  each : ∀ (i : Nat) (r : Rr), rs[i]? = some r → r.h = 3 ∧ (∃ q, ports[i]? = some q ∧ 0 ≤ q ∧ q + (rsz 3 n d : Int) ≤ xs.length ∧ r.p = q.toNat ∧ r.l = win xs q.toNat (rsz 3 n d)) ∧ Rb wr r.G 3 n d r.l ∧ w.heap.size ≤ r.G ∧ ∀ k, v.ownBlock = some k → k ≠ r.G
  dist : ∀ (i k : Nat) (r s : Rr), rs[i]? = some r → rs[k]? = some s → i ≠ k → r.G ≠ s.G
  new : ∀ k, v.ownBlock = some k → w.heap.size ≤ k
  k : Keeps (fun _ => False) w wr

theorem TpI.step {w wr w2 W3 : World} {v : Value} {xs : List UInt32} {n d : Nat} {ports : List Int} {rs : List Rr} (h : TpI w wr v xs n d ports rs) (hl : rs.length ≤ 100) (q : Int) (hq : ports[rs.length]? = some q) (q0 : 0 ≤ q) (q1 : q + (rsz 3 n d : Int) ≤ xs.length)
    (G : Nat) (hG : wr.heap.size ≤ G) (hR : Rb w2 G 3 n d (win xs q.toNat (rsz 3 n d))) (k2 : Keeps (fun _ => False) wr w2) (k3 : Keeps (fun _ => False) w2 W3) :
    ∃ v' W', (∀ ty, (Builtin.append_ #[81, 81] ty #[v, .slice (some ⟨W3.heap.size, 0, none⟩) 1 1]).run Try.prog (W3.alloc (.cells ((⟨q.toNat, 3, G, win xs q.toNat (rsz 3 n d)⟩ : Rr).vs n d).toArray 75)) = .ok v' W') ∧ TpI w W' v' xs n d ports (rs ++ [⟨q.toNat, 3, G, win xs q.toNat (rsz 3 n d)⟩]) := by
  have k23 : Keeps (fun _ => False) wr W3 := k2.trans k3 fun _ _ e => e
  have ho := owns_kept h.own k23 (fun _ _ e => e)
  obtain ⟨v', W', hr, hown, hf, hK⟩ := append_row n d ⟨q.toNat, 3, G, win xs q.toNat (rsz 3 n d)⟩ v rs.length _ ho hl
  have hvl := owns_lt h.own
  have hGl := hR.blk.lt
  have hs2 := k2.size
  have hs3 := k3.size
  refine ⟨v', W', hr, ?_, ?_, ?_, ?_, ?_⟩
  · rw [List.length_append]
    have e : flatR n d (rs ++ [⟨q.toNat, 3, G, win xs q.toNat (rsz 3 n d)⟩]) = flatR n d rs ++ (⟨q.toNat, 3, G, win xs q.toNat (rsz 3 n d)⟩ : Rr).vs n d := by
      unfold flatR; rw [List.flatMap_append]; simp
    rw [e]; exact hown
  · intro i r hi
    have hold : ∀ g, g < w2.heap.size → (∀ k, v.ownBlock = some k → k ≠ g) → ∀ k, v'.ownBlock = some k → k ≠ g := fun g hg hv k hk => by
      rcases hf with e | ⟨z, e, hz⟩
      · exact hv k (by rw [← e]; exact hk)
      · rw [e] at hk; cases hk; omega
    by_cases hlt : i < rs.length
    · rw [List.getElem?_append_left hlt] at hi
      obtain ⟨e1, e2, e3, e4, e5⟩ := h.each i r hi
      exact ⟨e1, e2, (e3.grown k23).kept hK (fun e => e5 r.G e.symm rfl), e4, hold r.G (by have := e3.blk.lt; omega) e5⟩
    · have hi2 : i = rs.length := by
        have := (List.getElem?_eq_some_iff.1 hi).1
        simp at this; omega
      subst hi2
      rw [List.getElem?_append_right (Nat.le_refl _), Nat.sub_self] at hi
      cases hi
      have hvG : ∀ k, v.ownBlock = some k → k ≠ G := fun k hk => by have := hvl k hk; omega
      exact ⟨rfl, ⟨q, hq, q0, q1, rfl, rfl⟩, (hR.grown k3).kept hK (fun e => hvG G e.symm rfl), by have := h.k.size; show w.heap.size ≤ G; omega, hold G hGl hvG⟩
  · intro i k r s hi hk hne
    have hb : ∀ (i : Nat) (r : Rr), i < rs.length → rs[i]? = some r → r.G ≠ G := fun i r hlt hi => by
      have := (h.each i r hi).2.2.1.blk.lt; omega
    by_cases hlt : i < rs.length
    · rw [List.getElem?_append_left hlt] at hi
      by_cases hlt2 : k < rs.length
      · rw [List.getElem?_append_left hlt2] at hk
        exact h.dist i k r s hi hk hne
      · have hk2 : k = rs.length := by have := (List.getElem?_eq_some_iff.1 hk).1; simp at this; omega
        subst hk2
        rw [List.getElem?_append_right (Nat.le_refl _), Nat.sub_self] at hk
        cases hk
        exact hb i r hlt hi
    · have hi2 : i = rs.length := by have := (List.getElem?_eq_some_iff.1 hi).1; simp at this; omega
      subst hi2
      rw [List.getElem?_append_right (Nat.le_refl _), Nat.sub_self] at hi
      cases hi
      have hlt2 : k < rs.length := by have := (List.getElem?_eq_some_iff.1 hk).1; simp at this; omega
      rw [List.getElem?_append_left hlt2] at hk
      exact fun e => hb k s hlt2 hk e.symm
  · intro k hk
    rcases hf with e | ⟨z, e, hz⟩
    · exact h.new k (by rw [← e]; exact hk)
    · rw [e] at hk; cases hk; have := h.k.size; omega
  · exact (h.k.trans k23 fun _ _ e => e).trans hK fun b hb e => by have := h.new b e.symm; omega

/-- Behind takePorts. -/
def TpP (w : World) (xs : List UInt32) (n d : Nat) (ports : List Int) (e : Ending) (w' : World) : Prop :=
  ((∀ q ∈ ports, 0 ≤ q ∧ q + (rsz 3 n d : Int) ≤ xs.length) ∧ ∃ v rs, rs.length = ports.length ∧ e = .returned (.tuple #[v, .int .i64 0]) ∧ TpI w w' v xs n d ports rs) ∨
  (¬ (∀ q ∈ ports, 0 ≤ q ∧ q + (rsz 3 n d : Int) ≤ xs.length) ∧ e = .returned (.tuple #[.slice none 0 0, .int .i64 51]) ∧ Keeps (fun _ => False) w w')

set_option maxRecDepth 20000 in
set_option maxHeartbeats 2000000 in
theorem takePorts_any (b g : Nat) (xs : List UInt32) (n d : Nat) (a : Option Addr) (c : Nat) (ports : List Int) (w : World) (hm : Mm w b g xs) (he : fitE false n d = 0) (hs : SegI w a ports) (hl : ports.length ≤ 100) (hpp : ∀ q ∈ ports, q ≤ 9223372036854775807) :
    Calls Try.prog 45 #[.pointer (some ⟨b, 0, none⟩), .int .i64 n, .int .i64 d, .slice a ports.length c] w fun e w' => TpP w xs n d ports e w' := by
  obtain ⟨L, hL⟩ : ∃ L, L = ports.length := ⟨_, rfl⟩
  have HS : Hid (SegI w a ports ∧ L = ports.length ∧ (∀ q ∈ ports, q ≤ 9223372036854775807) ∧ Mm w b g xs ∧ fitE false n d = 0) := ⟨hs, hL, hpp, hm, he⟩
  rw [← hL] at hl ⊢
  have hl2 : (L : Int) ≤ 100 := by omega
  clear hs hL hpp hm he
  go_enter Try.func45, Try.ntmps45
  go_wp2
  go_loopw [10, 17] (fun v i wr => ∃ (j : Nat) (rs : List Rr), j ≤ L ∧ i = .int .i64 j ∧ rs.length = j ∧ TpI w wr v xs n d ports rs ∧ ∀ i, i < j → ∀ q, ports[i]? = some q → 0 ≤ q ∧ q + (rsz 3 n d : Int) ≤ xs.length) (fun _ i _ => L - (intOf i).toNat)
  case atStart =>
    refine ⟨0, [], by omega, rfl, rfl, ⟨⟨rfl, .inl ⟨rfl, rfl⟩⟩, fun i r hi => (by simp at hi), fun i k r s hi => (by simp at hi), fun k hk => (by cases hk), Keeps.refl _ _⟩, fun i hi => absurd hi (by omega)⟩
  case round =>
    obtain ⟨j, rs, hj, rfl, hrs, hT, hq⟩ := hrel
    by_cases hlt : j < L
    · have hjx : j < ports.length := by rw [← HS.out.2.1]; exact hlt
      have hlt' : (j : Int) < L := by omega
      rcases HS.out.1.kept hT.k (fun _ _ e => e) with h0 | ⟨g1, o1, rfl, hc1⟩
      · rw [h0] at hjx; simp at hjx
      have d1 := hc1 j hjx
      have hpj : ports[j]? = some (ports[j]'hjx) := List.getElem?_eq_getElem hjx
      obtain ⟨q, hqe⟩ : ∃ q, q = ports[j]'hjx := ⟨_, rfl⟩
      rw [← hqe] at d1 hpj
      have hqm := HS.out.2.2.1 q (List.mem_of_getElem? hpj)
      have hMr := HS.out.2.2.2.1.kept hT.k (fun e => e) (fun e => e)
      obtain ⟨av, cv, hav, _, _⟩ := segR_of_owns hT.own
      subst hav
      by_cases hfit : 0 ≤ q ∧ q + (rsz 3 n d : Int) ≤ xs.length
      · obtain ⟨q', rfl⟩ : ∃ k : Nat, q = k := ⟨q.toNat, by omega⟩
        have HC : Hid (Calls Try.prog 44 #[.pointer (some ⟨b, 0, none⟩), .int .i64 q', .int .i64 3, .int .i64 n, .int .i64 d] wr fun e w' => ∃ G, wr.heap.size ≤ G ∧ e = .returned (.tuple #[.agg #[.int .i64 q', .int .i64 3, .int .i64 n, .int .i64 d, .slice (some ⟨G, 0, none⟩) (rsz 3 n d) (rsz 3 n d)], .int .i64 0]) ∧ Rb w' G 3 n d (win xs q' (rsz 3 n d)) ∧ Keeps (fun _ => False) wr w') := take_ok b g xs q' 3 n d wr hMr (.inr rfl) HS.out.2.2.2.2 (by omega)
        have hT2 := hT
        rw [hrs] at hT2
        have HT : Hid (TpI w wr (.slice av j cv) xs n d ports rs ∧ rs.length = j ∧ ports[rs.length]? = some (q' : Int) ∧ (0 ≤ (q' : Int) ∧ (q' : Int) + (rsz 3 n d : Int) ≤ xs.length) ∧ (∀ i, i < j → ∀ q, ports[i]? = some q → 0 ≤ q ∧ q + (rsz 3 n d : Int) ≤ xs.length) ∧ (win xs q' (rsz 3 n d)).length = rsz 3 n d) := ⟨hT2, hrs, by rw [hrs]; exact hpj, hfit, hq, win_length _ _ _ (by omega)⟩
        rw [hrs]
        clear hT hT2 hq hfit hpj hqm hMr hc1 hqe hjx hj hrs
        obtain ⟨M, hM⟩ : ∃ M, M = rsz 3 n d := ⟨_, rfl⟩
        rw [← hM] at HC
        have HMM : Hid (M = rsz 3 n d) := hM
        clear hM
        go_wp2_with fail
        refine HC.out.mono ?_
        rintro e w2 ⟨G, hG, rfl, hR, hk2⟩
        obtain ⟨W3, hW3⟩ : ∃ W3, W3 = w2.alloc (.cells #[.int .i64 q', .int .i64 3, .int .i64 n, .int .i64 d, .slice (some ⟨G, 0, none⟩) M M] 75) := ⟨_, rfl⟩
        have hk3 : Keeps (fun _ => False) w2 W3 := by rw [hW3]; exact (Keeps.refl _ w2).alloc _
        obtain ⟨v', W', hrun, hT'⟩ := HT.out.1.step (W3 := W3) (by have := HT.out.2.1; omega) q' HT.out.2.2.1 HT.out.2.2.2.1.1 HT.out.2.2.2.1.2 G hG (by rw [Int.toNat_natCast, ← HMM.out]; exact hR) hk2 hk3
        have hsz3 : W3.heap.size = w2.heap.size + 1 := by rw [hW3]; simp
        have hvs : ((⟨(q' : Int).toNat, 3, G, win xs (q' : Int).toNat (rsz 3 n d)⟩ : Rr).vs n d).toArray = #[.int .i64 q', .int .i64 3, .int .i64 n, .int .i64 d, .slice (some ⟨G, 0, none⟩) M M] := by
          unfold Rr.vs
          simp only [Int.toNat_natCast]
          rw [HT.out.2.2.2.2.2, ← HMM.out]
          rfl
        rw [hvs, hsz3, hW3] at hrun
        have HAP : Hid (∀ ty, _) := hrun
        have HT' : Hid (TpI w W' v' xs n d ports (rs ++ [⟨(q' : Int).toNat, 3, G, win xs (q' : Int).toNat (rsz 3 n d)⟩])) := hT'
        clear hW3 hk3 hrun hT' hG hR hk2 HC hsz3 hvs
        go_wp2_with (at_builtin; go_must (refine wpList_append_run rfl _ _ 81 81 rfl (.slice av j cv) (.slice (some ⟨w2.heap.size + 1, 0, none⟩) 1 1) v' W' rfl rfl HAP.out ?_))
        go_roundw
        case rel =>
          refine ⟨j + 1, _, by omega, by go_num, by rw [List.length_append, HT.out.2.1]; rfl, HT'.out, all_step HT.out.2.2.2.2.1 fun q hq => ?_⟩
          have h5 := HT.out.2.2.1
          rw [HT.out.2.1] at h5
          rw [h5] at hq
          cases hq
          exact HT.out.2.2.2.1
        case measure => simp [intOf]; omega
      · have hte : tkE false xs.length q 3 n d = 51 := by
          unfold tkE
          rw [if_neg (fun e => e HS.out.2.2.2.2), if_neg hfit]
        have HC : Hid (Calls Try.prog 44 #[.pointer (some ⟨b, 0, none⟩), .int .i64 q, .int .i64 3, .int .i64 n, .int .i64 d] wr fun e w' => e = .returned (.tuple #[rw0, .int .i64 51]) ∧ Keeps (fun _ => False) wr w') := by
          have := take_no false b g xs q 3 n d wr (fun _ => hMr) (by omega) hqm (by rw [hte]; omega)
          rw [hte] at this
          exact this
        have HF : Hid (¬ (∀ q ∈ ports, 0 ≤ q ∧ q + (rsz 3 n d : Int) ≤ xs.length) ∧ Keeps (fun _ => False) w wr) := ⟨fun h => hfit (h q (List.mem_of_getElem? hpj)), hT.k⟩
        rw [hrs]
        clear hT hq hfit hpj hqm hMr hc1 hqe hjx hj hrs hte
        go_wp2_with fail
        refine HC.out.mono ?_
        rintro e w2 ⟨rfl, hk2⟩
        have HK2 : Hid (Keeps _ _ _) := hk2
        clear hk2 HC
        go_wp2
        go_ret2
        exact .inr ⟨HF.out.1, rfl, (HF.out.2.trans HK2.out fun _ _ e => e).alloc _⟩
    · obtain rfl : j = L := by omega
      have HF : Hid ((∀ q ∈ ports, 0 ≤ q ∧ q + (rsz 3 n d : Int) ≤ xs.length) ∧ rs.length = ports.length) := ⟨fun q hm => by
        obtain ⟨i, hi, rfl⟩ := List.getElem_of_mem hm
        exact hq i (by have := HS.out.2.1; omega) _ (List.getElem?_eq_getElem hi), by rw [hrs]; exact HS.out.2.1⟩
      obtain ⟨av, cv, hav, _, _⟩ := segR_of_owns hT.own
      subst hav
      have HT : Hid (TpI w wr (.slice av rs.length cv) xs n d ports rs) := hT
      clear hT hq hrs
      go_wp2
      go_ret2
      exact .inl ⟨HF.out.1, _, rs, HF.out.2, rfl, HT.out⟩

end Go.Proofs.Ytekijhhpldnmnaa
namespace Go.Proofs.Ytekijhhpldnmnaa
open Go.RowKit
set_option linter.unusedVariables false
set_option linter.unusedSimpArgs false

def bringN (d : Nat) (x : Rw) (ms : List (List UInt32)) : Rw := ms.foldl (fun x m => x.bring d m) x
theorem bringN_ok {n d : Nat} {x : Rw} (o : x.Ok 3 n d) (ms : List (List UInt32)) (h : ∀ m ∈ ms, 1 ≤ m.length ∧ m.length ≤ n) : (bringN d x ms).Ok 3 n d := by
  induction ms generalizing x with
  | nil => exact o
  | cons m ms ih => exact ih (o.bring (h m (by simp))) (fun k hk => h k (by simp [hk]))
theorem bringN_snoc (d : Nat) (x : Rw) (ms : List (List UInt32)) (j : Nat) (m : List UInt32) (h : ms[j]? = some m) : bringN d x (ms.take (j + 1)) = (bringN d x (ms.take j)).bring d m := by
  unfold bringN
  rw [List.take_add_one, h, List.foldl_append]
  rfl

def inM (xs : List UInt32) (h : Nat) (n d q : Int) : Bool := decide (0 ≤ q ∧ q + (rsz h n d : Int) ≤ xs.length)
def rtM (xs : List UInt32) (h : Nat) (n d q : Int) : Bool := rightB h n.toNat d.toNat (win xs q.toNat (rsz h n d))
def dlE (nil : Bool) (xs : List UInt32) (p n d : Int) (ports : List Int) : Int :=
  if fitE nil n d ≠ 0 then fitE nil n d
  else if 4 < ports.length then 2
  else if inM xs 1 n d p = false then 51
  else if ports.all (inM xs 3 n d) = false then 51
  else if rtM xs 1 n d p = false then 201
  else if ports.all (rtM xs 3 n d) = false then 201 else 0
def dlP (xs : List UInt32) (n d : Int) (ms : List (List UInt32)) (q : Int) : List UInt32 := enc 3 n.toNat d.toNat (bringN d.toNat (rdA xs q 3 n d) ms)
def dlX (xs : List UInt32) (p n d : Int) (ports : List Int) : List UInt32 :=
  lay (ports.foldl (fun ys q => lay ys q.toNat (dlP xs n d (rdA xs p 1 n d).ms q)) xs) p.toNat (List.replicate (rsz 1 n d) 0)

theorem flatR_congr {n d : Nat} {rs ss : List Rr} (hl : rs.length = ss.length) (h : ∀ (i : Nat) (r s : Rr), rs[i]? = some r → ss[i]? = some s → r.vs n d = s.vs n d) : flatR n d rs = flatR n d ss := by
  induction rs generalizing ss with
  | nil =>
    cases ss with
    | nil => rfl
    | cons s ss => simp at hl
  | cons r rs ih =>
    cases ss with
    | nil => simp at hl
    | cons s ss =>
      show r.vs n d ++ flatR n d rs = s.vs n d ++ flatR n d ss
      rw [h 0 r s rfl rfl, ih (by simpa using hl) (fun i r s h1 h2 => h (i + 1) r s h1 h2)]

set_option maxHeartbeats 400000 in
theorem deliver_fit (nil : Bool) (b : Nat) (p n d : Int) (mv : Value) (w : World) (he : fitE nil n d ≠ 0) :
    Calls Try.prog 17 #[mpv nil b, .int .i64 p, .int .i64 n, .int .i64 d, mv] w fun e w' => e = .returned (.int .i64 (fitE nil n d)) ∧ w' = w := by
  have HC : Hid (Calls _ _ _ _ _) := fits_any nil b n d w
  obtain ⟨E, hE⟩ : ∃ E, E = fitE nil n d := ⟨_, rfl⟩
  rw [← hE] at HC he ⊢
  have hE0 : (E != 0) = true := bne_iff_ne.2 he
  obtain ⟨v, hv⟩ : ∃ v, v = (if nil then (none : Option Addr) else some ⟨b, 0, none⟩) := ⟨_, rfl⟩
  unfold mpv at HC ⊢
  rw [← hv] at HC ⊢
  clear hE he hv
  go_enter Try.func17, Try.ntmps17
  go_wp2_with fail
  refine HC.out.mono ?_
  rintro e w1 ⟨rfl, hw⟩
  obtain rfl := hw.symm
  clear hw HC
  go_wp2
  go_ret
  exact ⟨rfl, rfl⟩

set_option maxHeartbeats 400000 in
theorem deliver_long (b : Nat) (p n d : Int) (a : Option Addr) (k c : Nat) (w : World) (he : fitE false n d = 0) (hk : 4 < k) :
    Calls Try.prog 17 #[.pointer (some ⟨b, 0, none⟩), .int .i64 p, .int .i64 n, .int .i64 d, .slice a k c] w fun e w' => e = .returned (.int .i64 2) ∧ w' = w := by
  have HC : Hid (Calls Try.prog 38 #[.pointer (some ⟨b, 0, none⟩), .int .i64 n, .int .i64 d] w fun e w' => e = .returned (.int .i64 0) ∧ w' = w) := by
    have q := fits_any false b n d w
    rw [he] at q
    exact q
  have hk2 : (4 : Int) < (k : Int) := by omega
  clear he hk
  go_enter Try.func17, Try.ntmps17
  go_wp2_with fail
  refine HC.out.mono ?_
  rintro e w1 ⟨rfl, hw⟩
  obtain rfl := hw.symm
  clear hw HC
  go_wp2
  go_ret
  exact ⟨rfl, rfl⟩

set_option maxRecDepth 20000 in
set_option maxHeartbeats 1000000 in
theorem deliver_stage (b g : Nat) (xs : List UInt32) (p : Int) (n d : Nat) (a : Option Addr) (k c : Nat) (w : World) (hm : Mm w b g xs) (hp : p ≤ 9223372036854775807) (he : fitE false n d = 0) (hk : ¬ 4 < k) (hi : ¬ (0 ≤ p ∧ p + (rsz 1 n d : Int) ≤ xs.length)) :
    Calls Try.prog 17 #[.pointer (some ⟨b, 0, none⟩), .int .i64 p, .int .i64 n, .int .i64 d, .slice a k c] w fun e w' => e = .returned (.int .i64 51) ∧ Keeps (fun _ => False) w w' := by
  have HF : Hid (Calls Try.prog 38 #[.pointer (some ⟨b, 0, none⟩), .int .i64 n, .int .i64 d] w fun e w' => e = .returned (.int .i64 0) ∧ w' = w) := by
    have q := fits_any false b n d w
    rw [he] at q
    exact q
  have HC : Hid (Calls Try.prog 44 #[.pointer (some ⟨b, 0, none⟩), .int .i64 p, .int .i64 1, .int .i64 n, .int .i64 d] w fun e w' => e = .returned (.tuple #[rw0, .int .i64 51]) ∧ Keeps (fun _ => False) w w') := take_away b g xs p 1 n d w hm (by omega) he hi hp
  have hk2 : ¬ (4 : Int) < (k : Int) := by omega
  clear he hk hm hp hi
  go_enter Try.func17, Try.ntmps17
  go_wp2_with fail
  refine HF.out.mono ?_
  rintro e w1 ⟨rfl, hw⟩
  obtain rfl := hw.symm
  clear hw HF
  go_wp2_with fail
  refine HC.out.mono ?_
  rintro e w2 ⟨rfl, hk2⟩
  have HK2 : Hid (Keeps _ _ _) := hk2
  clear hk2 HC
  go_wp2
  go_ret
  exact ⟨rfl, HK2.out.alloc _⟩

end Go.Proofs.Ytekijhhpldnmnaa
