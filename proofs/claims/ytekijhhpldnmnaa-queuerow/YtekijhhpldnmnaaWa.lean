import Derived.Test.YtekijhhpldnmnaaV
namespace Go.Proofs.Ytekijhhpldnmnaa
open Go.RowKit
set_option linter.unusedVariables false
set_option linter.unusedSimpArgs false

def layR (xs : List UInt32) (rs : List Rr) : List UInt32 := rs.foldl (fun ys r => lay ys r.p r.l) xs
theorem layR_length (xs : List UInt32) (rs : List Rr) (h : ∀ r ∈ rs, r.p + r.l.length ≤ xs.length) : (layR xs rs).length = xs.length := by
  induction rs generalizing xs with
  | nil => rfl
  | cons r rs ih =>
    have h1 := lay_length xs r.p r.l (h r (by simp))
    show (layR (lay xs r.p r.l) rs).length = _
    rw [ih _ (fun s hs => by rw [h1]; exact h s (by simp [hs])), h1]
theorem layR_snoc (xs : List UInt32) (rs : List Rr) (j : Nat) (r : Rr) (h : rs[j]? = some r) : layR xs (rs.take (j + 1)) = lay (layR xs (rs.take j)) r.p r.l := by
  unfold layR
  rw [List.take_add_one, h, List.foldl_append]
  rfl

set_option maxRecDepth 20000 in
set_option maxHeartbeats 1000000 in
theorem layAll_any (b g : Nat) (xs : List UInt32) (a : Option Addr) (c n d : Nat) (rs : List Rr) (w : World) (hm : Mm w b g xs) (hs : SegR w a n d rs) (ha : ∀ x, a = some x → x.block ≠ g) (hr : ∀ r ∈ rs, Blk w r.G (wvs r.l) 52 ∧ r.G ≠ g ∧ r.p + r.l.length ≤ xs.length) (hl : rs.length ≤ 100) :
    Calls Try.prog 50 #[.pointer (some ⟨b, 0, none⟩), .slice a rs.length c] w fun e w' => e = .returned (.int .i64 0) ∧ Mm w' b g (layR xs rs) ∧ Keeps (· = g) w w' := by
  obtain ⟨L, hL⟩ : ∃ L, L = rs.length := ⟨_, rfl⟩
  have HS : Hid (SegR w a n d rs ∧ L = rs.length ∧ (∀ r ∈ rs, Blk w r.G (wvs r.l) 52 ∧ r.G ≠ g ∧ r.p + r.l.length ≤ xs.length) ∧ (∀ x, a = some x → x.block ≠ g) ∧ Mm w b g xs) := ⟨hs, hL, hr, ha, hm⟩
  rw [← hL] at hl ⊢
  have hl2 : (L : Int) ≤ 100 := by omega
  clear hs hL hr ha hm
  go_enter Try.func50, Try.ntmps50
  go_wp2
  go_loopw [10] (fun i wr => ∃ j : Nat, j ≤ L ∧ i = .int .i64 j ∧ Mm wr b g (layR xs (rs.take j)) ∧ Keeps (· = g) w wr) (fun i _ => L - (intOf i).toNat)
  case atStart => exact ⟨0, by omega, rfl, by simpa [layR] using HS.out.2.2.2.2, Keeps.refl _ _⟩
  case round =>
    obtain ⟨j, hj, rfl, hmr, hk⟩ := hrel
    by_cases hlt : j < L
    · have hjx : j < rs.length := by rw [← HS.out.2.1]; exact hlt
      have hlt' : (j : Int) < L := by omega
      obtain ⟨r, hr⟩ : ∃ r, rs[j]? = some r := ⟨_, List.getElem?_eq_getElem hjx⟩
      have hk0 : SegR wr a n d rs := HS.out.1.kept hk fun x hx => HS.out.2.2.2.1 x hx
      obtain ⟨gg, o, rfl, c0, c1, c2, c3, c4⟩ := hk0.at hr
      obtain ⟨q1, q2, q3⟩ := HS.out.2.2.1 r (List.mem_of_getElem? hr)
      obtain ⟨W3, hW3⟩ : ∃ W3, W3 = wr.alloc (.cells (rwc r.p r.h n d r.G r.l.length) 75) := ⟨_, rfl⟩
      have hk3 : Keeps (fun _ => False) wr W3 := by rw [hW3]; exact (Keeps.refl _ wr).alloc _
      have hk3' : Keeps (· = g) w W3 := hk.trans hk3 fun _ _ e => e.elim
      have hfl := layR_length xs (rs.take j) (fun s hs => (HS.out.2.2.1 s (List.mem_of_mem_take hs)).2.2)
      have HC : Hid (Calls _ _ _ _ _) := rlay_any b g (layR xs (rs.take j)) r.p r.h n d r.G r.l.length r.l W3 (hmr.kept hk3 (fun e => e) (fun e => e)) (q1.kept hk3' q2) rfl (by rw [hfl]; exact q3)
      have HW : Hid (Keeps (· = g) w W3 ∧ rs[j]? = some r) := ⟨hk3', hr⟩
      obtain ⟨p, hp⟩ : ∃ p, p = r.p := ⟨_, rfl⟩
      obtain ⟨h, hh⟩ : ∃ p, p = r.h := ⟨_, rfl⟩
      obtain ⟨G, hG⟩ : ∃ p, p = r.G := ⟨_, rfl⟩
      obtain ⟨N, hN⟩ : ∃ p, p = r.l.length := ⟨_, rfl⟩
      have HPL : Hid (layR xs (rs.take (j + 1)) = lay (layR xs (rs.take j)) p r.l) := by rw [hp]; exact layR_snoc xs rs j r hr
      rw [← hp, ← hh, ← hG, ← hN] at HC
      rw [← hp] at c0
      rw [← hh] at c1
      rw [← hG, ← hN] at c4
      have HW1 : Hid (W3 = wr.alloc (.cells (rwc p h n d G N) 75)) := by rw [hp, hh, hG, hN]; exact hW3
      clear hk hk3 hk3' hW3 hr hjx hj hp hh hG hN q1 q2 q3 hk0 hmr hfl
      go_wp2_with fail
      rw [← HW1.out]
      refine HC.out.mono ?_
      rintro e w4 ⟨rfl, hm4, hk4⟩
      have HK4 : Hid (Mm _ _ _ _ ∧ Keeps _ _ _) := ⟨hm4, hk4⟩
      clear hm4 hk4 HC
      go_wp2
      go_roundw
      case rel => exact ⟨j + 1, by omega, by go_num, by rw [HPL.out]; exact HK4.out.1, HW.out.1.trans HK4.out.2 fun _ _ e => e⟩
      case measure => simp [intOf]; omega
    · obtain rfl : j = L := by omega
      have HR : Hid (Mm wr b g (layR xs rs) ∧ Keeps (· = g) w wr) := by
        rw [List.take_of_length_le (by have := HS.out.2.1; omega)] at hmr
        exact ⟨hmr, hk⟩
      clear hk hmr
      go_wp2
      go_ret
      exact ⟨rfl, HR.out⟩

/-- A port that was taken out of the memory. -/
structure Pr where
  q : Nat
  G : Nat
  x : Rw
def Pr.rr (n d : Nat) (t : Pr) : Rr := ⟨t.q, 3, t.G, enc 3 n d t.x⟩

set_option maxRecDepth 20000 in
set_option maxHeartbeats 1000000 in
theorem bringAll_any (b0 o0 c0_1 : Nat) (m : List UInt32) (a : Option Addr) (c n d M : Nat) (ps : List Pr) (w : World) (hs : SegR w a n d (ps.map (Pr.rr n d))) (ha : ∀ x, a = some x → ∀ t ∈ ps, x.block ≠ t.G)
    (hr : ∀ t ∈ ps, t.x.Ok 3 n d ∧ Rb w t.G 3 n d (enc 3 n d t.x) ∧ b0 ≠ t.G) (hd : ∀ (i k : Nat) (s t : Pr), ps[i]? = some s → ps[k]? = some t → i ≠ k → s.G ≠ t.G)
    (hm : SegW w (some ⟨b0, o0, none⟩) m) (h1 : 1 ≤ m.length) (h2 : m.length ≤ n) (hl : ps.length ≤ 100) :
    Calls Try.prog 48 #[.slice (some ⟨b0, o0, none⟩) m.length c0_1, .slice a ps.length c] w fun e w' => e = .returned (.tuple #[]) ∧ (∀ t ∈ ps, Rb w' t.G 3 n d (enc 3 n d (t.x.bring d m))) ∧ Keeps (fun k => ∃ t ∈ ps, k = t.G) w w' := by
  obtain ⟨L, hL⟩ : ∃ L, L = ps.length := ⟨_, rfl⟩
  obtain ⟨k, hk⟩ : ∃ k, k = m.length := ⟨_, rfl⟩
  have HS : Hid (SegR w a n d (ps.map (Pr.rr n d)) ∧ L = ps.length ∧ (∀ t ∈ ps, t.x.Ok 3 n d ∧ Rb w t.G 3 n d (enc 3 n d t.x) ∧ b0 ≠ t.G) ∧ (∀ x, a = some x → ∀ t ∈ ps, x.block ≠ t.G)) := ⟨hs, hL, hr, ha⟩
  have HD : Hid (∀ (i k : Nat) (s t : Pr), ps[i]? = some s → ps[k]? = some t → i ≠ k → s.G ≠ t.G) := hd
  have HM : Hid (SegW w (some ⟨b0, o0, none⟩) m ∧ 1 ≤ m.length ∧ m.length ≤ n ∧ k = m.length) := ⟨hm, h1, h2, hk⟩
  rw [← hL] at hl ⊢
  rw [← hk]
  have hl2 : (L : Int) ≤ 100 := by omega
  clear hs hL hr ha hm hd h1 h2 hk
  go_enter Try.func48, Try.ntmps48
  go_wp2
  go_loopw [8] (fun i wr => ∃ j : Nat, j ≤ L ∧ i = .int .i64 j ∧ (∀ (i : Nat) (t : Pr), ps[i]? = some t → Rb wr t.G 3 n d (enc 3 n d (if i < j then t.x.bring d m else t.x))) ∧ Keeps (fun k => ∃ t ∈ ps, k = t.G) w wr) (fun i _ => L - (intOf i).toNat)
  case atStart => exact ⟨0, by omega, rfl, fun i t ht => by rw [if_neg (by omega)]; exact (HS.out.2.2.1 t (List.mem_of_getElem? ht)).2.1, Keeps.refl _ _⟩
  case round =>
    obtain ⟨j, hj, rfl, hrr, hk⟩ := hrel
    by_cases hlt : j < L
    · have hjx : j < ps.length := by rw [← HS.out.2.1]; exact hlt
      have hlt' : (j : Int) < L := by omega
      obtain ⟨t, ht⟩ : ∃ t, ps[j]? = some t := ⟨_, List.getElem?_eq_getElem hjx⟩
      have hmem := List.mem_of_getElem? ht
      have hk0 : SegR wr a n d (ps.map (Pr.rr n d)) := HS.out.1.kept hk fun x hx ⟨s, hs, e⟩ => HS.out.2.2.2 x hx s hs e
      obtain ⟨gg, o, rfl, c0, c1, c2, c3, c4⟩ := hk0.at (j := j) (r := t.rr n d) (by rw [List.getElem?_map, ht]; rfl)
      obtain ⟨q1, q2, q3⟩ := HS.out.2.2.1 t hmem
      have hRj := hrr j t ht
      rw [if_neg (by omega)] at hRj
      obtain ⟨N, hN⟩ : ∃ N, N = (enc 3 n d t.x).length := ⟨_, rfl⟩
      replace c0 : wr.cell? ⟨gg, o + j * 5, none⟩ = some (.int .i64 t.q) := c0
      replace c1 : wr.cell? ⟨gg, o + j * 5 + 1, none⟩ = some (.int .i64 3) := c1
      replace c4 : wr.cell? ⟨gg, o + j * 5 + 4, none⟩ = some (.slice (some ⟨t.G, 0, none⟩) N N) := by rw [hN]; exact c4
      obtain ⟨W3, hW3⟩ : ∃ W3, W3 = wr.alloc (.cells #[.int .i64 t.q, .int .i64 3, .int .i64 n, .int .i64 d, .slice (some ⟨t.G, 0, none⟩) N N] 75) := ⟨_, rfl⟩
      have hk3 : Keeps (fun _ => False) wr W3 := by rw [hW3]; exact (Keeps.refl _ wr).alloc _
      have hk3' : Keeps (fun k => ∃ t ∈ ps, k = t.G) w W3 := hk.trans hk3 fun _ _ e => e.elim
      have hmW : SegW W3 (some ⟨b0, o0, none⟩) m := HM.out.1.kept hk3' fun x hx ⟨s, hs, e⟩ => by cases hx; exact (HS.out.2.2.1 s hs).2.2 e
      have hC := bring_any t.q t.G 3 n d N (enc 3 n d t.x) W3 b0 o0 c0_1 m rfl (hRj.grown hk3) hN (by rw [fst_enc (.inr rfl) q1 hRj.d2]; exact q1.f) (by rw [cnt_enc (.inr rfl) q1 hRj.d2]; exact q1.m) hmW q3 HM.out.2.1 HM.out.2.2.1
      rw [bringL_enc q1 hRj.d2 HM.out.2.2.1, ← HM.out.2.2.2] at hC
      have HC : Hid (Calls Try.prog 66 #[.agg #[.int .i64 t.q, .int .i64 3, .int .i64 n, .int .i64 d, .slice (some ⟨t.G, 0, none⟩) N N], .slice (some ⟨b0, o0, none⟩) k c0_1] W3 fun e w' => e = .returned (.tuple #[]) ∧ Blk w' t.G (wvs (enc 3 n d (t.x.bring d m))) 52 ∧ Keeps (· = t.G) W3 w') := hC
      have HR : Hid (∀ w4, Blk w4 t.G (wvs (enc 3 n d (t.x.bring d m))) 52 → Keeps (· = t.G) W3 w4 → (∀ (i : Nat) (s : Pr), ps[i]? = some s → Rb w4 s.G 3 n d (enc 3 n d (if i < j + 1 then s.x.bring d m else s.x))) ∧ Keeps (fun k => ∃ t ∈ ps, k = t.G) w w4) := fun w4 hb4 k4 => by
        refine ⟨fun i s hs => ?_, hk3'.trans k4 fun b hb e => ⟨t, hmem, e⟩⟩
        by_cases hij : i = j
        · subst hij
          rw [ht] at hs
          cases hs
          rw [if_pos (by omega)]
          exact ⟨hb4, enc_length (.inr rfl) (q1.bring ⟨HM.out.2.1, HM.out.2.2.1⟩), .inr rfl, hRj.n1, hRj.n2, hRj.d1, hRj.d2⟩
        · have := ((hrr i s hs).grown hk3).kept k4 (HD.out i j s t hs ht hij)
          by_cases hi2 : i < j
          · rw [if_pos hi2] at this; rw [if_pos (by omega)]; exact this
          · rw [if_neg hi2] at this; rw [if_neg (by omega)]; exact this
      obtain ⟨tq, htq⟩ : ∃ q, q = t.q := ⟨_, rfl⟩
      obtain ⟨tG, htG⟩ : ∃ q, q = t.G := ⟨_, rfl⟩
      rw [← htq] at c0
      rw [← htG] at c4
      rw [← htq, ← htG] at HC
      rw [← htG] at HR
      have HW1 : Hid (W3 = wr.alloc (.cells #[.int .i64 tq, .int .i64 3, .int .i64 n, .int .i64 d, .slice (some ⟨tG, 0, none⟩) N N] 75)) := by rw [htq, htG]; exact hW3
      clear hC hk hk3 hk3' hW3 ht hmem hjx hj q1 q2 q3 hk0 hRj hrr hN hmW htq htG
      go_wp2_with fail
      rw [← HW1.out]
      refine HC.out.mono ?_
      rintro e w4 ⟨rfl, hb4, hk4⟩
      have HK4 : Hid (_ ∧ Keeps _ _ _) := HR.out w4 hb4 hk4
      clear hb4 hk4 HC HR
      go_wp2
      go_roundw
      case rel => exact ⟨j + 1, by omega, by go_num, HK4.out.1, HK4.out.2⟩
      case measure => simp [intOf]; omega
    · obtain rfl : j = L := by omega
      have HR : Hid ((∀ t ∈ ps, Rb wr t.G 3 n d (enc 3 n d (t.x.bring d m))) ∧ Keeps (fun k => ∃ t ∈ ps, k = t.G) w wr) := by
        refine ⟨fun t ht => ?_, hk⟩
        obtain ⟨i, hi, rfl⟩ := List.getElem_of_mem ht
        have := hrr i _ (List.getElem?_eq_getElem hi)
        rw [if_pos (by have := HS.out.2.1; omega)] at this
        exact this
      clear hk hrr
      go_wp2
      go_end0
      exact ⟨rfl, HR.out⟩

end Go.Proofs.Ytekijhhpldnmnaa
