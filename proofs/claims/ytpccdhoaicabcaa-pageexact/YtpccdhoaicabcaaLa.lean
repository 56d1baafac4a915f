import Derived.Test.YtpccdhoaicabcaaTa
import Derived.Test.YtpccdhoaicabcaaTr
namespace Go.Proofs.Ytpccdhoaicabcaa
open Go.RowKit Go.Shelf
attribute [local go_sem] Oper.semAt_some
set_option linter.unusedVariables false
set_option linter.unusedSimpArgs false

/-- The first words of sixteen, over zeros. -/
def overT (h : Nat → UInt32) (i : Nat) : List UInt32 := (List.range i).map h ++ List.replicate (16 - i) 0
theorem overT_length (h : Nat → UInt32) (i : Nat) (hi : i ≤ 16) : (overT h i).length = 16 := by simp [overT]; omega
theorem overT_step (h : Nat → UInt32) (i : Nat) (hi : i < 16) : (wvs (overT h i)).set i (.int .u32 ((h i).toNat : Int)) = wvs (overT h (i + 1)) := by
  have hl : (wvs ((List.range i).map h)).length = i := by rw [wvs_length]; simp
  unfold overT
  rw [wvs_append, List.set_append_right _ _ (by omega), hl, Nat.sub_self, List.range_succ, List.map_append, wvs_append, wvs_append]
  obtain ⟨d, hd⟩ : ∃ d, 16 - i = d + 1 := ⟨16 - i - 1, by omega⟩
  rw [hd, show 16 - (i + 1) = d by omega, List.replicate_succ]
  simp [wvs]
theorem overT_same (h : Nat → UInt32) (i : Nat) (hi : i < 16) (hn : h i = 0) : overT h (i + 1) = overT h i := by
  unfold overT
  obtain ⟨d, hd⟩ : ∃ d, 16 - i = d + 1 := ⟨16 - i - 1, by omega⟩
  rw [hd, show 16 - (i + 1) = d by omega, List.replicate_succ, List.range_succ, List.map_append]
  simp [hn]

/-- Where laying down is. -/
structure LyI (w : World) (H b g n : Nat) (xs : List UInt32) (a2 : Option Addr) (ts : List Int) (c2 B : Nat) (a : Option Addr) (rs : List Rgn) (c : Nat) (s : Nat) (W : World) : Prop where
  on : OnT (H + 5) B a rs c W
  le : s ≤ 16
  mb : Blk W H [.pointer (some ⟨b, 0, none⟩)] 34
  tb : Blk W (H + 1) [.slice a2 ts.length c2] 28
  row : Blk W (H + 2) (wvs (overT (topW (findL rs) ts) s)) 27
  ob : Blk W (H + 3) [.slice (some ⟨H + 2, 0, none⟩) 16 16] 33
  nb : Blk W (H + 4) [.int .i64 (cnt (findL rs) s : Nat)] 3
  mem : Mn W b g n (layed (findL rs) ts xs s)
  seg : SegI W a2 ts
  k : Keeps (· = g) w W

/-- What lies where, apart. -/
structure LyH (w : World) (H b g n : Nat) (a2 : Option Addr) (ts : List Int) (c2 B : Nat) (a : Option Addr) (rs : List Rgn) : Prop where
  h : w.heap.size = H
  bl : b < H
  gl : g < H
  Bl : B < H
  bg : B ≠ g
  bb : b ≠ g
  al : ∀ x, a = some x → x.block ≠ g
  a2l : ∀ x, a2 = some x → x.block ≠ g
  len : ts.length ≤ c2 ∧ c2 ≤ maxLen
  cn : cnt (findL rs) 16 = ts.length
  ok : ∀ t, t ∈ ts → 0 ≤ t ∧ t < n

theorem LyI.kept {S : Nat → Prop} {w : World} {H b g n : Nat} {xs : List UInt32} {a2 : Option Addr} {ts : List Int} {c2 B : Nat} {a : Option Addr} {rs : List Rgn} {c s : Nat} {W W' : World}
    (h : LyI w H b g n xs a2 ts c2 B a rs c s W) (hh : LyH w H b g n a2 ts c2 B a rs) (hseg : SegI w a2 ts) (hfd : Fd B a rs c w) (hK : Keeps S W W') (hS : ∀ k, S k → H + 6 ≤ k) : LyI w H b g n xs a2 ts c2 B a rs c s W' := by
  have hk' : Keeps (· = g) w W' := h.k.trans hK fun k hk e => by have := hS k e; have := hh.h; omega
  have f : ∀ k, k < H + 6 → ¬ S k := fun k hk e => by have := hS k e; omega
  have b1 := hh.bl
  have b2 := hh.gl
  have b3 := hh.Bl
  exact ⟨⟨cell_kept h.on.p1 hK (f _ (by omega)), hfd.kept hk' hh.bg fun x hx => hh.al x hx⟩, h.le, h.mb.kept hK (f _ (by omega)), h.tb.kept hK (f _ (by omega)), h.row.kept hK (f _ (by omega)), h.ob.kept hK (f _ (by omega)), h.nb.kept hK (f _ (by omega)),
    h.mem.kept hK (f _ (by omega)) (f _ (by omega)), hseg.kept hk' fun x hx => hh.a2l x hx, hk'⟩

theorem topW_no {f : Nat → Option (Nat × Nat)} {ts : List Int} {s : Nat} (h : needB f s = false) : topW f ts s = 0 := by unfold topW; rw [h]; rfl
theorem layed_no {f : Nat → Option (Nat × Nat)} {ts : List Int} {xs : List UInt32} {s : Nat} (h : needB f s = false) : layed f ts xs (s + 1) = layed f ts xs s := by show (if _ then _ else _) = _; rw [h]; rfl
theorem cnt_no {f : Nat → Option (Nat × Nat)} {s : Nat} (h : needB f s = false) : cnt f (s + 1) = cnt f s := by show cnt f s + _ = _; rw [h]; rfl
theorem cnt_yes {f : Nat → Option (Nat × Nat)} {s : Nat} (h : needB f s = true) : cnt f (s + 1) = cnt f s + 1 := by show cnt f s + _ = _; rw [h]; rfl
theorem layed_yes {f : Nat → Option (Nat × Nat)} {ts : List Int} {xs : List UInt32} {s : Nat} (h : needB f s = true) : layed f ts xs (s + 1) = lay (layed f ts xs s) (16 * (ts.getD (cnt f s) 0).toNat) (rowL f s) := by
  show (if _ then _ else _) = _; rw [h]; rfl
theorem topW_yes {f : Nat → Option (Nat × Nat)} {ts : List Int} {s : Nat} (h : needB f s = true) : topW f ts s = enc (ts.getD (cnt f s) 0).toNat 0 := by unfold topW; rw [h]; rfl

set_option maxRecDepth 20000 in
set_option maxHeartbeats 4000000 in
theorem lay_any (b g n : Nat) (xs : List UInt32) (root : Nat) (a2 : Option Addr) (ts : List Int) (c2 B : Nat) (a : Option Addr) (rs : List Rgn) (c : Nat) (w : World) (hM : Mn w b g n xs) (hs : SegI w a2 ts) (hfd : Fd B a rs c w)
    (hh : LyH w w.heap.size b g n a2 ts c2 B a rs) (hr : root < n) :
    Calls Try.prog 36 #[.pointer (some ⟨b, 0, none⟩), .int .i64 root, .slice a2 ts.length c2, .func (.func 63) #[] #[.pointer (some ⟨B, 0, none⟩)]] w fun e w' =>
      (∃ v, e = .returned v) ∧ Mn w' b g n (builtL (findL rs) ts root xs) ∧ Keeps (· = g) w w' := by
  obtain ⟨H, hH⟩ : ∃ H, H = w.heap.size := ⟨_, rfl⟩
  rw [← hH] at hh
  obtain ⟨w1, hw1⟩ : ∃ w1, w1 = (w.alloc (.cells #[.pointer (some ⟨b, 0, none⟩)] 34)).alloc (.cells #[.slice a2 ts.length c2] 28) := ⟨_, rfl⟩
  have hk1 : Keeps (fun _ => False) w w1 := by rw [hw1]; exact ((Keeps.refl _ w).alloc _).alloc _
  have hz1 : w1.heap.size = H + 2 := by rw [hw1, hH]; simp
  have hb0 : Blk w1 H [.pointer (some ⟨b, 0, none⟩)] 34 := by rw [hw1, hH]; exact (Blk.new w _ 34).alloc _
  have hb1 : Blk w1 (H + 1) [.slice a2 ts.length c2] 28 := by
    have := Blk.new (w.alloc (.cells #[.pointer (some ⟨b, 0, none⟩)] 34)) #[.slice a2 ts.length c2] 28
    rw [World.size_alloc, ← hH, ← hw1] at this; exact this
  have hmk := run_make_words (w := w1) 16 (by omega)
  obtain ⟨W1, hW⟩ : ∃ W1, W1 = w1.alloc (.cells (wvs (List.replicate 16 0)).toArray 27) := ⟨_, rfl⟩
  rw [← hW, hz1] at hmk
  have hK1 : Keeps (fun _ => False) w1 W1 := by rw [hW]; exact (Keeps.refl _ w1).alloc _
  have hB1 : Blk W1 (H + 2) (wvs (overT (topW (findL rs) ts) 0)) 27 := by rw [hW, ← hz1]; exact Blk.new w1 _ 27
  have hz2 : W1.heap.size = H + 3 := by rw [hW]; simp; omega
  obtain ⟨W2, hW2⟩ : ∃ W2, W2 = (W1.alloc (.cells #[.slice (some ⟨H + 2, 0, none⟩) 16 16] 33)).alloc (.cells #[.int .i64 0] 3) := ⟨_, rfl⟩
  have hK2 : Keeps (fun _ => False) W1 W2 := by rw [hW2]; exact ((Keeps.refl _ W1).alloc _).alloc _
  have hB3 : Blk W2 (H + 3) [.slice (some ⟨H + 2, 0, none⟩) 16 16] 33 := by rw [hW2, ← hz2]; exact (Blk.new W1 _ 33).alloc _
  have hB4 : Blk W2 (H + 4) [.int .i64 0] 3 := by
    have := Blk.new (W1.alloc (.cells #[.slice (some ⟨H + 2, 0, none⟩) 16 16] 33)) #[.int .i64 0] 3
    rw [World.size_alloc, hz2, ← hW2] at this; exact this
  have hz3 : W2.heap.size = H + 5 := by rw [hW2]; simp; omega
  have hKw : Keeps (fun _ => False) w W2 := (hk1.trans hK1 fun _ _ h => h).trans hK2 fun _ _ h => h
  have HM : Hid (_ = _) := hmk
  have Hw1 : Hid (w1 = _) := hw1
  have HW2 : Hid (W2 = _) := hW2
  have HZ : Hid (H = w.heap.size ∧ w1.heap.size = H + 2 ∧ W1.heap.size = H + 3 ∧ W2.heap.size = H + 5) := ⟨hH, hz1, hz2, hz3⟩
  have HP : Hid (LyH w H b g n a2 ts c2 B a rs ∧ SegI w a2 ts ∧ Fd B a rs c w ∧ Mn w b g n xs ∧ root < n) := ⟨hh, hs, hfd, hM, hr⟩
  have HB : Hid (Blk W2 H [.pointer (some ⟨b, 0, none⟩)] 34 ∧ Blk W2 (H + 1) [.slice a2 ts.length c2] 28 ∧ Blk W2 (H + 2) (wvs (overT (topW (findL rs) ts) 0)) 27 ∧ Blk W2 (H + 3) [.slice (some ⟨H + 2, 0, none⟩) 16 16] 33 ∧ Blk W2 (H + 4) [.int .i64 0] 3 ∧ Keeps (fun _ => False) w W2) :=
    ⟨(hb0.kept hK1 fun h => h).kept hK2 fun h => h, (hb1.kept hK1 fun h => h).kept hK2 fun h => h, hB1.kept hK2 fun h => h, hB3, hB4, hKw⟩
  have HN : Hid (∀ W' B, Calls _ _ _ W' _) := fun W' B => needed_any (.func (.func 63) #[] #[.pointer (some ⟨B, 0, none⟩)]) W' ⟨_, _, rfl⟩
  obtain ⟨L2, hL2⟩ : ∃ L2, L2 = ts.length := ⟨_, rfl⟩
  have HL2 : Hid (L2 = ts.length) := hL2
  have hr' : (root : Int) < 1024 := by have := hM.n_le; omega
  rw [← hL2] at Hw1 HB ⊢
  clear hM hs hfd hh hr hH hw1 hk1 hz1 hb0 hb1 hmk hW hK1 hB1 hz2 hW2 hK2 hB3 hB4 hz3 hKw hL2
  refine (callsIn_wide (n := 8)).1 ?_
  refine callsIn_of_wp_marks Try.func36 rfl trivial ?_ rfl
  refine wpIn_wide.2 ?_
  simp only [Try.ntmps36, List.size_toArray, List.length_cons, List.length_nil, Nat.reduceAdd, Nat.reduceSub, Array.replicate_succ, Array.replicate_zero, List.push_toArray, List.append_toArray, List.nil_append, List.cons_append]
  go_wp2_with (at_make; rw [← Hw1.out]; refine wpList_make_run rfl (.const (.int .i64 16)) (.const (.int .i64 16)) 33 rfl (.int .i64 ((16 : Nat) : Int)) (.int .i64 ((16 : Nat) : Int)) (.slice (some ⟨H + 2, 0, none⟩) 16 16) W1 rfl rfl HM.out ?_; refine Hid.out ?_)
  unfold Hid
  go_wp2_with fail
  rw [← HW2.out]
  refine (HN.out _ _).mono ?_
  rintro e w3 ⟨rfl, hb3, hk3⟩
  rw [HZ.out.2.2.2] at hb3 ⊢
  simp only [HZ.out.2.2.1, ← HZ.out.1]
  have h0 : LyI w H b g n xs a2 ts c2 B a rs c 0 w3 := by
    obtain ⟨x1, x2, x3, x4, x5, x6⟩ := HB.out
    have hk := x6.trans hk3 fun _ _ h => h
    obtain ⟨p1, p2, p3, p4, p5⟩ := HP.out
    rw [HL2.out] at x2
    exact ⟨⟨hb3.cell rfl, p3.grown hk⟩, by omega, x1.kept hk3 fun h => h, x2.kept hk3 fun h => h, x3.kept hk3 fun h => h, x4.kept hk3 fun h => h, x5.kept hk3 fun h => h, p4.grown hk, p2.grown hk, hk.mono fun _ _ h => h.elim⟩
  have hz4 : H + 6 ≤ w3.heap.size := by have := hb3.lt; omega
  have HI : Hid (LyI w H b g n xs a2 ts c2 B a rs c 0 w3 ∧ H + 6 ≤ w3.heap.size) := ⟨h0, hz4⟩
  clear hb3 hk3 h0 hz4 HN HB HW2 Hw1 HM
  go_wp2_with fail
  have kp : ∀ s W W', Keeps (fun k => k = w3.heap.size ∨ k = w3.heap.size + 1) W W' → LyI w H b g n xs a2 ts c2 B a rs c s W → LyI w H b g n xs a2 ts c2 B a rs c s W' := fun s W W' hK h =>
    h.kept HP.out.1 HP.out.2.1 HP.out.2.2.1 hK fun k e => by have := HI.out.2; omega
  refine (wpIn_wide (n := 8)).1 ?_
  refine range_live3 (σ := Nat) (α := Nat × Nat) rfl (by omega) (gf := 68) (lb := #[.pointer (some ⟨H + 5, 0, none⟩)]) rfl trivial (enters_of Try.func68 (by kernel_rfl) rfl)
    (needed_tells 7 (w3.heap.size + 2) (H + 5) B a rs c) (fun _ => rfl) (LyI w H b g n xs a2 ts c2 B a rs c) (fun _ _ => False) kp
    (fun s x W W' hK hi ht => ?tell) (fun _ _ _ _ h => h) (fun s W hz hi => ⟨hi.on, by omega⟩) (fun s s' W hi hs => ?skip) HI.out.1 ?body ?done ?stop
  case stop =>
    rintro c W h _
    exact h.elim
  case tell => exact ⟨ht.1, ht.2.1, ht.2.2.1, ht.2.2.2.1, ht.2.2.2.2.kept hK (by have := ht.2.2.2.1; omega)⟩
  case skip =>
    obtain ⟨rfl, hlt, hn⟩ := hs
    refine ⟨hi.on, by omega, hi.mb, hi.tb, ?_, hi.ob, ?_, ?_, hi.seg, hi.k⟩
    · rw [overT_same _ _ hlt (topW_no hn)]; exact hi.row
    · rw [cnt_no hn]; exact hi.nb
    · rw [layed_no hn]; exact hi.mem
  case body =>
    intro l s x W0 _ _
    unfold encT
    gi_wp2
    refine ⟨Keeps.refl _ _, ?_⟩
    intro W hkA hlt hi ht
    obtain ⟨x1, x2⟩ := x
    obtain ⟨hx1, hs16, hnd, hlo, hbw⟩ := ht
    simp only at hx1 hlo hbw
    subst hx1
    have hC : cnt (findL rs) x1 < ts.length := by rw [← HP.out.1.cn]; exact cnt_lt _ hs16 hnd
    obtain ⟨T, hT⟩ : ∃ T, ts[cnt (findL rs) x1]? = some T := ⟨_, List.getElem?_eq_getElem hC⟩
    obtain ⟨hT0, hTn⟩ := HP.out.1.ok T (List.mem_of_getElem? hT)
    obtain ⟨T, rfl⟩ := Int.eq_ofNat_of_zero_le hT0
    obtain ⟨g2, o2, rfl, ct⟩ := hi.seg.at hT
    have cb := hi.mb.cell (i := 0) rfl
    have ctb := hi.tb.cell (i := 0) rfl
    have cob := hi.ob.cell (i := 0) rfl
    have cnb := hi.nb.cell (i := 0) rfl
    have hol : x1 < (overT (topW (findL rs) ts) x1).length := by rw [overT_length _ _ (by omega)]; exact hs16
    have crow := hi.row.cell (wvs_get _ x1 hol)
    have zrow := hi.row.frozen x1
    obtain ⟨v0, hv0⟩ : ∃ v0 : Nat, v0 = ((overT (topW (findL rs) ts) x1)[x1]'hol).toNat := ⟨_, rfl⟩
    rw [← hv0] at crow
    obtain ⟨C, hCC⟩ : ∃ C, C = cnt (findL rs) x1 := ⟨_, rfl⟩
    rw [← hCC] at cnb ct hC
    rw [← HL2.out] at ctb hC
    have hn := hi.mem.n_le
    have HE := fun w => encode_in T 0 w (by omega) (by omega)
    obtain ⟨Z, hZ⟩ : ∃ Z, Z = (enc T 0).toNat := ⟨_, rfl⟩
    rw [← hZ] at HE
    have HE : Hid (∀ w, Calls _ _ _ w _) := HE
    have HT : Hid (ts.getD (cnt (findL rs) x1) 0 = (T : Int) ∧ C = cnt (findL rs) x1 ∧ Z = (enc T 0).toNat ∧ T < n ∧ n ≤ 1024) := ⟨by simp [List.getD, hT], hCC, hZ, by omega, hn⟩
    have hTs : (T : Int) < 1024 := by omega
    have hCl : (C : Int) < L2 := by omega
    have hs16' : (x1 : Int) < 16 := by omega
    have hlen2 := HP.out.1.len
    rw [← HL2.out] at hlen2
    have hcc2 : (L2 : Int) ≤ c2 := by omega
    have hC3 : (c2 : Int) ≤ 9223372036854775807 := by unfold maxLen at hlen2; omega
    have HH : Hid (LyI w H b g n xs (some ⟨g2, o2, none⟩) ts c2 B a rs c x1 W ∧ needB (findL rs) x1 = true ∧ w3.heap.size + 2 ≤ x2 ∧ Blk W x2 (wvs (rowL (findL rs) x1)) 27 ∧ w3.heap.size + 1 < W.heap.size) := ⟨hi, hnd, hlo, hbw, hlt⟩
    have hmix : Try.prog.follows Departure.mixedOrders = true := Try.mixed
    clear hi hnd hlo hbw hT hol hv0 hCC hZ hlen2 hkA kp hT0 hTn hn hC
    gi_wp2_with fail
    refine region_inRound Try.mixed (noDefer_of (by kernel_rfl)) ?nq (fun w' => w'.cell? ⟨H, 0, none⟩ = some (.pointer (some ⟨b, 0, none⟩)) ∧ w'.cell? ⟨H + 1, 0, none⟩ = some (.slice (some ⟨g2, o2, none⟩) L2 c2) ∧ w'.cell? ⟨H + 3, 0, none⟩ = some (.slice (some ⟨H + 2, 0, none⟩) 16 16) ∧ w'.cell? ⟨H + 4, 0, none⟩ = some (.int .i64 C) ∧ w'.cell? ⟨g2, o2 + C, none⟩ = some (.int .i64 T)) ⟨cb, ctb, cob, cnb, ct⟩ (fun hHeld => ?_)
    case nq =>
      rintro ⟨a, w, h⟩
      exact h
    simp only [List.size_toArray, List.length_cons, List.length_nil, Nat.reduceAdd, Array.replicate_succ, Array.replicate_zero, List.push_toArray, List.append_toArray, List.nil_append, List.cons_append]
    refine wpAnyH_take (i := 0) (v := .slice (some ⟨H + 2, 0, none⟩) 16 16) rfl (by kernel_rfl) (by kernel_rfl) (by kernel_rfl) (fun _ _ _ h => h) (Or.inl ⟨by kernel_rfl, by (intro w hSw; (try dsimp only at hSw); go_simp)⟩) hHeld ?_
    simp only [Act.put, List.setIfInBounds_toArray, List.set_cons_zero, List.set_cons_succ]
    refine wpAnyH_take (i := 1) (v := .int .i64 x1) rfl (by kernel_rfl) (by kernel_rfl) (by kernel_rfl) (fun _ _ _ h => h) (Or.inl ⟨by kernel_rfl, by (intro w hSw; (try dsimp only at hSw); go_simp)⟩) hHeld ?_
    simp only [Act.put, List.setIfInBounds_toArray, List.set_cons_zero, List.set_cons_succ]
    refine wpAnyH_take (i := 2) (v := .slice (some ⟨g2, o2, none⟩) L2 c2) rfl (by kernel_rfl) (by kernel_rfl) (by kernel_rfl) (fun _ _ _ h => h) (Or.inl ⟨by kernel_rfl, by (intro w hSw; (try dsimp only at hSw); go_simp)⟩) hHeld ?_
    simp only [Act.put, List.setIfInBounds_toArray, List.set_cons_zero, List.set_cons_succ]
    refine wpAnyH_take (i := 3) (v := .int .i64 C) rfl (by kernel_rfl) (by kernel_rfl) (by kernel_rfl) (fun _ _ _ h => h) (Or.inl ⟨by kernel_rfl, by (intro w hSw; (try dsimp only at hSw); go_simp)⟩) hHeld ?_
    simp only [Act.put, List.setIfInBounds_toArray, List.set_cons_zero, List.set_cons_succ]
    refine wpAnyH_take (i := 4) (v := .pointer (some ⟨g2, o2 + C, none⟩)) rfl (by kernel_rfl) (by kernel_rfl) (by kernel_rfl) (fun _ _ _ h => h) (Or.inl ⟨by kernel_rfl, by (intro w hSw; (try dsimp only at hSw); go_simp)⟩) hHeld ?_
    simp only [Act.put, List.setIfInBounds_toArray, List.set_cons_zero, List.set_cons_succ]
    refine wpAnyH_take (i := 5) (v := .int .i64 T) rfl (by kernel_rfl) (by kernel_rfl) (by kernel_rfl) (fun _ _ _ h => h) (Or.inl ⟨by kernel_rfl, by (intro w hSw; (try dsimp only at hSw); go_simp)⟩) hHeld ?_
    simp only [Act.put, List.setIfInBounds_toArray, List.set_cons_zero, List.set_cons_succ]
    refine wpAnyH_ready (rs := [6]) (by kernel_rfl) (by simp) ?_
    refine AllReadyH.cons rfl (fun K hK => ?_) AllReadyH.nil
    go_simp
    refine (HE.out _).mono ?_
    rintro e w11 ⟨rfl, hw⟩
    obtain rfl := hw.symm
    clear hw
    refine hK.out _ _ ⟨cb, ctb, cob, cnb, ct⟩ (fun hHeld => ?_)
    simp only [Act.put, List.setIfInBounds_toArray, List.set_cons_zero, List.set_cons_succ]
    refine wpAnyH_take (i := 7) (v := .tuple #[.int .u32 Z, .int .i64 0]) rfl (by kernel_rfl) (by kernel_rfl) (by kernel_rfl) (fun _ _ _ h => h) (Or.inl ⟨by kernel_rfl, by (intro w hSw; (try dsimp only at hSw); go_simp)⟩) hHeld ?_
    simp only [Act.put, List.setIfInBounds_toArray, List.set_cons_zero, List.set_cons_succ]
    refine wpAnyH_take (i := 8) (v := .int .u32 Z) rfl (by kernel_rfl) (by kernel_rfl) (by kernel_rfl) (fun _ _ _ h => h) (Or.inl ⟨by kernel_rfl, by (intro w hSw; (try dsimp only at hSw); go_simp)⟩) hHeld ?_
    simp only [Act.put, List.setIfInBounds_toArray, List.set_cons_zero, List.set_cons_succ]
    refine wpAnyH_take (i := 9) (v := .int .i64 0) rfl (by kernel_rfl) (by kernel_rfl) (by kernel_rfl) (fun _ _ _ h => h) (Or.inl ⟨by kernel_rfl, by (intro w hSw; (try dsimp only at hSw); go_simp)⟩) hHeld ?_
    simp only [Act.put, List.setIfInBounds_toArray, List.set_cons_zero, List.set_cons_succ]
    refine wpAnyH_take (i := 10) (v := .pointer (some ⟨H + 2, x1, none⟩)) rfl (by kernel_rfl) (by kernel_rfl) (by kernel_rfl) (fun _ _ _ h => h) (Or.inl ⟨by kernel_rfl, by (intro w hSw; (try dsimp only at hSw); go_simp)⟩) hHeld ?_
    simp only [Act.put, List.setIfInBounds_toArray, List.set_cons_zero, List.set_cons_succ]
    have hg2 : g2 ≠ g := HP.out.1.a2l _ rfl
    obtain ⟨W6, hW6⟩ : ∃ W6, W6 = (W.setCell ⟨H + 2, x1, none⟩ (.int .u32 Z)).drew := ⟨_, rfl⟩
    have hk6 : Keeps (· = H + 2) W W6 := by rw [hW6]; exact ((Keeps.refl (· = H + 2) W).setCell _ _ fun _ => rfl).drew
    have hgH : g2 ≠ H + 2 := by
      intro e
      have hlz : L2 = ts.length := HL2.out
      have hwz : H = w.heap.size := HZ.out.1
      have hne : ts ≠ [] := fun h => by rw [h] at hlz; simp at hlz; omega
      rcases HP.out.2.1 with hnil | ⟨gg, oo, hgo, hcc⟩
      · exact hne hnil
      · injection hgo with hgo
        injection hgo with hg1 hg3
        have := World.block_lt_of_cell? w ⟨gg, oo + 0, none⟩ (hcc 0 _ (List.getElem?_eq_getElem (List.length_pos_iff.2 hne)))
        simp only at this
        omega
    have e0 := cell_kept cb hk6 (by omega)
    have e1 := cell_kept ctb hk6 (by omega)
    have e2 := cell_kept cob hk6 (by omega)
    have e3 := cell_kept cnb hk6 (by omega)
    have e4 := cell_kept ct hk6 hgH
    have H6 : Hid (W6 = (W.setCell ⟨H + 2, x1, none⟩ (.int .u32 Z)).drew ∧ Keeps (· = H + 2) W W6 ∧ g2 ≠ g ∧ Blk W6 (H + 2) (wvs (overT (topW (findL rs) ts) (x1 + 1))) 27) := by
      refine ⟨hW6, hk6, hg2, ?_⟩
      rw [hW6, ← overT_step _ _ (by omega), topW_yes HH.out.2.1, HT.out.1]
      have := ((HH.out.1.row).setCell x1 (.int .u32 Z)).drew
      rw [HT.out.2.2.1] at this
      rw [Int.toNat_natCast, HT.out.2.2.1]
      exact this
    clear hW6 hk6 hg2 hgH
    refine wpAnyH_ready (rs := [11]) (by kernel_rfl) (by simp) ?_
    refine AllReadyH.cons rfl (fun K hK => ?_) AllReadyH.nil
    go_simp
    rw [← H6.out.1]
    refine hK.out _ _ ⟨e0, e1, e2, e3, e4⟩ (fun hHeld => ?_)
    simp only [Act.put, List.setIfInBounds_toArray, List.set_cons_zero, List.set_cons_succ]
    refine wpAnyH_done (by kernel_rfl) ?_ _
    clear hHeld hK
    gi_wp2_with fail
    refine region_inRound Try.mixed (noDefer_of (by kernel_rfl)) ?nq (fun w' => w'.cell? ⟨H, 0, none⟩ = some (.pointer (some ⟨b, 0, none⟩)) ∧ w'.cell? ⟨H + 1, 0, none⟩ = some (.slice (some ⟨g2, o2, none⟩) L2 c2) ∧ w'.cell? ⟨H + 3, 0, none⟩ = some (.slice (some ⟨H + 2, 0, none⟩) 16 16) ∧ w'.cell? ⟨H + 4, 0, none⟩ = some (.int .i64 C) ∧ w'.cell? ⟨g2, o2 + C, none⟩ = some (.int .i64 T)) ⟨e0, e1, e2, e3, e4⟩ (fun hHeld => ?_)
    case nq =>
      rintro ⟨a, w, h⟩
      exact h
    simp only [List.size_toArray, List.length_cons, List.length_nil, Nat.reduceAdd, Array.replicate_succ, Array.replicate_zero, List.push_toArray, List.append_toArray, List.nil_append, List.cons_append]
    refine wpAnyH_take (i := 0) (v := .pointer (some ⟨b, 0, none⟩)) rfl (by kernel_rfl) (by kernel_rfl) (by kernel_rfl) (fun _ _ _ h => h) (Or.inl ⟨by kernel_rfl, by (intro w hSw; (try dsimp only at hSw); go_simp)⟩) hHeld ?_
    simp only [Act.put, List.setIfInBounds_toArray, List.set_cons_zero, List.set_cons_succ]
    refine wpAnyH_take (i := 1) (v := .slice (some ⟨g2, o2, none⟩) L2 c2) rfl (by kernel_rfl) (by kernel_rfl) (by kernel_rfl) (fun _ _ _ h => h) (Or.inl ⟨by kernel_rfl, by (intro w hSw; (try dsimp only at hSw); go_simp)⟩) hHeld ?_
    simp only [Act.put, List.setIfInBounds_toArray, List.set_cons_zero, List.set_cons_succ]
    refine wpAnyH_take (i := 2) (v := .int .i64 C) rfl (by kernel_rfl) (by kernel_rfl) (by kernel_rfl) (fun _ _ _ h => h) (Or.inl ⟨by kernel_rfl, by (intro w hSw; (try dsimp only at hSw); go_simp)⟩) hHeld ?_
    simp only [Act.put, List.setIfInBounds_toArray, List.set_cons_zero, List.set_cons_succ]
    refine wpAnyH_take (i := 3) (v := .pointer (some ⟨g2, o2 + C, none⟩)) rfl (by kernel_rfl) (by kernel_rfl) (by kernel_rfl) (fun _ _ _ h => h) (Or.inl ⟨by kernel_rfl, by (intro w hSw; (try dsimp only at hSw); go_simp)⟩) hHeld ?_
    simp only [Act.put, List.setIfInBounds_toArray, List.set_cons_zero, List.set_cons_succ]
    refine wpAnyH_take (i := 4) (v := .int .i64 T) rfl (by kernel_rfl) (by kernel_rfl) (by kernel_rfl) (fun _ _ _ h => h) (Or.inl ⟨by kernel_rfl, by (intro w hSw; (try dsimp only at hSw); go_simp)⟩) hHeld ?_
    simp only [Act.put, List.setIfInBounds_toArray, List.set_cons_zero, List.set_cons_succ]
    refine wpAnyH_take (i := 5) (v := .int .i64 ((T : Int) * 16)) rfl (by kernel_rfl) (by kernel_rfl) (by kernel_rfl) (fun _ _ _ h => h) (Or.inl ⟨by kernel_rfl, by (intro w hSw; (try dsimp only at hSw); go_simp; exact (by rw [IntKind.wrap_i64]; omega))⟩) hHeld ?_
    simp only [Act.put, List.setIfInBounds_toArray, List.set_cons_zero, List.set_cons_succ]
    refine wpAnyH_take (i := 6) (v := .slice (some ⟨x2, 0, none⟩) 16 16) rfl (by kernel_rfl) (by kernel_rfl) (by kernel_rfl) (fun _ _ _ h => h) (Or.inl ⟨by kernel_rfl, by (intro w hSw; (try dsimp only at hSw); go_simp)⟩) hHeld ?_
    simp only [Act.put, List.setIfInBounds_toArray, List.set_cons_zero, List.set_cons_succ]
    have hP := HP.out.1
    have q1 := hP.bl
    have q2 := hP.gl
    have q3 := hP.Bl
    have hm6 : Mn W6.drew b g n (layed (findL rs) ts xs x1) := (HH.out.1.mem.kept H6.out.2.1 (by omega) (by omega)).grown ((Keeps.refl _ W6).drew)
    have hx2 : x2 ≠ H + 2 := by have := HI.out.2; have := HH.out.2.2.1; omega
    have hb6 : Blk W6.drew x2 (wvs (rowL (findL rs) x1)) 27 := (HH.out.2.2.2.1.kept H6.out.2.1 hx2).drew
    have HLay := lay_in b g _ (16 * T) (some ⟨x2, 0, none⟩) 16 (rowL (findL rs) x1) W6.drew hm6.mm (segW_of_blk hb6) (by rw [rowL_length, hm6.len]; have := HT.out; omega)
    rw [rowL_length, show ((16 * T : Nat) : Int) = (T : Int) * 16 by omega] at HLay
    have HLay : Hid (Calls _ _ _ _ _) := HLay
    have Hm6 : Hid (Mn W6.drew b g n (layed (findL rs) ts xs x1)) := hm6
    clear hm6 hx2 hb6 hP q1 q2 q3
    refine wpAnyH_ready (rs := [7]) (by kernel_rfl) (by simp) ?_
    refine AllReadyH.cons rfl (fun K hK => ?_) AllReadyH.nil
    go_simp
    refine HLay.out.mono ?_
    rintro e w7 ⟨rfl, hm7, hk7⟩
    have hP := HP.out.1
    have q1 := hP.bl
    have q2 := hP.gl
    have q3 := hP.Bl
    have hk7' : Keeps (· = g) W6 w7 := ((Keeps.refl (· = g) W6).drew).trans hk7 fun _ _ h => h
    have d0 := cell_kept e0 hk7' (by omega)
    have d1 := cell_kept e1 hk7' (by omega)
    have d2 := cell_kept e2 hk7' (by omega)
    have d3 := cell_kept e3 hk7' (by omega)
    have d4 := cell_kept e4 hk7' H6.out.2.2.1
    have hnb7 := (HH.out.1.nb.kept H6.out.2.1 (by omega)).kept hk7' (by omega)
    have dz := hnb7.frozen 0
    have H7 : Hid (Keeps (· = g) W6 w7 ∧ Mm w7 b g (lay (layed (findL rs) ts xs x1) (16 * T) (rowL (findL rs) x1)) ∧ Blk w7 (H + 4) [.int .i64 (cnt (findL rs) x1 : Nat)] 3) := ⟨hk7', hm7, hnb7⟩
    clear hk7 hk7' hm7 hnb7 q1 q2 q3 hP
    refine hK.out _ _ ⟨d0, d1, d2, d3, d4⟩ (fun hHeld => ?_)
    simp only [Act.put, List.setIfInBounds_toArray, List.set_cons_zero, List.set_cons_succ]
    refine wpAnyH_done (by kernel_rfl) ?_ _
    clear hHeld hK
    gi_wp2
    have hP := HP.out.1
    have q1 := hP.bl
    have q2 := hP.gl
    have q3 := hP.Bl
    have q4 := HI.out.2
    have q5 := HH.out.2.2.2.2
    obtain ⟨w8, hw8⟩ : ∃ w8, w8 = w7.setCell ⟨H + 4, 0, none⟩ (.int .i64 ((C : Int) + 1)) := ⟨_, rfl⟩
    have hk8 : Keeps (· = H + 4) w7 w8 := by rw [hw8]; exact (Keeps.refl _ w7).setCell _ _ fun _ => rfl
    have hkA : Keeps (fun k => k = H + 2 ∨ k = g ∨ k = H + 4) W w8 :=
      ((H6.out.2.1.mono (T := fun k => k = H + 2 ∨ k = g ∨ k = H + 4) fun _ _ h => .inl h).trans H7.out.1 fun _ _ h => .inr (.inl h)).trans hk8 fun _ _ h => .inr (.inr h)
    have hi := HH.out.1
    have hkw : Keeps (· = g) w w8 := hi.k.trans hkA fun k hk h => by have := HZ.out.1; omega
    have hfin : LyI w H b g n xs (some ⟨g2, o2, none⟩) ts c2 B a rs c (x1 + 1) w8 := by
      refine ⟨⟨cell_kept hi.on.p1 hkA (by omega), HP.out.2.2.1.kept hkw hP.bg fun x hx => hP.al x hx⟩, by omega, hi.mb.kept hkA (by omega), hi.tb.kept hkA (by omega), ?_, hi.ob.kept hkA (by omega), ?_, ?_, HP.out.2.1.kept hkw fun x hx => hP.a2l x hx, hkw⟩
      · exact (H6.out.2.2.2.kept H7.out.1 (by omega)).kept hk8 (by omega)
      · rw [cnt_yes HH.out.2.1, ← HT.out.2.1, hw8]
        have := H7.out.2.2.setCell 0 (.int .i64 ((C : Int) + 1))
        exact this
      · rw [layed_yes HH.out.2.1, HT.out.1, Int.toNat_natCast]
        have hl := lay_length (layed (findL rs) ts xs x1) (16 * T) (rowL (findL rs) x1) (by rw [rowL_length, hi.mem.len]; have := HT.out; omega)
        exact ⟨H7.out.2.1.kept hk8 (by omega) (by omega), by rw [hl]; exact hi.mem.len⟩
    have hL : LivePost w3.heap.size W (LyI w H b g n xs (some ⟨g2, o2, none⟩) ts c2 B a rs c (x1 + 1)) (fun _ _ => False) .normal { tmps := #[], defers := [] } w8 := ⟨⟨hkA.block _ (by omega) (by omega), hkA.block _ (by omega) (by omega)⟩, hfin⟩
    rw [hw8] at hL
    exact hL
  case done =>
    rintro s W rfl hi hD
    have cb := hi.mb.cell (i := 0) rfl
    have cob := hi.ob.cell (i := 0) rfl
    have hlen := overT_length (topW (findL rs) ts) 16 (Nat.le_refl _)
    have htop : overT (topW (findL rs) ts) 16 = topL (findL rs) ts := by simp [overT, topL]
    have HLay := lay_in b g _ (16 * root) (some ⟨H + 2, 0, none⟩) 16 (overT (topW (findL rs) ts) 16) W hi.mem.mm (segW_of_blk hi.row) (by rw [hlen, hi.mem.len]; have := HP.out.2.2.2.2; omega)
    rw [hlen, htop, show ((16 * root : Nat) : Int) = (root : Int) * 16 by omega] at HLay
    have HLay : Hid (Calls _ _ _ _ _) := HLay
    have HH : Hid (LyI w H b g n xs a2 ts c2 B a rs c 16 W ∧ (topL (findL rs) ts).length = 16) := ⟨hi, topL_length _ _⟩
    have hD : Hid (W.heap[w3.heap.size]? = some (.deferred (some []))) := hD
    clear hi kp hlen htop
    gi_wp2
    go_wp2_with fail
    refine HLay.out.mono ?_
    rintro e w7 ⟨rfl, hm7, hk7⟩
    have q4 := HI.out.2
    have q2 := HP.out.1.gl
    have q1 := HP.out.1.bl
    have hD7 : w7.heap[w3.heap.size]? = some (.deferred (some [])) := (hk7.block _ (Array.getElem?_eq_some_iff.1 hD.out).1 (by omega)).trans hD.out
    have H7 : Hid (Mm w7 b g (lay (layed (findL rs) ts xs 16) (16 * root) (topL (findL rs) ts)) ∧ Keeps (· = g) W w7 ∧ w7.heap[w3.heap.size]? = some (.deferred (some []))) := ⟨hm7, hk7, hD7⟩
    clear hm7 hk7 hD7
    go_wp2
    have hKf : Keeps (· = w3.heap.size) w7 (w7.putObj w3.heap.size (.deferred none)) := ⟨rfl, rfl, rfl, by simp, fun k _ hn => World.putObj_heap_other hn⟩
    refine ⟨by simp, .inl ⟨_, _, rfl, run_takeDeferred H7.out.2.2, ?_⟩⟩
    refine ⟨_, results_none rfl _ _ _, ⟨_, rfl⟩, ⟨H7.out.1.kept hKf (by omega) (by omega), ?_⟩, (HH.out.1.k.trans H7.out.2.1 fun _ _ h => h).trans hKf fun k hk h => by have := HZ.out.1; omega⟩
    unfold builtL
    rw [lay_length _ _ _ (by rw [HH.out.2, HH.out.1.mem.len]; have := HP.out.2.2.2.2; omega)]
    exact HH.out.1.mem.len

end Go.Proofs.Ytpccdhoaicabcaa
