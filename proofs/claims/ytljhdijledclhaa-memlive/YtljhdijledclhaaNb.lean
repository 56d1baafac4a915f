import Derived.Test.YtljhdijledclhaaN
namespace Go.Proofs.Ytljhdijledclhaa
open Go.RowKit Go.Shelf
set_option linter.unusedVariables false

set_option maxRecDepth 20000 in
set_option maxHeartbeats 2000000 in
theorem twrite_b_in (T a ga b gb gx gy : Nat) (xs ys : List UInt32) (p : Nat) (x : UInt32) (w : World) (h : Tw w T a ga b gb gx gy xs ys) (hF : Far T a ga b gb gx gy) (hp : p < ys.length) :
    Calls Try.prog 26 #[.pointer (some ⟨T, 0, none⟩), workV true (p : Int) x.toNat] w fun e w' => Wrote w T a ga b gb gx gy xs.length ys.length e w' := by
  obtain ⟨y, hy⟩ : ∃ y : Nat, y = x.toNat := ⟨_, rfl⟩
  have HY : Hid (y = x.toNat) := hy
  have hBx := Blk.new w #[.bool true, .int .i64 (p : Int), .int .u32 (y : Int)] 72
  have hT1 : Tw (w.alloc (.cells #[.bool true, .int .i64 (p : Int), .int .u32 (y : Int)] 72)) T a ga b gb gx gy xs ys := h.grown ((Keeps.refl _ w).alloc _)
  have hKw : Keeps (Hot ga gb gx gy) w (w.alloc (.cells #[.bool true, .int .i64 (p : Int), .int .u32 (y : Int)] 72)) := (Keeps.refl _ w).alloc _
  obtain ⟨X, hX⟩ : ∃ X, X = w.heap.size := ⟨_, rfl⟩
  obtain ⟨W1, hW1⟩ : ∃ W1, W1 = w.alloc (.cells #[.bool true, .int .i64 (p : Int), .int .u32 (y : Int)] 72) := ⟨_, rfl⟩
  have hlx := h.x.lt
  have hly := h.y.lt
  have hla := h.ma.lt
  have hlb := h.mb.lt
  have HXn : Hid (X ≠ ga ∧ X ≠ gb ∧ X ≠ gx ∧ X ≠ gy) := ⟨by omega, by omega, by omega, by omega⟩
  have s1 := h.ma.small
  have s2 := h.mb.small
  have HF : Hid (Far T a ga b gb gx gy) := hF
  rw [← hW1] at hT1 hBx hKw
  rw [← hX] at hBx
  have c0 := hT1.t.cell (i := 0) rfl
  have c1 := hT1.t.cell (i := 1) rfl
  have c2 := hT1.t.cell (i := 2) rfl
  have c3 := hT1.t.cell (i := 3) rfl
  have b0 := hBx.cell (i := 0) rfl
  have b1 := hBx.cell (i := 1) rfl
  have b2 := hBx.cell (i := 2) rfl
  have HT1 : Hid (Tw W1 T a ga b gb gx gy xs ys) := hT1
  have HBx : Hid (Blk _ _ _ _) := hBx
  have HKw : Hid (Keeps (Hot ga gb gx gy) w W1) := hKw
  have HE : Hid (W1 = w.alloc (.cells #[.bool true, .int .i64 (p : Int), .int .u32 (y : Int)] 72) ∧ X = w.heap.size) := ⟨hW1, hX⟩
  have HW : Hid (∀ w, Mm w b gb ys → Calls Try.prog 21 #[.pointer (some ⟨b, 0, none⟩), .int .i64 p, .int .u32 (y : Int)] w fun e w' => e = .returned (.int .i64 0) ∧ Mm w' b gb (lay ys p [x]) ∧ Keeps (· = gb) w w') := fun w h => by rw [hy]; exact write_in b gb ys p x w h hp
  have hLs := lay_set ys p x hp
  have hLl := lay_length ys p [x] (by simp; omega)
  have HLs : Hid (_ = _) := hLs
  have HLl : Hid (_ = _) := hLl
  have HP : Hid (p < ys.length) := hp
  clear hLs hLl
  obtain ⟨L, hL⟩ : ∃ L, L = xs.length := ⟨_, rfl⟩
  obtain ⟨M, hM⟩ : ∃ M, M = ys.length := ⟨_, rfl⟩
  have HLM : Hid (L = xs.length ∧ M = ys.length) := ⟨hL, hM⟩
  rw [← hL] at c2 s1
  rw [← hM] at c3 s2
  rw [← hL, ← hM]
  rw [← hy]
  have hpl := hp
  rw [← hM] at hpl
  clear hT1 hBx hKw h hF hL hM hlx hly hla hlb hX hp hy hW1
  unfold workV
  go_enter Try.func26, Try.ntmps26
  go_wp2
  rw [← HE.out.1, ← HE.out.2]
  go_quiet (fail)
  go_wp2_with fail
  go_quiet (fail)
  go_wp2_with fail
  refine (HW.out _ (HT1.out.mb.drewN _)).mono ?_
  rintro e w2 ⟨rfl, hM2, hK2'⟩
  have hK2 : Keeps (· = gb) W1 w2 := ((Keeps.refl _ W1).drewN _).trans hK2' fun _ _ e => e
  clear hK2'
  have hXn := HXn.out
  have hFr := HF.out
  have hBx2 := HBx.out.kept hK2 (by omega)
  have b1' := hBx2.cell (i := 1) rfl
  have b2' := hBx2.cell (i := 2) rfl
  have hl2 := HT1.out.y.kept hK2 (by have := hFr.d2; have := hFr.d5; omega)
  have cl := hl2.cell (wvs_get ys p HP.out)
  have zl := hl2.frozen p
  have hq1 : (p : Int) < (M : Int) := by omega
  have hq2 : ¬ ((p : Int) < 0) := by omega
  obtain ⟨v0, hv0⟩ : ∃ v0 : Nat, v0 = (ys[p]'HP.out).toNat := ⟨_, rfl⟩
  rw [← hv0] at cl
  have HFin : Hid (Wrote w T a ga b gb gx gy L M (.returned (.bool true)) (w2.setCell ⟨gy, p, none⟩ (.int .u32 (y : Int)))) := by
    have hK3 : Keeps (· = gy) w2 (w2.setCell ⟨gy, p, none⟩ (.int .u32 (y : Int))) := (Keeps.refl (· = gy) w2).setCell ⟨gy, p, none⟩ _ fun _ => rfl
    have hT := HT1.out
    obtain ⟨f1, f2, f3, d1, d2, d3, d4, d5, d6⟩ := hFr
    unfold Hot at f1 f2 f3
    have hll := HLl.out
    have hlm := HLM.out
    refine ⟨rfl, xs, lay ys p [x], ⟨?_, ((hT.ma).kept hK2 (by omega) (by omega)).kept hK3 (by omega) (by omega), hM2.kept hK3 (by omega) (by omega), ((hT.x).kept hK2 (by omega)).kept hK3 (by omega), ?_⟩, hlm.1.symm, by rw [hll, hlm.2], ?_⟩
    · rw [hll]; exact ((hT.t).kept hK2 (by omega)).kept hK3 (by omega)
    · rw [HLs.out, ← HY.out]; exact hl2.setCell p _
    · exact ((HKw.out).trans hK2 fun k _ e => .inr (.inl e)).trans hK3 fun k _ e => .inr (.inr (.inr e))
  clear hM2 hK2 hBx2 hl2 hXn hFr hv0
  go_wp2
  go_ret
  exact HFin.out

set_option maxRecDepth 20000 in
set_option maxHeartbeats 2000000 in
theorem twrite_b_out (T a ga b gb gx gy : Nat) (xs ys : List UInt32) (p : Int) (x : UInt32) (w : World) (h : Tw w T a ga b gb gx gy xs ys) (hF : Far T a ga b gb gx gy) (hp : ¬ (0 ≤ p ∧ p < ys.length)) (hp64 : p ≤ 9223372036854775807) :
    Calls Try.prog 26 #[.pointer (some ⟨T, 0, none⟩), workV true p x.toNat] w fun e w' => Wrote w T a ga b gb gx gy xs.length ys.length e w' := by
  obtain ⟨y, hy⟩ : ∃ y : Nat, y = x.toNat := ⟨_, rfl⟩
  have HY : Hid (y = x.toNat) := hy
  have hBx := Blk.new w #[.bool true, .int .i64 p, .int .u32 (y : Int)] 72
  have hT1 : Tw (w.alloc (.cells #[.bool true, .int .i64 p, .int .u32 (y : Int)] 72)) T a ga b gb gx gy xs ys := h.grown ((Keeps.refl _ w).alloc _)
  have hKw : Keeps (Hot ga gb gx gy) w (w.alloc (.cells #[.bool true, .int .i64 p, .int .u32 (y : Int)] 72)) := (Keeps.refl _ w).alloc _
  obtain ⟨X, hX⟩ : ∃ X, X = w.heap.size := ⟨_, rfl⟩
  obtain ⟨W1, hW1⟩ : ∃ W1, W1 = w.alloc (.cells #[.bool true, .int .i64 p, .int .u32 (y : Int)] 72) := ⟨_, rfl⟩
  have hlx := h.x.lt
  have hly := h.y.lt
  have hla := h.ma.lt
  have hlb := h.mb.lt
  have HXn : Hid (X ≠ ga ∧ X ≠ gb ∧ X ≠ gx ∧ X ≠ gy) := ⟨by omega, by omega, by omega, by omega⟩
  have s1 := h.ma.small
  have s2 := h.mb.small
  have HF : Hid (Far T a ga b gb gx gy) := hF
  rw [← hW1] at hT1 hBx hKw
  rw [← hX] at hBx
  have c0 := hT1.t.cell (i := 0) rfl
  have c1 := hT1.t.cell (i := 1) rfl
  have c2 := hT1.t.cell (i := 2) rfl
  have c3 := hT1.t.cell (i := 3) rfl
  have b0 := hBx.cell (i := 0) rfl
  have b1 := hBx.cell (i := 1) rfl
  have b2 := hBx.cell (i := 2) rfl
  have HT1 : Hid (Tw W1 T a ga b gb gx gy xs ys) := hT1
  have HBx : Hid (Blk _ _ _ _) := hBx
  have HKw : Hid (Keeps (Hot ga gb gx gy) w W1) := hKw
  have HE : Hid (W1 = w.alloc (.cells #[.bool true, .int .i64 p, .int .u32 (y : Int)] 72) ∧ X = w.heap.size) := ⟨hW1, hX⟩
  have HW : Hid (∀ w, Mm w b gb ys → Calls Try.prog 21 #[.pointer (some ⟨b, 0, none⟩), .int .i64 p, .int .u32 (y : Int)] w fun e w' => e = .returned (.int .i64 51) ∧ w' = w) := fun w h => write_out b gb ys p y w h hp hp64
  obtain ⟨L, hL⟩ : ∃ L, L = xs.length := ⟨_, rfl⟩
  obtain ⟨M, hM⟩ : ∃ M, M = ys.length := ⟨_, rfl⟩
  have HLM : Hid (L = xs.length ∧ M = ys.length) := ⟨hL, hM⟩
  rw [← hL] at c2 s1
  rw [← hM] at c3 s2
  rw [← hL, ← hM]
  rw [← hy]
  have hpl := hp
  rw [← hM] at hpl
  clear hT1 hBx hKw h hF hL hM hlx hly hla hlb hX hp hy hW1
  unfold workV
  go_enter Try.func26, Try.ntmps26
  go_wp2
  rw [← HE.out.1, ← HE.out.2]
  go_quiet (fail)
  go_wp2_with fail
  go_quiet (fail)
  go_wp2_with fail
  refine (HW.out _ (HT1.out.mb.drewN _)).mono ?_
  rintro e w2 ⟨rfl, hw⟩
  obtain rfl := hw.symm
  clear hw
  have HFin : Hid (∀ k, Wrote w T a ga b gb gx gy L M (.returned (.bool true)) (W1.drewN k)) := fun k =>
    ⟨rfl, xs, ys, HT1.out.grown ((Keeps.refl _ W1).drewN k), HLM.out.1.symm, HLM.out.2.symm, HKw.out.drewN k⟩
  by_cases hq : p < 0
  · go_wp2
    go_ret
    exact HFin.out _
  · have hq2 : (M : Int) ≤ p := by omega
    go_wp2
    go_ret
    exact HFin.out _

theorem twrite_any (T a ga b gb gx gy : Nat) (xs ys : List UInt32) (s : Bool) (p : Int) (x : UInt32) (w : World) (h : Tw w T a ga b gb gx gy xs ys) (hF : Far T a ga b gb gx gy) (hp : p ≤ 9223372036854775807) :
    Calls Try.prog 26 #[.pointer (some ⟨T, 0, none⟩), workV s p x.toNat] w fun e w' => Wrote w T a ga b gb gx gy xs.length ys.length e w' := by
  cases s with
  | false =>
    by_cases hin : 0 ≤ p ∧ p < xs.length
    · obtain ⟨q, rfl⟩ : ∃ q : Nat, p = q := ⟨p.toNat, by omega⟩
      exact twrite_a_in T a ga b gb gx gy xs ys q x w h hF (by omega)
    · exact twrite_a_out T a ga b gb gx gy xs ys p x w h hF hin hp
  | true =>
    by_cases hin : 0 ≤ p ∧ p < ys.length
    · obtain ⟨q, rfl⟩ : ∃ q : Nat, p = q := ⟨p.toNat, by omega⟩
      exact twrite_b_in T a ga b gb gx gy xs ys q x w h hF (by omega)
    · exact twrite_b_out T a ga b gb gx gy xs ys p x w h hF hin hp

end Go.Proofs.Ytljhdijledclhaa
