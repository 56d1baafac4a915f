import Derived.Test.YtonjmknjjdnjkaaExE
namespace Go.Proofs.Ytonjmknjjdnjkaa
open Go.RowKit
set_option linter.unusedVariables false

set_option maxRecDepth 100000 in
set_option maxHeartbeats 1000000 in
theorem refRText_short (b p N : Nat) (most : Int) (v : Value) (xs : List UInt8) (w : World) (h : RR w b v xs p 0) (hn : p + 4 ≤ xs.length) (hN : N = highN ((xs.drop p).take 4)) (hm : ¬ max most 0 < (N : Int)) (hs4 : xs.length < p + 4 + N) :
    Calls Try.prog 63 #[.pointer (some ⟨b, 0, none⟩), .int .i64 most] w fun e w' => e = .returned (.string ⟨#[]⟩) ∧ RR w' b v xs p 12 ∧ Keeps (· = b) w w' := by
  obtain ⟨a, c, rfl, h1, h2, hs⟩ := h.look
  rcases hs with hs | ⟨g, o, rfl, hcell⟩
  · rw [hs] at hn; simp at hn
  have c0 := h.blk.cell (i := 0) rfl
  have c1 := h.blk.cell (i := 1) rfl
  have c2 := h.blk.cell (i := 2) rfl
  have f2 := h.blk.frozen 2
  have hle := h.le
  have HH : Hid (RR _ _ _ _ _ _) := h
  have hln : ((xs.drop p).take 4).length = 4 := by rw [List.length_take, List.length_drop]; omega
  have hNlt := highN_lt ((xs.drop p).take 4)
  rw [hln, ← hN] at hNlt
  have HC : Hid (∀ k, Calls Try.prog 85 #[.slice (some ⟨g, o + p, none⟩) 4 (c - p)] (w.drewN k) fun e w' => e = .returned (.int .u64 N) ∧ w' = w.drewN k) := fun k => by
    rw [hN]
    exact high_any g (o + p) 4 (c - p) ((xs.drop p).take 4) (w.drewN k) (fun j hj => by
      rw [hln] at hj
      have := hcell (p + j) (by omega)
      rw [Nat.add_assoc, World.cell?_drewN, this]
      simp) hln (by omega)
  obtain ⟨L, hL⟩ : ∃ L, L = xs.length := ⟨_, rfl⟩
  have HL : Hid (xs.length < p + 4 + N) := hs4
  rw [← hL] at hn hle HH c0 h1 hs4 ⊢
  have t1 : ¬ (L : Int) - (p : Int) < 4 := by omega
  have hLm : (L : Int) ≤ 9223372036854775807 := by omega
  have hcp : ¬ c = p := by omega
  have HW : Hid (IntKind.i64.wrap ((p : Int) + 4) = (p : Int) + 4) := by show _ = _; rw [IntKind.wrap_i64]; omega
  have H3 : Hid ((p : Int) + 4 ≤ (c : Int)) := by show _ ≤ _; omega
  have HT : Hid (((p : Int) + 4).toNat - p = 4) := by show _ = _; omega
  have HNI : Hid (True ∧ wrap64 (N : Int) = (N : Int)) := ⟨trivial, by unfold wrap64; omega⟩
  have H5 : Hid (True ∧ (L : Int) - (p : Int) - 4 < (N : Int)) := ⟨trivial, by omega⟩
  by_cases hm0 : most < 0
  · exfalso; omega
  · have HCM : Hid (True ∧ ¬ most < (N : Int)) := ⟨trivial, by omega⟩
    clear h hL hN hcell hln hm hNlt hn h1 h2 hs4
    go_enter Try.func63, Try.ntmps63
    go_wp2
    go_quiet (fail)
    go_wp2
    have hwr := HW.out
    have t3 := H3.out
    go_quiet ((go_at_call 85; (try rw [HT.out]); exact (HC.out _).mono fun e w2 h2 => ⟨h2.1, _, h2.2⟩))
    have hNi := HNI.out.2
    have hcmp := HCM.out.2
    go_wp2
    have t5 := H5.out.2
    go_quiet (fail)
    go_wp2
    go_ret
    exact ⟨rfl, (HH.out.drewN _).fall 12, ((Keeps.refl _ w).drewN _).setCell _ _ fun _ => rfl⟩

end Go.Proofs.Ytonjmknjjdnjkaa
