import Derived.Test.YtmkeccibminnhaaRf
namespace Go.Proofs.Ytmkeccibminnhaa
open Go.RowKit
set_option linter.unusedVariables false
set_option maxRecDepth 6000

set_option maxHeartbeats 1000000 in
theorem rcore_any (b g p : Nat) (B : List UInt8) (w : World) (h : Rd w b g B p 0) : Calls Try.prog 70 #[.agg #[.pointer (some ⟨b, 0, none⟩)]] w fun e w' =>
    ((∃ (x : Core) (q : Nat), rdCore B p = .ok (x.ws, q) ∧ e = .returned x.v ∧ eCore.Ok w' x ∧ (∀ k ∈ eCore.bl x, w.heap.size ≤ k ∧ k < w'.heap.size) ∧ Rd w' b g B q 0) ∨ (∃ q, rdCore B p = .error q ∧ e = gone q 110)) ∧ Keeps (· = b) w w' := by
  have HR : Hid (Rd w b g B p 0) := h
  clear h
  go_enter Try.func70, Try.ntmps70
  go_wp2_with fail
  have hK : Keeps (fun _ => False) w (w.alloc (.cells #[.pointer (some ⟨b, 0, none⟩)] 99)) := (Keeps.refl _ w).alloc _
  refine (readWins_any b g p B _ (HR.out.kept hK (fun e => e) (fun e => e))).mono ?_
  rintro e w1 ⟨⟨l, q, ad, cp, hr, rfl, hL, hR1⟩ | ⟨q, hr, rfl⟩, hK1⟩
  · have HF : Hid (rdCore B p = .ok (l, q) ∧ Lst eWin w1 (w.alloc (.cells #[.pointer (some ⟨b, 0, none⟩)] 99)).heap.size ad cp l ∧ Rd w1 b g B q 0 ∧ Keeps (· = b) w w1) := ⟨hr, hL, hR1, (hK.mono fun _ _ e => e.elim).trans hK1 fun _ _ e => e⟩
    obtain ⟨N, hN⟩ : ∃ N, l.length = N := ⟨_, rfl⟩
    have HN : Hid (l.length = N) := hN
    rw [hN]
    clear hr hL hR1 hK1 hK hN
    go_wp2
    go_ret
    refine ⟨.inl ⟨⟨ad, cp, l⟩, q, HF.out.1, by rw [← HN.out]; rfl, ⟨HF.out.2.1.seg, HF.out.2.1.len, HF.out.2.1.ok⟩, ?_, HF.out.2.2.1⟩, HF.out.2.2.2⟩
    intro k hk
    obtain ⟨h1, y, h2, rfl⟩ := blk1_mem.1 hk
    refine ⟨Nat.le_trans ?_ (HF.out.2.1.low h1 y h2), HF.out.2.1.blk h1 y h2⟩
    simp
  · exact ⟨rfl, .inr ⟨q, hr, rfl⟩, (hK.mono fun _ _ e => e.elim).trans hK1 fun _ _ e => e⟩
end Go.Proofs.Ytmkeccibminnhaa
