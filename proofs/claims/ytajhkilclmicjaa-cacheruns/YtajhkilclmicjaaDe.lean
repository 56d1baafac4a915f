import Derived.Test.YtajhkilclmicjaaDd
import Derived.Test.YtajhkilclmicjaaCp
namespace Go.Proofs.Ytajhkilclmicjaa
open Go.RowKit Go.Shelf
set_option linter.unusedVariables false
set_option linter.unusedSimpArgs false
set_option maxRecDepth 6000

theorem linesR_nil (w : World) : Calls Try.prog 14 #[.pointer none] w fun r w' => r = .returned (.slice none 0 0) ∧ w' = w := by
  go_enter Try.func14, Try.ntmps14
  go_wp2
  go_ret
  exact ⟨rfl, rfl⟩

set_option maxHeartbeats 4000000 in
theorem linesR_any (b : Nat) (us : List Int) (u : Value) (F : Nat → Prop) (w : World) (h : Rc w b us u F) (hus : ∀ x ∈ us, 0 ≤ x) :
    Calls Try.prog 14 #[ptr b] w fun e w' => ∃ G vs cap, e = .returned (.slice (some ⟨G, 0, none⟩) 4 cap) ∧ LD w' G vs (fun (i : Nat) => hd (i : Int) us) (fun k => w.heap.size ≤ k ∧ k < w'.heap.size) ∧ Keeps (fun _ => False) w w' := by
  have H3 : Hid (∀ (s : Int) (w' : World), Keeps (fun _ => False) w w' → Calls Try.prog 32 #[ptr b, .int .i64 s] w' fun r w'' => ∃ v, r = .returned v ∧ w''.ownsRow 0 3 1 v (hd s us).length (flat (hd s us)) ∧ (∀ g, v.ownBlock = some g → w'.heap.size ≤ g) ∧ Keeps (fun _ => False) w' w'') :=
    fun s w' hK => held_any b us u F s w' (h.kept hK fun _ _ h => h) hus
  obtain ⟨ls, els⟩ : ∃ ls : Nat → List Int, ls = fun (i : Nat) => hd (i : Int) us := ⟨_, rfl⟩
  have HL : Hid (∀ i : Nat, hd (i : Int) us = ls i) := fun i => by rw [els]
  have H0 : Hid (CR w w (.slice none 0 0) (fun _ => undef) ls 0) := ⟨by simpa using World.ownsRow_nil w 0 59 1, fun g hg => by simp [Value.ownBlock] at hg, fun i hi => by omega, Keeps.refl _ _⟩
  rw [← els]
  clear h hus els
  go_enter Try.func14, Try.ntmps14
  go_wp2
  go_loopw [3, 7] (fun v i wr => ∃ (j : Nat) (rows : Nat → Value), j ≤ 4 ∧ i = .int .i64 j ∧ CR w wr v rows ls j) (fun _ i _ => 4 - (intOf i).toNat)
  case atStart => exact ⟨0, _, by omega, rfl, H0.out⟩
  case round =>
    obtain ⟨j, rows, hj, rfl, hC⟩ := hrel
    clear H0
    by_cases hlt : j < 4
    · have H4 : Hid (Calls _ _ _ _ _) := H3.out j wr hC.keeps
      have hji : (j : Int) < 4 := by omega
      obtain ⟨va, vc, rfl⟩ := owns_form hC.own
      have HC : Hid (CR w wr (.slice va j vc) rows ls j) := hC
      clear hC
      go_wp2_with fail
      refine H4.out.mono ?_
      rintro r w3 ⟨v3, rfl, hO3, hN3, hK3⟩
      obtain ⟨a3, c3, rfl, hs3, hb3, hc3⟩ := owns_seg hO3
      obtain ⟨v', W', happ, hown', hgr⟩ := append_row a3 (hd (j : Int) us).length c3 (.slice va j vc) j _ (owns_kept HC.out.own hK3 fun _ _ h => h) (by omega)
      have HAP : Hid (∀ ty, _) := happ
      have hlt3 : ∀ x, a3 = some x → x.block < w3.heap.size := fun x hx => owns_lt hO3 (hb3 x hx)
      rw [HL.out j] at hs3 hc3 hown'
      have HE : Hid (CR w W' v' _ ls (j + 1)) := HC.out.more hK3 hs3 hc3 (fun x hx => ⟨hN3 _ (hb3 x hx), hlt3 x hx⟩) hown' hgr
      clear hO3 hN3 hK3 hs3 hb3 hc3 H4 HC happ hown' hgr hlt3
      go_wp2_with (at_builtin; go_must (refine wpList_append_run rfl (.tmp 10) (.tmp 14) 27 27 rfl (.slice va j vc) (.slice (some ⟨w3.heap.size, 0, none⟩) 1 1) v' W' rfl rfl HAP.out ?_; refine Hid.out ?_))
      unfold Hid
      go_wp2
      go_roundw
      case rel => exact ⟨j + 1, _, by omega, by go_num, HE.out⟩
      case measure => simp [intOf]; omega
    · obtain rfl : j = 4 := by omega
      obtain ⟨G, cap, rfl, hD⟩ := hC.ld
      have HE : Hid (LD wr G rows ls (fun k => w.heap.size ≤ k ∧ k < wr.heap.size) ∧ Keeps (fun _ => False) w wr) := ⟨hD, hC.keeps⟩
      clear hC hD hj hlt
      go_wp2
      go_ret
      exact ⟨G, rows, cap, rfl, HE.out⟩

end Go.Proofs.Ytajhkilclmicjaa
