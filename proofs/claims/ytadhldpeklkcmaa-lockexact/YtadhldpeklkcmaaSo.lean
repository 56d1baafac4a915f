import Derived.Test.YtadhldpeklkcmaaSh
namespace Go.Proofs.Ytadhldpeklkcmaa
open Go.RowKit
set_option linter.unusedVariables false
set_option maxRecDepth 10000

theorem Pst.Same.swap {p : Pst} (h : p.Same) : p.swap.Same := ⟨h.two, h.one, h.ch⟩

set_option maxHeartbeats 1000000 in
theorem swap_any (p : Pst) (N : Nat) (w : World) (hok : p.Ok N w) (hs : p.Same) :
    Calls Try.prog 11 #[.pointer (some ⟨p.WB, 0, none⟩)] w fun e w' => e = .returned (.tuple #[]) ∧ p.swap.Ok N w' ∧ p.swap.Same ∧ Keeps (fun k => N ≤ k) w w' := by
  have HO : Hid (p.Ok N w ∧ p.Same) := ⟨hok, hs⟩
  obtain ⟨m, hm⟩ : ∃ m, m = p.mb := ⟨_, rfl⟩
  obtain ⟨nn, hnn⟩ : ∃ nn, nn = p.nb := ⟨_, rfl⟩
  obtain ⟨m2, hm2⟩ : ∃ m2, m2 = p.mb2 := ⟨_, rfl⟩
  obtain ⟨n2, hn2⟩ : ∃ n2, n2 = p.nb2 := ⟨_, rfl⟩
  have hB : Blk w p.WB [.pointer (some ⟨m, 0, none⟩), .pointer (some ⟨nn, 0, none⟩), .pointer (some ⟨m2, 0, none⟩), .pointer (some ⟨n2, 0, none⟩), p.lv, p.kv, .slice none 0 0] 41 := by rw [hm, hnn, hm2, hn2]; exact hok.blk
  have HB : Hid (Blk w p.WB _ 41) := hB
  have HE : Hid (m = p.mb ∧ nn = p.nb ∧ m2 = p.mb2 ∧ n2 = p.nb2) := ⟨hm, hnn, hm2, hn2⟩
  have c0 := hB.cell (i := 0) rfl
  have c1 := hB.cell (i := 1) rfl
  have c2 := hB.cell (i := 2) rfl
  have c3 := hB.cell (i := 3) rfl
  have z0 := hB.frozen 0
  have z1 := hB.frozen 1
  have z2 := hB.frozen 2
  have z3 := hB.frozen 3
  have hS0 : w.drew.cell? ⟨p.WB, 0, none⟩ = some (.pointer (some ⟨m, 0, none⟩)) ∧ w.drew.cell? ⟨p.WB, 1, none⟩ = some (.pointer (some ⟨nn, 0, none⟩)) := ⟨c0, c1⟩
  have hS1 : w.drew.drew.cell? ⟨p.WB, 2, none⟩ = some (.pointer (some ⟨m2, 0, none⟩)) ∧ w.drew.drew.cell? ⟨p.WB, 3, none⟩ = some (.pointer (some ⟨n2, 0, none⟩)) := ⟨c2, c3⟩
  obtain ⟨W0, hW0⟩ : ∃ W0, W0 = w.setCell ⟨p.WB, 0, none⟩ (.pointer (some ⟨m2, 0, none⟩)) := ⟨_, rfl⟩
  have hB0 : Blk W0 p.WB [.pointer (some ⟨m2, 0, none⟩), .pointer (some ⟨nn, 0, none⟩), .pointer (some ⟨m2, 0, none⟩), .pointer (some ⟨n2, 0, none⟩), p.lv, p.kv, .slice none 0 0] 41 := by rw [hW0]; exact hB.setCell 0 _
  have hS2 : (w.setCell ⟨p.WB, 0, none⟩ (.pointer (some ⟨m2, 0, none⟩))).drew.drew.cell? ⟨p.WB, 2, none⟩ = some (.pointer (some ⟨m2, 0, none⟩)) ∧ (w.setCell ⟨p.WB, 0, none⟩ (.pointer (some ⟨m2, 0, none⟩))).drew.drew.cell? ⟨p.WB, 3, none⟩ = some (.pointer (some ⟨n2, 0, none⟩)) := by rw [← hW0]; exact ⟨hB0.cell (i := 2) rfl, hB0.cell (i := 3) rfl⟩
  have hB1 : Blk (W0.setCell ⟨p.WB, 1, none⟩ (.pointer (some ⟨n2, 0, none⟩))) p.WB [.pointer (some ⟨m2, 0, none⟩), .pointer (some ⟨n2, 0, none⟩), .pointer (some ⟨m2, 0, none⟩), .pointer (some ⟨n2, 0, none⟩), p.lv, p.kv, .slice none 0 0] 41 := hB0.setCell 1 _
  have hS3 : ((w.setCell ⟨p.WB, 0, none⟩ (.pointer (some ⟨m2, 0, none⟩))).setCell ⟨p.WB, 1, none⟩ (.pointer (some ⟨n2, 0, none⟩))).drew.drew.cell? ⟨p.WB, 2, none⟩ = some (.pointer (some ⟨m2, 0, none⟩)) ∧ ((w.setCell ⟨p.WB, 0, none⟩ (.pointer (some ⟨m2, 0, none⟩))).setCell ⟨p.WB, 1, none⟩ (.pointer (some ⟨n2, 0, none⟩))).drew.drew.cell? ⟨p.WB, 3, none⟩ = some (.pointer (some ⟨n2, 0, none⟩)) := by rw [← hW0]; exact ⟨hB1.cell (i := 2) rfl, hB1.cell (i := 3) rfl⟩
  obtain ⟨W1, hW1⟩ : ∃ W1, W1 = ((w.setCell ⟨p.WB, 0, none⟩ (.pointer (some ⟨m2, 0, none⟩))).setCell ⟨p.WB, 1, none⟩ (.pointer (some ⟨n2, 0, none⟩))).drew.drew := ⟨_, rfl⟩
  have hBW : Blk W1 p.WB [.pointer (some ⟨m2, 0, none⟩), .pointer (some ⟨n2, 0, none⟩), .pointer (some ⟨m2, 0, none⟩), .pointer (some ⟨n2, 0, none⟩), p.lv, p.kv, .slice none 0 0] 41 := by rw [hW1, ← hW0]; exact hB1.drew.drew
  have hKW : Keeps (· = p.WB) w W1 := by rw [hW1]; exact ((((Keeps.refl (· = p.WB) w).setCell _ _ fun _ => rfl).setCell _ _ fun _ => rfl).drew).drew
  have HF : Hid (p.swap.Ok N ((W1.setCell ⟨p.WB, 2, none⟩ (.pointer (some ⟨m, 0, none⟩))).setCell ⟨p.WB, 3, none⟩ (.pointer (some ⟨nn, 0, none⟩))) ∧ p.swap.Same ∧ Keeps (fun k => N ≤ k) w ((W1.setCell ⟨p.WB, 2, none⟩ (.pointer (some ⟨m, 0, none⟩))).setCell ⟨p.WB, 3, none⟩ (.pointer (some ⟨nn, 0, none⟩)))) := by
    have hK2 : Keeps (· = p.WB) w ((W1.setCell ⟨p.WB, 2, none⟩ (.pointer (some ⟨m, 0, none⟩))).setCell ⟨p.WB, 3, none⟩ (.pointer (some ⟨nn, 0, none⟩))) := (hKW.setCell _ _ fun _ => rfl).setCell _ _ fun _ => rfl
    refine ⟨hok.swap ?_ hK2, hs.swap, hK2.mono fun k _ e => hok.geF (Pst.f0 e)⟩
    have h := (hBW.setCell 2 (.pointer (some ⟨m, 0, none⟩))).setCell 3 (.pointer (some ⟨nn, 0, none⟩))
    have e : [Value.pointer (some ⟨m2, 0, none⟩), .pointer (some ⟨n2, 0, none⟩), .pointer (some ⟨m, 0, none⟩), .pointer (some ⟨nn, 0, none⟩), p.lv, p.kv, .slice none 0 0] = p.swap.cells := by rw [hm, hnn, hm2, hn2]; rfl
    rw [← e]
    exact h
  have d2 := hBW.cell (i := 2) rfl
  have d3 := hBW.cell (i := 3) rfl
  have y2 := hBW.frozen 2
  have y3 := hBW.frozen 3
  have HW1 : Hid (W1 = _) := hW1
  clear hB0 hB1 hW0 W0 hBW hKW hW1
  clear hok hs hm hnn hm2 hn2 hB
  go_enter Try.func11, Try.ntmps11
  go_wp2_with fail
  go_region_held3 (fun w' => w'.cell? ⟨p.WB, 0, none⟩ = some (.pointer (some ⟨m, 0, none⟩)) ∧ w'.cell? ⟨p.WB, 1, none⟩ = some (.pointer (some ⟨nn, 0, none⟩))) (first | exact hS0 | go_keep) (fail)
  clear hS0
  go_wp2_with fail
  go_region_held3 (fun w' => w'.cell? ⟨p.WB, 2, none⟩ = some (.pointer (some ⟨m2, 0, none⟩)) ∧ w'.cell? ⟨p.WB, 3, none⟩ = some (.pointer (some ⟨n2, 0, none⟩))) (first | exact hS1 | exact hS2 | exact hS3 | go_keep) (fail)
  rw [← HW1.out]
  clear hS1 hS2 hS3 HW1 c0 c1 c2 c3 z0 z1 z2 z3
  go_wp2
  go_returns
  exact ⟨rfl, HF.out⟩
end Go.Proofs.Ytadhldpeklkcmaa
