import Derived.Test.YtadhldpeklkcmaaK
import Derived.Deep.RegionHeld3
import Derived.StillTailTactics
namespace Go.Proofs.Ytadhldpeklkcmaa
open Go.RowKit
set_option linter.unusedVariables false

theorem Try.mixedR : Try.prog.follows .mixedOrders = true := by kernel_rfl
theorem region_tailR {id : Nat} {Q : Exit → Act → World → Prop} {a : Act} {w : World} {l : List Oper} (n : Nat) (hB : Region.lexTailB .any l.toArray n = true)
    (h : wpStill Try.prog l.toArray (w.drewN 1) (fun a' => wpList Try.prog l.toArray Q (l.drop n) a' (w.drewN 1)) (l.take n) a) : (Code.region id l.toArray true).wp Try.prog Q a w :=
  wp_region_still_tail n Try.mixedR hB h

/-- The document's memory. -/
structure Rm (w : World) (b g : Nat) (xs : List UInt32) : Prop where
  ne : b ≠ g
  blk : Blk w b [.slice (some ⟨g, 0, none⟩) xs.length xs.length] 45
  row : Blk w g (wvs xs) 26
  small : xs.length ≤ 16384

theorem Rm.kept {S : Nat → Prop} {w w' : World} {b g : Nat} {xs : List UInt32} (h : Rm w b g xs) (k : Keeps S w w') (hb : ¬ S b) (hg : ¬ S g) : Rm w' b g xs :=
  ⟨h.ne, h.blk.kept k hb, h.row.kept k hg, h.small⟩
theorem Rm.grown {w w' : World} {b g : Nat} {xs : List UInt32} (h : Rm w b g xs) (k : Keeps (fun _ => False) w w') : Rm w' b g xs := h.kept k (fun e => e) fun e => e
theorem Rm.ltF {w : World} {b g : Nat} {xs : List UInt32} (h : Rm w b g xs) {k : Nat} (hk : k = b ∨ k = g) : k < w.heap.size := by
  rcases hk with rfl | rfl
  · exact h.blk.lt
  · exact h.row.lt
theorem Rm.set {w : World} {b g : Nat} {xs : List UInt32} (h : Rm w b g xs) (p : Nat) (x : UInt32) (hp : p < xs.length) : Rm (w.setCell ⟨g, p, none⟩ (.int .u32 (x.toNat : Int))) b g (lay xs p [x]) := by
  have hl : (lay xs p [x]).length = xs.length := lay_length xs p [x] (by simp; omega)
  refine ⟨h.ne, ?_, ?_, by rw [hl]; exact h.small⟩
  · rw [hl]; exact h.blk.setCell_ne h.ne _
  · have e : wvs (lay xs p [x]) = (wvs xs).set p (.int .u32 (x.toNat : Int)) := by
      rw [List.set_eq_take_append_cons_drop, if_pos (by rw [wvs_length]; exact hp)]
      simp [lay, wvs]
    rw [e]; exact h.row.setCell p _

set_option maxHeartbeats 400000 in
theorem rwords_in (b g : Nat) (xs : List UInt32) (p : Int) (w : World) (h : Rm w b g xs) (hf : LkOk xs p) :
    Calls Try.prog 63 #[.pointer (some ⟨b, 0, none⟩), .int .i64 p] w fun e w' => e = .returned (.tuple #[.int .u32 ((nx xs p).toNat : Int), .int .u32 ((tu xs p).toNat : Int), .int .i64 0]) ∧ Keeps (fun _ => False) w w' := by
  obtain ⟨h0, h1⟩ := hf
  obtain ⟨q, rfl⟩ : ∃ q : Nat, p = q := ⟨p.toNat, by omega⟩
  have c0 := h.blk.cell (i := 0) rfl
  have c1 := h.row.cell (wvs_get xs q (by omega))
  have c2 := h.row.cell (wvs_get xs (q + 1) (by omega))
  have e1 : nx xs q = xs[q]'(by omega) := by simp [nx, List.getD]; rw [List.getElem?_eq_getElem (by omega)]; rfl
  have e2 : tu xs q = xs[q + 1]'(by omega) := by simp [tu, List.getD]; rw [List.getElem?_eq_getElem (by omega)]; rfl
  rw [← e1] at c1
  rw [← e2] at c2
  have hs := h.small
  obtain ⟨L, hL⟩ : ∃ L, L = xs.length := ⟨_, rfl⟩
  rw [← hL] at c0 h1 hs
  obtain ⟨n, hn⟩ : ∃ n : Nat, n = (nx xs q).toNat := ⟨_, rfl⟩
  obtain ⟨t, ht⟩ : ∃ t : Nat, t = (tu xs q).toNat := ⟨_, rfl⟩
  rw [← hn] at c1 ⊢
  rw [← ht] at c2 ⊢
  have h2 : (L : Int) ≤ 16384 := by omega
  have h3 : IntKind.i64.wrap ((L : Int) - 1) = (L : Int) - 1 := by rw [IntKind.wrap_i64]; omega
  have h4 : ¬ ((L : Int) - 1 ≤ (q : Int)) := by omega
  obtain ⟨q1, hq1⟩ : ∃ q1, q1 = q + 1 := ⟨_, rfl⟩
  rw [← hq1] at c2
  have h5 : IntKind.i64.wrap ((q : Int) + 1) = (q1 : Int) := by rw [IntKind.wrap_i64]; omega
  have h6 : (q : Int) < L := by omega
  have h7 : (q1 : Int) < L := by omega
  clear hq1 h e1 e2 hL hn ht hs h1
  go_enter Try.func63, Try.ntmps63
  go_wp2_with fail
  have hS0 : w.cell? ⟨b, 0, none⟩ = some (.slice (some ⟨g, 0, none⟩) L L) ∧ w.cell? ⟨g, q, none⟩ = some (.int .u32 (n : Int)) ∧ w.cell? ⟨g, q1, none⟩ = some (.int .u32 (t : Int)) := ⟨c0, c1, c2⟩
  go_region_held3 (fun w' => w'.cell? ⟨b, 0, none⟩ = some (.slice (some ⟨g, 0, none⟩) L L) ∧ w'.cell? ⟨g, q, none⟩ = some (.int .u32 (n : Int)) ∧ w'.cell? ⟨g, q1, none⟩ = some (.int .u32 (t : Int))) (first | exact hS0 | go_keep) (fail)
  go_wp2
  go_ret3
  exact ⟨rfl, (Keeps.refl _ _).drew⟩

set_option maxHeartbeats 400000 in
theorem rwords_out (b g : Nat) (xs : List UInt32) (p : Int) (w : World) (h : Rm w b g xs) (hf : ¬ LkOk xs p) :
    Calls Try.prog 63 #[.pointer (some ⟨b, 0, none⟩), .int .i64 p] w fun e w' => e = .returned (.tuple #[.int .u32 0, .int .u32 0, .int .i64 51]) ∧ w' = w := by
  unfold LkOk at hf
  have c0 := h.blk.cell (i := 0) rfl
  have hs := h.small
  obtain ⟨L, hL⟩ : ∃ L, L = xs.length := ⟨_, rfl⟩
  rw [← hL] at c0 hf hs
  have h2 : (L : Int) ≤ 16384 := by omega
  have h3 : IntKind.i64.wrap ((L : Int) - 1) = (L : Int) - 1 := by rw [IntKind.wrap_i64]; omega
  clear h hs hL
  by_cases h0 : p < 0
  · clear hf
    go_enter Try.func63, Try.ntmps63
    go_wp2
    go_ret3
    exact ⟨rfl, rfl⟩
  · have h4 : (L : Int) - 1 ≤ p := by omega
    clear hf
    go_enter Try.func63, Try.ntmps63
    go_wp2
    go_ret3
    exact ⟨rfl, rfl⟩

end Go.Proofs.Ytadhldpeklkcmaa
