import Derived.Test.YtmkeccibminnhaaFe
namespace Go.Proofs.Ytmkeccibminnhaa
open Go.RowKit
set_option linter.unusedVariables false
set_option maxRecDepth 6000

/-- The document's cursor, in block b. -/
structure Cu (w : World) (b : Nat) (g o cap : Nat) (B : List UInt8) (p : Nat) (bad : Bool) : Prop where
  blk : Blk w b [.slice (some ⟨g, o, none⟩) B.length cap, .int .i64 p, .bool bad] 58
  seg : Seg w (some ⟨g, o, none⟩) B
  ne : B ≠ [] → g ≠ b
  cap : B.length ≤ cap ∧ cap ≤ maxLen
  le : p ≤ B.length
theorem Cu.kept {S : Nat → Prop} {w w' : World} {b g o cap p : Nat} {B : List UInt8} {bad : Bool} (h : Cu w b g o cap B p bad) (hK : Keeps S w w') (hb : ¬ S b) (hg : ¬ S g) : Cu w' b g o cap B p bad :=
  ⟨h.blk.kept hK hb, h.seg.keptB hK fun _ y hy => by cases hy; exact hg, h.ne, h.cap, h.le⟩

theorem Cu.badden {w : World} {b g o cap p : Nat} {B : List UInt8} {bad : Bool} (h : Cu w b g o cap B p bad) (k : Nat) : Cu ((w.drewN k).setCell ⟨b, 2, none⟩ (.bool true)) b g o cap B p true ∧ Keeps (· = b) w ((w.drewN k).setCell ⟨b, 2, none⟩ (.bool true)) := by
  have hK : Keeps (· = b) w ((w.drewN k).setCell ⟨b, 2, none⟩ (.bool true)) := ((Keeps.refl (· = b) w).drewN k).setCell _ _ fun _ => rfl
  exact ⟨⟨(h.blk.drewN k).setCell 2 (.bool true), h.seg.keptB hK (fun hn y hy => by cases hy; exact h.ne hn), h.ne, h.cap, h.le⟩, hK⟩
theorem Cu.go {w : World} {b g o cap p n : Nat} {B : List UInt8} {bad : Bool} (h : Cu w b g o cap B p bad) (hn : p + n ≤ B.length) (k : Nat) : Cu ((w.drewN k).setCell ⟨b, 1, none⟩ (.int .i64 ((p : Int) + (n : Int)))) b g o cap B (p + n) bad ∧ Keeps (· = b) w ((w.drewN k).setCell ⟨b, 1, none⟩ (.int .i64 ((p : Int) + (n : Int)))) := by
  have hK : Keeps (· = b) w ((w.drewN k).setCell ⟨b, 1, none⟩ (.int .i64 ((p : Int) + (n : Int)))) := ((Keeps.refl (· = b) w).drewN k).setCell _ _ fun _ => rfl
  refine ⟨⟨?_, h.seg.keptB hK (fun hn y hy => by cases hy; exact h.ne hn), h.ne, h.cap, hn⟩, hK⟩
  have := (h.blk.drewN k).setCell 1 (.int .i64 ((p : Int) + (n : Int)))
  exact this

set_option maxHeartbeats 1000000 in
theorem take_bad (b g o cap p n : Nat) (B : List UInt8) (w : World) (h : Cu w b g o cap B p true) :
    Calls Try.prog 25 #[.pointer (some ⟨b, 0, none⟩), .int .i64 n] w fun e w' => e = .returned (.slice none 0 0) ∧ Cu w' b g o cap B p true ∧ Keeps (· = b) w w' := by
  have c2 := h.blk.cell (i := 2) rfl
  have f2 := h.blk.frozen 2
  have HC : Hid (Cu w b g o cap B p true) := h
  obtain ⟨L, hL⟩ : ∃ L, B.length = L := ⟨_, rfl⟩
  have c0 := h.blk.cell (i := 0) rfl
  have c1 := h.blk.cell (i := 1) rfl
  rw [hL] at c0
  clear h hL
  go_enter Try.func25, Try.ntmps25
  go_wp2
  go_quiet (fail)
  go_wp2
  go_ret
  exact ⟨rfl, HC.out.badden _⟩

set_option maxHeartbeats 1000000 in
theorem take_short (b g o cap p n : Nat) (B : List UInt8) (w : World) (h : Cu w b g o cap B p false) (hn : B.length < p + n) (hnb : n ≤ 4294967296) :
    Calls Try.prog 25 #[.pointer (some ⟨b, 0, none⟩), .int .i64 n] w fun e w' => e = .returned (.slice none 0 0) ∧ Cu w' b g o cap B p true ∧ Keeps (· = b) w w' := by
  have c2 := h.blk.cell (i := 2) rfl
  have f2 := h.blk.frozen 2
  have f1 := h.blk.frozen 1
  obtain ⟨L, hL⟩ : ∃ L, B.length = L := ⟨_, rfl⟩
  have c0 := h.blk.cell (i := 0) rfl
  have c1 := h.blk.cell (i := 1) rfl
  rw [hL] at c0
  have hc := h.cap
  unfold maxLen at hc
  have hle := h.le
  rw [hL] at hc hle
  have HC : Hid (Cu w b g o cap B p false) := h
  have e1 : IntKind.i64.wrap ((L : Int) - (p : Int)) = (L : Int) - p := by rw [IntKind.wrap_i64]; omega
  have h1 : (L : Int) - p < n := by omega
  clear h hL hn hc hle
  go_enter Try.func25, Try.ntmps25
  go_wp2
  go_quiet (fail)
  go_wp2
  go_ret
  exact ⟨rfl, HC.out.badden _⟩

set_option maxHeartbeats 1000000 in
theorem take_ok (b g o cap p n : Nat) (B : List UInt8) (w : World) (h : Cu w b g o cap B p false) (hn : p + n ≤ B.length) :
    Calls Try.prog 25 #[.pointer (some ⟨b, 0, none⟩), .int .i64 n] w fun e w' => (∃ x, e = .returned (.slice (some ⟨g, x, none⟩) n (cap - p)) ∧ (x = o + p ∨ n = 0)) ∧ Cu w' b g o cap B (p + n) false ∧ Keeps (· = b) w w' := by
  have c2 := h.blk.cell (i := 2) rfl
  have f2 := h.blk.frozen 2
  have f1 := h.blk.frozen 1
  obtain ⟨L, hL⟩ : ∃ L, B.length = L := ⟨_, rfl⟩
  have c0 := h.blk.cell (i := 0) rfl
  have c1 := h.blk.cell (i := 1) rfl
  rw [hL] at c0
  have hc := h.cap
  unfold maxLen at hc
  have hle := h.le
  rw [hL] at hc hle
  have HC : Hid (Cu w b g o cap B p false ∧ p + n ≤ B.length) := ⟨h, hn⟩
  have e1 : IntKind.i64.wrap ((L : Int) - (p : Int)) = (L : Int) - p := by rw [IntKind.wrap_i64]; omega
  have e2 : IntKind.i64.wrap ((p : Int) + (n : Int)) = (p : Int) + n := by rw [IntKind.wrap_i64]; omega
  have h1 : ¬ (L : Int) - p < n := by omega
  have h2 : (p : Int) ≤ (p : Int) + n := by omega
  have h3 : (p : Int) + n ≤ cap := by omega
  clear h hL hn
  go_enter Try.func25, Try.ntmps25
  go_wp2
  go_quiet (fail)
  go_wp2
  go_quiet (fail)
  go_wp2
  all_goals go_ret
  all_goals first
    | exact ⟨⟨_, rfl, by omega⟩, HC.out.1.go HC.out.2 _⟩
    | (have hcp : cap = p := by omega
       have h9 := HC.out
       rw [hcp] at h9
       exact ⟨⟨_, rfl, by omega⟩, h9.1.go h9.2 _⟩)

set_option maxHeartbeats 1000000 in
theorem take_short0 (b p n L cap : Nat) (a : Option Addr) (w : World) (h : Blk w b [.slice a L cap, .int .i64 p, .bool false] 58) (hn : L < p + n) (hb : p ≤ L ∧ L ≤ 9223372036854775807 ∧ n ≤ 4294967296) :
    Calls Try.prog 25 #[.pointer (some ⟨b, 0, none⟩), .int .i64 n] w fun e w' => e = .returned (.slice none 0 0) ∧ Keeps (· = b) w w' := by
  have c2 := h.cell (i := 2) rfl
  have f2 := h.frozen 2
  have f1 := h.frozen 1
  have c0 := h.cell (i := 0) rfl
  have c1 := h.cell (i := 1) rfl
  have e1 : IntKind.i64.wrap ((L : Int) - (p : Int)) = (L : Int) - p := by rw [IntKind.wrap_i64]; omega
  have h1 : (L : Int) - p < n := by omega
  clear h hn hb
  go_enter Try.func25, Try.ntmps25
  go_wp2
  go_quiet (fail)
  go_wp2
  go_ret
  exact ⟨rfl, ((Keeps.refl (· = b) w).drewN _).setCell _ _ fun _ => rfl⟩
end Go.Proofs.Ytmkeccibminnhaa
