import Derived.Test.YtlddioedednojaaB
import Derived.Handy
namespace Go.Proofs.Ytlddioedednojaa
open Go.RowKit Go.Shelf
set_option linter.unusedVariables false
set_option linter.unusedSimpArgs false
set_option maxRecDepth 6000

/-- A verdict. -/
abbrev vd (s : Bool) (a b c : Int) : Value := .agg #[.bool s, .int .i64 a, .int .i64 b, .int .i64 c]
abbrev vds (s : Bool) (a b c : Int) : List Value := [.bool s, .int .i64 a, .int .i64 b, .int .i64 c]
theorem vds_range {s : Bool} {a b c : Int} {w : World} {g : Nat} (h : Blk w g (vds s a b c) 24) : w.rangeAt g 0 (vds s a b c) := fun j v hv => by
  rw [Nat.zero_add]; exact h.cell hv
theorem load_vd {s : Bool} {a b c : Int} {w : World} {g : Nat} (h : Blk w g (vds s a b c) 24) : (loadVar 24 ⟨g, 0, none⟩).run Try.prog w = .ok (vd s a b c) w :=
  run_loadVar_mid w g 0 24 (vds s a b c) _ (vds_range h) Try.underlying24 rfl (by kernel_rfl)
theorem results_cell {P : Program} {fn : Func} {p : Tmp} {ty : TypeId} (h : fn.results = #[.cell p ty]) (tmps : Array Value) (w : World) (a : Addr) (v : Value)
    (hp : tmps.getD p undef = .pointer (some a)) (hl : (loadVar ty a).run P w = .ok v w) : (results fn tmps).run P w = .ok v w := by
  have hp' : tmps[p]?.getD undef = .pointer (some a) := by simpa using hp
  simp [results, h, hp', asAddr, hl]

set_option maxHeartbeats 1000000 in
theorem hold_any (a b : Option Addr) (A B : List Sn) (ca cb : Nat) (w : World) (hA : ∀ s ∈ A, s.Fine) (hB : ∀ s ∈ B, s.Fine) (hla : A.length ≤ ca ∧ ca ≤ maxLen) (hlb : B.length ≤ cb ∧ cb ≤ maxLen) (ha : SegS w a A) (hb : SegS w b B) :
    Calls Try.prog 6 #[.slice a A.length ca, .slice b B.length cb] w fun r w' => r = .returned (vd (decide (cp A B = min A.length B.length)) (cp A B) A.length B.length) ∧ Keeps (fun _ => False) w w' := by
  obtain ⟨W, hW⟩ : ∃ W, W = w.alloc (.cells #[.bool false, .int .i64 0, .int .i64 0, .int .i64 0] 24) := ⟨_, rfl⟩
  have hK : Keeps (fun _ => False) w W := by rw [hW]; exact (Keeps.refl _ w).alloc _
  have hBk : Blk W w.heap.size [.bool false, .int .i64 0, .int .i64 0, .int .i64 0] 24 := by rw [hW]; exact Blk.new w _ 24
  obtain ⟨G, hG⟩ : ∃ G, G = w.heap.size := ⟨_, rfl⟩
  rw [← hG] at hBk
  have HC := match_any a b A B ca cb W hA hB hla hlb (ha.kept hK fun _ _ h => h) (hb.kept hK fun _ _ h => h)
  obtain ⟨n, hn⟩ : ∃ n, n = A.length := ⟨_, rfl⟩
  obtain ⟨m, hm⟩ : ∃ m, m = B.length := ⟨_, rfl⟩
  obtain ⟨K, hKp⟩ : ∃ K, K = cp A B := ⟨_, rfl⟩
  obtain ⟨D, hD⟩ : ∃ D, D = decide (cp A B = min A.length B.length) := ⟨_, rfl⟩
  rw [← hD, ← hn, ← hm, ← hKp] at HC ⊢
  have HH : Hid (Calls _ _ _ _ _) := HC
  have HB : Hid (Blk W G [.bool false, .int .i64 0, .int .i64 0, .int .i64 0] 24 ∧ Keeps (fun _ => False) w W ∧ w.heap.size ≤ G) := ⟨hBk, hK, by omega⟩
  have hc1 : (n : Int) ≤ ca := by omega
  have hc2 : (ca : Int) ≤ 9223372036854775807 := by unfold maxLen at hla; omega
  have hc3 : (m : Int) ≤ cb := by omega
  have hc4 : (cb : Int) ≤ 9223372036854775807 := by unfold maxLen at hlb; omega
  clear hla hlb ha hb hn hm hA hB HC hKp hD hBk hK
  go_enter Try.func6, Try.ntmps6
  go_wp2_with fail
  rw [← hG, ← hW]
  clear hG hW
  refine HH.out.mono ?_
  rintro r w1 ⟨rfl, hK1⟩
  have hB1 := HB.out.1.kept hK1 fun h => h
  have c0 := hB1.cell (i := 0) rfl
  have c1 := hB1.cell (i := 1) rfl
  have c2 := hB1.cell (i := 2) rfl
  have c3 := hB1.cell (i := 3) rfl
  have f0 := hB1.frozen 0
  have f1 := hB1.frozen 1
  have f2 := hB1.frozen 2
  have f3 := hB1.frozen 3
  have HE : Hid (Blk ((((w1.setCell ⟨G, 0, none⟩ (.bool D)).setCell ⟨G, 1, none⟩ (.int .i64 K)).setCell ⟨G, 2, none⟩ (.int .i64 n)).setCell ⟨G, 3, none⟩ (.int .i64 m)) G (vds D K n m) 24 ∧
      Keeps (fun _ => False) w ((((w1.setCell ⟨G, 0, none⟩ (.bool D)).setCell ⟨G, 1, none⟩ (.int .i64 K)).setCell ⟨G, 2, none⟩ (.int .i64 n)).setCell ⟨G, 3, none⟩ (.int .i64 m))) := by
    have hg : G < w.heap.size → False := fun h => by have := HB.out.2.2; omega
    exact ⟨(((hB1.setCell 0 _).setCell 1 _).setCell 2 _).setCell 3 _, ((((HB.out.2.1.trans hK1 fun _ _ h => h).setCell ⟨G, 0, none⟩ _ hg).setCell ⟨G, 1, none⟩ _ hg).setCell ⟨G, 2, none⟩ _ hg).setCell ⟨G, 3, none⟩ _ hg⟩
  clear hB1 hK1 HH HB
  go_wp2
  exact bodyPost_ret (results_cell rfl _ _ _ _ rfl (load_vd HE.out.1)) rfl ⟨rfl, HE.out.2⟩
end Go.Proofs.Ytlddioedednojaa
