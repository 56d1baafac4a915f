import Derived.Test.YtpccdhoaicabcaaXd
import Derived.Test.YtpccdhoaicabcaaSt
import Derived.Test.YtpccdhoaicabcaaXb
namespace Go.Proofs.Ytpccdhoaicabcaa
open Go.RowKit
set_option linter.unusedVariables false
set_option linter.unusedSimpArgs false
theorem func_nilN (w : World) (x y : Value) : (binOp .eql 48 (.func (.func 38) #[] #[x, y]) .nilFunc).run Try.prog w = .ok (.bool false) w := by kernel_rfl
attribute [local go_sem] Oper.semAt_some func_nilN

set_option maxHeartbeats 4000000 in
set_option maxRecDepth 20000 in
/-- The iterator of a nil memory's Leaves tells nothing. -/
theorem leaves_none (k : Nat) (B1 B2 : Nat) (root : Int) :
    Tells Fence.wide k Try.prog 38 #[.pointer (some ⟨B1, 0, none⟩), .pointer (some ⟨B2, 0, none⟩)] encL (fun _ W => W.cell? ⟨B1, 0, none⟩ = some (.pointer none) ∧ W.cell? ⟨B2, 0, none⟩ = some (.int .i64 root)) (fun s s' _ => s' = s + 1 ∧ s < 256) (fun _ _ _ => False) (fun s _ => s) (fun s => s = 256) (0 : Nat) := by
  intro l J Jx W hgood hskip hkeep hyield h0
  have HG : Hid (∀ s W, J s W → W.cell? ⟨B1, 0, none⟩ = some (.pointer none) ∧ W.cell? ⟨B2, 0, none⟩ = some (.int .i64 root)) := hgood
  have HS : Hid (∀ s s' W, J s W → (s' = s + 1 ∧ s < 256) → J s' W) := hskip
  have HD : Hid (∀ s W W', J s W → Keeps (fun _ => False) W W' → J s W') := hkeep
  have HJ : Hid (J 0 W) := h0
  clear hgood hskip hkeep hyield h0
  refine callsIn_of_wp Try.func38 rfl trivial ?_ rfl
  refine wpIn_wide.2 ?_
  simp only [Try.ntmps38, List.size_toArray, List.length_cons, List.length_nil, Nat.reduceAdd, Nat.reduceSub, Array.replicate_succ, Array.replicate_zero, List.push_toArray, List.append_toArray, List.nil_append, List.cons_append]
  go_wp2
  refine (wpIn_wide (n := k)).1 ?_
  gi_loopw [7] (fun i wr => ∃ s : Nat, s ≤ 256 ∧ i = .int .i64 s ∧ J s wr) (fun i _ => 256 - (intOf i).toNat)
  case atStart => exact ⟨0, by omega, rfl, HJ.out⟩
  case round =>
    obtain ⟨s, hs, rfl, hJ⟩ := hrel
    have HJs : Hid (J s wr) := hJ
    by_cases hlt : s < 256
    · obtain ⟨p1, p2⟩ := HG.out s wr hJ
      have hlt' : (s : Int) < 256 := by omega
      have HC : Hid (Calls _ _ _ wr _) := walk_nil root s wr
      clear hJ
      gi_wp2_with fail
      refine ⟨trivial, fun h => by simp [Fence.wide] at h, ?_⟩
      refine (callsIn_wide.2 HC.out).mono ?_
      rintro e w2 ⟨rfl, hk⟩
      have HJ3 : Hid (J (s + 1) (w2.alloc (.cells #[.int .i64 lf0.page, .int .i64 lf0.frame, .int .i64 lf0.rights] 51))) := HS.out s (s + 1) _ (HD.out _ _ _ HJs.out (hk.alloc _)) ⟨rfl, hlt⟩
      clear hk HC p1 p2
      gi_wp2
      refine ⟨fun _ h => (by cases h), ?_⟩
      gi_wp2
      go_roundw
      case rel => exact ⟨s + 1, by omega, by go_num, HJ3.out⟩
      case measure => simp [intOf]; omega
    · obtain rfl : s = 256 := by omega
      clear hJ
      gi_wp2
      go_end0
      exact ⟨⟨_, rfl⟩, .inl ⟨256, rfl, HJs.out⟩⟩

set_option maxRecDepth 40000 in
set_option maxHeartbeats 4000000 in
theorem nobody_any (A B C : Int) (W : Nat) (s2 s : Value) (w : World) : Calls Try.prog 31 #[opV 9 A B C W s2 s] w fun e w' => e = .returned (.bool true) ∧ Keeps (fun _ => False) w w' := by
  have H1 : Hid (∀ w, Calls _ _ _ w _) := fun w => walk_nil 0 0 w
  have H2 : Hid (∀ w, Calls _ _ _ w _) := fun w => address_nil (-1) (-1) (-1) w
  have H3 : Hid (∀ w, Calls _ _ _ w _) := fun w => build_nil (-1) none none 0 0 0 0 w
  have H4 : Hid (∀ w, Calls _ _ _ w _) := fun w => leaves_any none A w
  refine (callsIn_wide (n := 8)).1 ?_
  refine callsIn_of_wp_marks Try.func31 rfl trivial ?_ rfl
  refine wpIn_wide.2 ?_
  simp only [Try.ntmps31, List.size_toArray, List.length_cons, List.length_nil, Nat.reduceAdd, Nat.reduceSub, Array.replicate_succ, Array.replicate_zero, List.push_toArray, List.append_toArray, List.nil_append, List.cons_append]
  go_wp2_with fail
  refine (H1.out _).mono ?_
  rintro e w1 ⟨rfl, hk1⟩
  have HK1 : Hid (Keeps (fun _ => False) w w1) := ((Keeps.refl _ w).alloc _).trans hk1 fun _ _ e => e
  have ca := cellK (Blk.new w (#[.int .i64 9, .int .i64 A, .int .i64 B, .int .i64 C, .int .u32 W, s2, s]) 31 |>.cell (i := 1) rfl) hk1 fun e => e
  clear hk1
  have ca2 : ((w1.alloc (.cells #[.int .i64 (lf0.page : Nat), .int .i64 (lf0.frame : Nat), .int .i64 (lf0.rights : Nat)] 51)).alloc (.cells #[.bool true] 4)).cell? ⟨w.heap.size, 1, none⟩ = some (.int .i64 A) := cellK (cellK ca ((Keeps.refl (fun _ => False) w1).alloc _) fun e => e) ((Keeps.refl (fun _ => False) _).alloc _) fun e => e
  clear ca
  go_wp2_with fail
  refine (H2.out _).mono ?_
  rintro e w2 ⟨rfl, hw2⟩
  obtain rfl := hw2.symm
  clear hw2
  go_wp2_with fail
  refine (H3.out _).mono ?_
  rintro e w2 ⟨rfl, hw2⟩
  obtain rfl := hw2.symm
  clear hw2
  go_wp2_with fail
  refine (H4.out _).mono ?_
  rintro e w2 ⟨rfl, hb1, hb2, hk2⟩
  have z1 : ((w1.alloc (.cells #[.int .i64 (lf0.page : Nat), .int .i64 (lf0.frame : Nat), .int .i64 (lf0.rights : Nat)] 51)).alloc (.cells #[.bool true] 4)).heap.size = w1.heap.size + 2 := by simp
  obtain ⟨K9, hB⟩ : ∃ B, B = w1.heap.size + 1 := ⟨_, rfl⟩
  obtain ⟨C1, hC1⟩ : ∃ C, C = ((w1.alloc (.cells #[.int .i64 (lf0.page : Nat), .int .i64 (lf0.frame : Nat), .int .i64 (lf0.rights : Nat)] 51)).alloc (.cells #[.bool true] 4)).heap.size := ⟨_, rfl⟩
  have bN : Blk w2 K9 [.bool true] 4 := by
    have e := Blk.new (w1.alloc (.cells #[.int .i64 (lf0.page : Nat), .int .i64 (lf0.frame : Nat), .int .i64 (lf0.rights : Nat)] 51)) #[.bool true] 4
    rw [World.size_alloc, ← hB] at e
    exact e.kept hk2 fun e => e
  have kW : Keeps (fun _ => False) w w2 := ((HK1.out.alloc _).alloc _).trans hk2 fun _ _ e => e
  rw [← hC1] at hb1 hb2 ⊢
  have HZ : Hid (C1 = K9 + 1 ∧ C1 + 2 ≤ w2.heap.size) := ⟨by omega, by have := hb2.lt; omega⟩
  have HB : Hid (Blk w2 C1 [.pointer none] 34 ∧ Blk w2 K9 [.bool true] 4 ∧ Keeps (fun _ => False) w w2 ∧ Blk w2 (C1 + 1) [.int .i64 A] 3) := ⟨hb1, bN, kW, hb2⟩
  clear hb1 hb2 hk2 z1 bN kW HK1 ca2
  go_wp2_with fail
  rw [← hB]
  clear hB hC1
  obtain rfl : C1 = K9 + 1 := HZ.out.1
  refine (wpIn_wide (n := 8)).1 ?_
  refine range_live6 (σ := Nat) (α := Lf) rfl (by omega) (gf := 38) (lb := #[.pointer (some ⟨K9 + 1, 0, none⟩), .pointer (some ⟨K9 + 1 + 1, 0, none⟩)]) rfl trivial (enters_of Try.func38 (by kernel_rfl) rfl)
    (leaves_none 7 (K9 + 1) (K9 + 1 + 1) A) (fun _ => rfl) (fun _ W => Keeps (fun _ => False) w2 W) (fun _ _ => False)
    (fun s W W' hK h => h.trans hK fun k hk e => by omega)
    (fun s x W W' hK hi ht => ht.elim)
    (fun _ _ _ _ h => h)
    (fun s W hz hi => ⟨(HB.out.1.kept hi fun e => e).cell rfl, (HB.out.2.2.2.kept hi fun e => e).cell rfl⟩)
    (fun s s' W hi hs => hi)
    (Keeps.refl _ _) ?body ?done ?stop
  case body =>
    intro l s x W1 hz1 hW1 ht hl
    exact ht.elim
  case stop =>
    rintro c W h _
    exact h.elim
  case done =>
    rintro s W hf hi hD
    subst hf
    have cN := (HB.out.2.1.kept hi fun e => e).cell (i := 0) rfl
    have kz := HB.out.2.2.1.trans hi fun _ _ e => e
    clear hi HZ
    gi_wp2
    go_wp2
    refine ⟨by simp, .inl ⟨_, _, rfl, run_takeDeferred hD, ?_⟩⟩
    refine ⟨.bool true, (by rw [results_tmp (t := 2) (fn := Try.f31) (by kernel_rfl)]; rfl), rfl, ?_⟩
    have hz := HB.out.1.lt
    exact kz.trans (⟨rfl, rfl, rfl, by simp, fun k _ hn => World.putObj_heap_other hn⟩ : Keeps (fun k => k = w2.heap.size) W (W.putObj w2.heap.size (.deferred none))) fun k hk e => by have := HB.out.2.2.1.size; omega
end Go.Proofs.Ytpccdhoaicabcaa
