import Derived.Test.YtpccdhoaicabcaaG
import Derived.Test.YtpccdhoaicabcaaLive
import Derived.RangeFuncNested
import Derived.RangeFuncBound
import Derived.RangeFuncCalls
import Derived.RangeFuncLeaves
import Derived.Shelf.Abstract
import Derived.Shelf.RegionOpen
import Derived.OwnWalkIn
import Derived.TacticsInMore
import Derived.LoopNIn
import Derived.LoopIn
namespace Go.Proofs.Ytpccdhoaicabcaa
open Go.RowKit Go.Shelf
attribute [local go_sem] Oper.semAt_some
set_option linter.unusedVariables false

theorem wvs_inj {xs ys : List UInt32} (h : wvs xs = wvs ys) : xs = ys := by
  apply List.ext_getElem
  · rw [← wvs_length xs, ← wvs_length ys, h]
  · intro i h1 h2
    have a := wvs_get xs i h1
    rw [h, wvs_get ys i h2] at a
    have : (ys[i].toNat : Int) = xs[i].toNat := by injection a with a; injection a
    exact (UInt32.toNat_inj.1 (by omega))
theorem Blk.inj {w : World} {g : Nat} {l l' : List Value} {t t' : TypeId} (h : Blk w g l t) (h' : Blk w g l' t') : l = l' := by
  unfold Blk at h h'
  rw [h] at h'
  injection h' with a; injection a with a; exact congrArg Array.toList a
theorem Mn.inj {w : World} {b g n n' : Nat} {xs ys : List UInt32} (h : Mn w b g n xs) (h' : Mn w b g n' ys) : xs = ys := wvs_inj (h.mm.row.inj h'.mm.row)

theorem leaves_any (b : Option Addr) (root : Int) (w : World) :
    Calls Try.prog 14 #[.pointer b, .int .i64 root] w fun e w' => e = .returned (.func (.func 38) #[] #[.pointer (some ⟨w.heap.size, 0, none⟩), .pointer (some ⟨w.heap.size + 1, 0, none⟩)]) ∧
      Blk w' w.heap.size [.pointer b] 34 ∧ Blk w' (w.heap.size + 1) [.int .i64 root] 3 ∧ Keeps (fun _ => False) w w' := by
  go_enter Try.func14, Try.ntmps14
  go_wp2
  go_ret
  refine ⟨rfl, (Blk.new w _ 34).alloc _, ?_, ((Keeps.refl _ w).alloc _).alloc _⟩
  have := Blk.new (w.alloc (.cells #[.pointer b] 34)) #[.int .i64 root] 3
  rw [World.size_alloc] at this
  exact this

/-- The iterator of Leaves: what it needs of the memory, where it passes, what it tells. -/
structure OnL (B1 B2 b g n : Nat) (root : Int) (W : World) : Prop where
  p1 : W.cell? ⟨B1, 0, none⟩ = some (.pointer (some ⟨b, 0, none⟩))
  p2 : W.cell? ⟨B2, 0, none⟩ = some (.int .i64 root)
  m : ∃ xs, Mn W b g n xs

def SkipL (b g n : Nat) (root : Int) (s s' : Nat) (W : World) : Prop := s' = s + 1 ∧ s < 256 ∧ ∀ xs, Mn W b g n xs → walkE n xs root s ≠ 0
def TellL (b g n : Nat) (root : Int) (s : Nat) (x : Lf) (W : World) : Prop := x.page = s ∧ s < 256 ∧ ∀ xs, Mn W b g n xs → walkE n xs root s = 0 ∧ x = walkL n xs root s
def encL (x : Lf) : Array Value := #[x.v]

set_option maxHeartbeats 4000000 in
set_option maxRecDepth 20000 in
theorem leaves_tells (k : Nat) (B1 B2 b g n : Nat) (root : Int) :
    Tells Fence.wide k Try.prog 38 #[.pointer (some ⟨B1, 0, none⟩), .pointer (some ⟨B2, 0, none⟩)] encL (fun _ => OnL B1 B2 b g n root) (SkipL b g n root) (TellL b g n root) (fun s _ => s + 1) (fun s => s = 256) 0 := by
  intro l J Jx W hgood hskip hkeep hyield h0
  have HG : Hid (∀ s W, J s W → OnL B1 B2 b g n root W) := hgood
  have HS : Hid (∀ s s' W, J s W → SkipL b g n root s s' W → J s' W) := hskip
  have HD : Hid (∀ s W W', J s W → Keeps (fun _ => False) W W' → J s W') := hkeep
  have HY : Hid (∀ s x W, J s W → TellL b g n root s x W → YieldAt Fence.wide (k - 1) Try.prog l (encL x) W fun e W' => (e = .returned (.bool true) ∧ J (s + 1) W') ∨ (e = .returned (.bool false) ∧ Jx W')) := hyield
  have HJ : Hid (J 0 W) := h0
  clear hgood hskip hkeep hyield h0
  refine callsIn_of_wp Try.func38 rfl trivial ?_ rfl
  refine wpIn_wide.2 ?_
  simp only [Try.ntmps38, List.size_toArray, List.length_cons, List.length_nil, Nat.reduceAdd, Nat.reduceSub, Array.replicate_succ, Array.replicate_zero, List.push_toArray, List.append_toArray, List.nil_append, List.cons_append]
  go_wp2
  refine (wpIn_wide (n := k)).1 ?_
  gi_loopw [7] (fun i wr => ∃ s : Nat, s ≤ 256 ∧ i = .int .i64 s ∧ J s wr) (fun i _ => 256 - (intOf i).toNat)
  case atStart => exact ⟨0, by omega, rfl, HJ.out⟩
  case round =>
    obtain ⟨s, hs, rfl, hJ⟩ := hrel
    have HJs : Hid (J s wr) := hJ
    by_cases hlt : s < 256
    · have hg := HG.out s wr hJ
      have p1 := hg.p1
      have p2 := hg.p2
      obtain ⟨us, hu⟩ := hg.m
      have HU : Hid (Mn wr b g n us) := hu
      have hlt' : (s : Int) < 256 := by omega
      have HC : Hid (Calls _ _ _ wr _) := walk_any b g n us root s wr hu
      clear hg hu hJ
      obtain ⟨E, hE⟩ : ∃ E, E = walkE n us root s := ⟨_, rfl⟩
      obtain ⟨X, hX⟩ : ∃ X, X = walkL n us root s := ⟨_, rfl⟩
      rw [← hE, ← hX] at HC
      have HE : Hid (E = walkE n us root s ∧ X = walkL n us root s) := ⟨hE, hX⟩
      clear hE hX
      by_cases hU : E = 0
      · subst hU
        gi_wp2_with fail
        refine ⟨trivial, fun h => by simp [Fence.wide] at h, ?_⟩
        refine (callsIn_wide.2 HC.out).mono ?_
        rintro e w2 ⟨rfl, hk⟩
        obtain ⟨w3, hw3⟩ : ∃ w3, w3 = w2.alloc (.cells #[.int .i64 X.page, .int .i64 X.frame, .int .i64 X.rights] 51) := ⟨_, rfl⟩
        have hk3 : Keeps (fun _ => False) wr w3 := by rw [hw3]; exact hk.alloc _
        have hJ2 : J s w3 := HD.out _ _ _ HJs.out hk3
        have hT : TellL b g n root s X w3 := by
          refine ⟨?_, hlt, fun ps ha => ?_⟩
          · rw [HE.out.2]; unfold walkL; rw [if_pos HE.out.1.symm]; rfl
          · rw [← (HU.out.grown hk3).inj ha]; exact ⟨HE.out.1.symm, HE.out.2⟩
        obtain ⟨fn, tmps, assign, body, hy, hR⟩ := HY.out s X w3 hJ2 hT
        unfold encL at hy
        have HR : Hid (RoundIn _ _ _ _ _ _ _ _ _ _) := hR
        rw [hw3] at HR hy
        clear hR hJ2 hT hk hk3 HC p1 p2 hw3
        gi_wp2_with fail
        refine ⟨fun h => by simp [Fence.wide] at h, ?_⟩
        refine HR.out.mono ?_
        rintro e W3 (⟨rfl, hJ3⟩ | ⟨rfl, hJx3⟩)
        · have HJ3 : Hid (J (s + 1) W3) := hJ3
          clear hJ3 hy HR
          gi_wp2
          go_roundw
          case rel => exact ⟨s + 1, by omega, by go_num, HJ3.out⟩
          case measure => simp [intOf]; omega
        · have HJ3 : Hid (Jx W3) := hJx3
          clear hJx3 hy HR
          gi_wp2
          refine bodyPost_ret (results_none rfl _ _ _) rfl ?_
          exact ⟨⟨_, rfl⟩, .inr HJ3.out⟩
      · have hU' : ((E : Int) == 0) = false := by simp; omega
        gi_wp2_with fail
        refine ⟨trivial, fun h => by simp [Fence.wide] at h, ?_⟩
        refine (callsIn_wide.2 HC.out).mono ?_
        rintro e w2 ⟨rfl, hk⟩
        have HK2 : Hid (Keeps (fun _ => False) wr w2) := hk
        clear hk HC p1 p2
        gi_wp2
        refine ⟨fun _ h => (by cases h), ?_⟩
        gi_wp2
        go_roundw
        case rel =>
          refine ⟨s + 1, by omega, by go_num, ?_⟩
          have hk3 := HK2.out.alloc (.cells #[.int .i64 X.page, .int .i64 X.frame, .int .i64 X.rights] 51)
          exact HS.out s _ _ (HD.out _ _ _ HJs.out hk3) ⟨rfl, hlt, fun ps ha => by
            rw [← (HU.out.grown hk3).inj ha, ← HE.out.1]; exact hU⟩
        case measure => simp [intOf]; omega
    · obtain rfl : s = 256 := by omega
      gi_wp2
      go_end0
      exact ⟨⟨_, rfl⟩, .inl ⟨_, rfl, HJs.out⟩⟩

end Go.Proofs.Ytpccdhoaicabcaa
