import Derived.Test.YtljhdijledclhaaE
import Derived.Test.YtljhdijledclhaaLive
import Derived.RangeFuncNested
import Derived.RangeFuncBound
import Derived.RangeFuncCalls
import Derived.RangeFuncLeaves
import Derived.Shelf.Abstract
import Derived.Shelf.RegionOpen
import Derived.OwnWalkIn
import Derived.TacticsInMore
import Derived.LoopNIn
import Derived.LoopIn
namespace Go.Proofs.Ytljhdijledclhaa
open Go.RowKit Go.Shelf
attribute [local go_sem] Oper.semAt_some
set_option linter.unusedVariables false

/-- The two differ at a place that at least one of them has. -/
def Unl (xs ys : List UInt32) (p : Nat) : Prop := xs.length ≤ p ∨ ys.length ≤ p ∨ xs[p]? ≠ ys[p]?
instance (xs ys : List UInt32) (p : Nat) : Decidable (Unl xs ys p) := by unfold Unl; infer_instance

theorem wvs_inj {xs ys : List UInt32} (h : wvs xs = wvs ys) : xs = ys := by
  induction xs generalizing ys with
  | nil => cases ys with
    | nil => rfl
    | cons y r => simp [wvs] at h
  | cons x r ih => cases ys with
    | nil => simp [wvs] at h
    | cons y s =>
      simp only [wvs, List.map_cons, List.cons.injEq, Value.int.injEq, true_and] at h
      have h1 : x = y := UInt32.toNat_inj.1 (by have := h.1; omega)
      rw [h1, ih h.2]
theorem Mm.inj {w : World} {b g h : Nat} {xs ys : List UInt32} (h1 : Mm w b g xs) (h2 : Mm w b h ys) : g = h ∧ xs = ys := by
  have e := h1.blk.symm.trans h2.blk
  have e2 : g = h := by simp at e; exact e.1
  subst e2
  have e3 := h1.row.symm.trans h2.row
  simp at e3
  exact ⟨rfl, wvs_inj e3⟩

set_option maxHeartbeats 1000000 in
theorem unlike_any (b g c h : Nat) (xs ys : List UInt32) (p : Nat) (w : World) (hx : Mm w b g xs) (hy : Mm w c h ys) (hp : p ≤ 16384) :
    Calls Try.prog 55 #[.pointer (some ⟨b, 0, none⟩), .pointer (some ⟨c, 0, none⟩), .int .i64 p] w fun e w' => e = .returned (.bool (decide (Unl xs ys p))) ∧ ∃ k, w' = w.drewN k := by
  have c1 := hx.blk.cell (i := 0) rfl
  have c2 := hy.blk.cell (i := 0) rfl
  have s1 := hx.small
  have s2 := hy.small
  by_cases h1 : xs.length ≤ p
  · rw [show decide (Unl xs ys p) = true from decide_eq_true (.inl h1)]
    obtain ⟨L, hL⟩ : ∃ L, L = xs.length := ⟨_, rfl⟩
    rw [← hL] at c1 h1 s1
    clear hx hy hL s2 c2
    go_enter Try.func55, Try.ntmps55
    go_wp2
    go_ret
    exact ⟨rfl, 0, rfl⟩
  · by_cases h2 : ys.length ≤ p
    · rw [show decide (Unl xs ys p) = true from decide_eq_true (.inr (.inl h2))]
      obtain ⟨L, hL⟩ : ∃ L, L = xs.length := ⟨_, rfl⟩
      obtain ⟨M, hM⟩ : ∃ M, M = ys.length := ⟨_, rfl⟩
      rw [← hL] at c1 h1 s1
      rw [← hM] at c2 h2 s2
      clear hx hy hL hM
      go_enter Try.func55, Try.ntmps55
      go_wp2
      go_ret
      exact ⟨rfl, 0, rfl⟩
    · have d1 := hx.row.cell (wvs_get xs p (by omega))
      have d2 := hy.row.cell (wvs_get ys p (by omega))
      have e : decide (Unl xs ys p) = !((xs[p]'(by omega)).toNat == (ys[p]'(by omega)).toNat) := by
        by_cases he : xs[p]'(by omega) = ys[p]'(by omega)
        · rw [decide_eq_false (fun h : Unl xs ys p => by
            rcases h with h | h | h
            · exact h1 h
            · exact h2 h
            · exact h (by rw [List.getElem?_eq_getElem (by omega), List.getElem?_eq_getElem (by omega), he]))]
          simp [he]
        · rw [decide_eq_true (show Unl xs ys p from .inr (.inr fun e => he (by
            rw [List.getElem?_eq_getElem (by omega), List.getElem?_eq_getElem (by omega)] at e
            exact Option.some.inj e)))]
          have : ¬ ((xs[p]'(by omega)).toNat = (ys[p]'(by omega)).toNat) := fun e => he (UInt32.toNat_inj.1 e)
          simp [this]
      rw [e]
      obtain ⟨L, hL⟩ : ∃ L, L = xs.length := ⟨_, rfl⟩
      obtain ⟨M, hM⟩ : ∃ M, M = ys.length := ⟨_, rfl⟩
      obtain ⟨u, hu⟩ : ∃ u : Nat, u = (xs[p]'(by omega)).toNat := ⟨_, rfl⟩
      obtain ⟨v, hv⟩ : ∃ v : Nat, v = (ys[p]'(by omega)).toNat := ⟨_, rfl⟩
      rw [← hu] at d1 ⊢
      rw [← hv] at d2 ⊢
      clear hu hv e
      rw [← hL] at c1 h1 s1
      rw [← hM] at c2 h2 s2
      clear hx hy hL hM
      go_enter Try.func55, Try.ntmps55
      go_wp2
      go_quiet (fail)
      go_wp2
      go_ret
      refine ⟨ret_bool ?_, _, rfl⟩
      by_cases huv : u = v
      · subst huv; simp
      · have q1 : ((u : Int) != (v : Int)) = true := by rw [bne_iff_ne]; omega
        have q2 : (u == v) = false := by simp [huv]
        rw [q1, q2]; rfl

theorem differ_any (b c : Option Addr) (w : World) :
    Calls Try.prog 22 #[.pointer b, .pointer c] w fun e w' => e = .returned (.func (.func 54) #[] #[.pointer (some ⟨w.heap.size, 0, none⟩), .pointer (some ⟨w.heap.size + 1, 0, none⟩)]) ∧
      w' = (w.alloc (.cells #[.pointer b] 42)).alloc (.cells #[.pointer c] 42) := by
  go_enter Try.func22, Try.ntmps22
  go_wp2
  go_ret
  exact ⟨rfl, rfl⟩

/-- The iterator of Differ: what it needs of the memory, where it passes, what it tells. -/
structure Two (B1 B2 b g c h L M : Nat) (W : World) : Prop where
  p1 : W.cell? ⟨B1, 0, none⟩ = some (.pointer (some ⟨b, 0, none⟩))
  p2 : W.cell? ⟨B2, 0, none⟩ = some (.pointer (some ⟨c, 0, none⟩))
  m : ∃ xs ys, Mm W b g xs ∧ Mm W c h ys ∧ xs.length = L ∧ ys.length = M

def SkipD (b g c h L M : Nat) (s s' : Nat) (W : World) : Prop := s' = s + 1 ∧ s < max L M ∧ ∀ xs ys, Mm W b g xs → Mm W c h ys → ¬ Unl xs ys s
def TellD (b g c h L M : Nat) (s x : Nat) (W : World) : Prop := x = s ∧ s < max L M ∧ ∀ xs ys, Mm W b g xs → Mm W c h ys → Unl xs ys s
def encD (x : Nat) : Array Value := #[.int .i64 x]

set_option maxHeartbeats 4000000 in
theorem differ_tells (n : Nat) (B1 B2 b g c h L M : Nat) :
    Tells Fence.wide n Try.prog 54 #[.pointer (some ⟨B1, 0, none⟩), .pointer (some ⟨B2, 0, none⟩)] encD (fun _ => Two B1 B2 b g c h L M) (SkipD b g c h L M) (TellD b g c h L M) (fun s _ => s + 1) (fun s => s = max L M) 0 := by
  intro l J Jx W hgood hskip hdrew hyield h0
  have hg0 := hgood _ _ h0
  have p1 := hg0.p1
  have p2 := hg0.p2
  obtain ⟨xs, ys, hx, hy, hL, hM⟩ := hg0.m
  have c1 := hx.blk.cell (i := 0) rfl
  have c2 := hy.blk.cell (i := 0) rfl
  have s1 := hx.small
  have s2 := hy.small
  rw [hL] at c1 s1
  rw [hM] at c2 s2
  have HG : Hid (∀ s W, J s W → Two B1 B2 b g c h L M W) := hgood
  have HS : Hid (∀ s s' W, J s W → SkipD b g c h L M s s' W → J s' W) := hskip
  have HD : Hid (∀ s W k, J s W → J s (W.drewN k)) := hdrew
  have HY : Hid (∀ s x W, J s W → TellD b g c h L M s x W → YieldAt Fence.wide (n - 1) Try.prog l (encD x) W fun e W' => (e = .returned (.bool true) ∧ J (s + 1) W') ∨ (e = .returned (.bool false) ∧ Jx W')) := hyield
  have HJ : Hid (J 0 W) := h0
  clear hgood hskip hdrew hyield h0 hg0 hx hy hL hM
  refine callsIn_of_wp Try.func54 rfl trivial ?_ rfl
  refine wpIn_wide.2 ?_
  simp only [Try.ntmps54, List.size_toArray, List.length_cons, List.length_nil, Nat.reduceAdd, Nat.reduceSub, Array.replicate_succ, Array.replicate_zero, List.push_toArray, List.append_toArray, List.nil_append, List.cons_append]
  go_wp2
  go_region
  obtain ⟨N, hN⟩ : ∃ N, N = max L M := ⟨_, rfl⟩
  have hN1 : (if L < M then (M : Int) else (L : Int)) = (N : Int) := by split <;> omega
  rw [hN1]
  have hN2 : (N : Int) ≤ 16384 := by omega
  have HN : Hid (N = max L M) := hN
  have HJ1 : Hid (J 0 W.drew) := HD.out 0 W 1 HJ.out
  obtain ⟨W1, hW1⟩ : ∃ W1, W1 = W.drew := ⟨_, rfl⟩
  rw [← hW1] at HJ1 ⊢
  clear hN hN1 c1 c2 p1 p2 HJ hW1 s1 s2
  go_wp2
  refine (wpIn_wide (n := n)).1 ?_
  gi_loopw [22] (fun i wr => ∃ s : Nat, s ≤ N ∧ i = .int .i64 s ∧ J s wr) (fun i _ => N - (intOf i).toNat)
  case atStart => exact ⟨0, by omega, rfl, HJ1.out⟩
  case round =>
    obtain ⟨s, hs, rfl, hJ⟩ := hrel
    have HJs : Hid (J s wr) := hJ
    by_cases hlt : s < N
    · have hg := HG.out s wr hJ
      have p1 := hg.p1
      have p2 := hg.p2
      obtain ⟨us, vs, hu, hv, hL, hM⟩ := hg.m
      have HU : Hid (Mm wr b g us) := hu
      have HV : Hid (Mm wr c h vs) := hv
      have HC : Hid (Calls _ _ _ wr _) := unlike_any b g c h us vs s wr hu hv (by omega)
      clear hg hu hv hL hM hJ
      by_cases hU : Unl us vs s
      · rw [decide_eq_true hU] at HC
        gi_wp2_with fail
        refine ⟨trivial, fun h => by simp [Fence.wide] at h, ?_⟩
        refine (callsIn_wide.2 HC.out).mono ?_
        rintro e w2 ⟨rfl, k, hk⟩
        have hJ2 : J s w2 := by rw [hk]; exact HD.out _ _ _ HJs.out
        have hT : TellD b g c h L M s s w2 := ⟨rfl, by have := HN.out; omega, fun ps qs ha hb => by
          have e1 := (HU.out.drewN k).inj (hk ▸ ha)
          have e2 := (HV.out.drewN k).inj (hk ▸ hb)
          rw [← e1.2, ← e2.2]; exact hU⟩
        obtain ⟨fn, tmps, assign, body, hy, hR⟩ := HY.out s s w2 hJ2 hT
        unfold encD at hy
        have HR : Hid (RoundIn _ _ _ _ _ _ _ _ _ _) := hR
        clear hR hJ2 hT hk HC p1 p2
        gi_wp2_with fail
        refine ⟨fun h => by simp [Fence.wide] at h, ?_⟩
        refine HR.out.mono ?_
        rintro e W3 (⟨rfl, hJ3⟩ | ⟨rfl, hJx3⟩)
        · have HJ3 : Hid (J (s + 1) W3) := hJ3
          clear hJ3 hy HR
          gi_wp2
          go_roundw
          case rel => exact ⟨s + 1, by omega, by go_num, HJ3.out⟩
          case measure => simp [intOf]; omega
        · have HJ3 : Hid (Jx W3) := hJx3
          clear hJx3 hy HR
          gi_wp2
          refine bodyPost_ret (results_none rfl _ _ _) rfl ?_
          exact ⟨⟨_, rfl⟩, .inr HJ3.out⟩
      · rw [decide_eq_false hU] at HC
        gi_wp2_with fail
        refine ⟨trivial, fun h => by simp [Fence.wide] at h, ?_⟩
        refine (callsIn_wide.2 HC.out).mono ?_
        rintro e w2 ⟨rfl, k, hk⟩
        have hJ2 : J s w2 := by rw [hk]; exact HD.out _ _ _ HJs.out
        have hJ3 : J (s + 1) w2 := HS.out s _ w2 hJ2 ⟨rfl, by have := HN.out; omega, fun ps qs ha hb => by
          have e1 := (HU.out.drewN k).inj (hk ▸ ha)
          have e2 := (HV.out.drewN k).inj (hk ▸ hb)
          rw [← e1.2, ← e2.2]; exact hU⟩
        have HJ3 : Hid (J (s + 1) w2) := hJ3
        clear hJ2 hJ3 hk HC p1 p2
        gi_wp2
        refine ⟨fun _ h => (by cases h), ?_⟩
        gi_wp2
        go_roundw
        case rel => exact ⟨s + 1, by omega, by go_num, HJ3.out⟩
        case measure => simp [intOf]; omega
    · obtain rfl : s = N := by omega
      gi_wp2
      go_end0
      exact ⟨⟨_, rfl⟩, .inl ⟨_, HN.out, HJs.out⟩⟩

end Go.Proofs.Ytljhdijledclhaa
