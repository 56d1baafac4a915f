import Derived.Test.YtajhkilclmicjaaH
import Derived.Test.YtajhkilclmicjaaList
import Derived.RangeFuncNested
import Derived.RangeFuncBound
import Derived.RangeFuncCalls
import Derived.RangeFuncLeaves
import Derived.Shelf.RegionOpen
import Derived.OwnWalkIn
import Derived.TacticsInMore
import Derived.LoopNIn
import Derived.LoopIn
namespace Go.Proofs.Ytajhkilclmicjaa
open Go.RowKit Go.Shelf
attribute [local go_sem] Oper.semAt_some
set_option linter.unusedVariables false

theorem all_any (s : Option Addr) (w : World) :
    Calls Try.prog 31 #[.pointer s] w fun r w' => r = .returned (.func (.func 47) #[] #[.pointer (some ⟨w.heap.size, 0, none⟩)]) ∧ w' = w.alloc (.cells #[.pointer s] 52) := by
  go_enter Try.func31, Try.ntmps31
  go_wp2
  go_ret
  exact ⟨rfl, rfl⟩

def encA (p : Int) : Array Value := #[.int .i64 p, .agg #[]]

theorem owns_at {w : World} {e : TypeId} {v : Value} {n g : Nat} {ks : List Int} (h : w.ownsRow 0 e 1 v n (flat ks)) (hg : v.ownBlock = some g) :
    ∃ cap, v = .slice (some ⟨g, 0, none⟩) n cap ∧ g < w.heap.size ∧ n ≤ cap ∧ (cap : Int) ≤ 9223372036854775807 ∧ ∀ j p, ks[j]? = some p → w.cell? ⟨g, j, none⟩ = some (.int .i64 p) := by
  have hc := h.cells hg
  rcases h.2 with ⟨rfl, _⟩ | ⟨g', cap, cur, rfl, _, hgg, h5, h6, _⟩
  · simp [Value.ownBlock] at hg
  · simp [Value.ownBlock] at hg
    subst hg
    refine ⟨cap, rfl, (Array.getElem?_eq_some_iff.1 hgg).1, h5, by unfold maxLen at h6; omega, fun j p hj => ?_⟩
    have a1 := hc _ _ (flat_get ks j p hj)
    rw [addr_add, Nat.zero_add] at a1
    exact a1

theorem part_item {w : World} {b : Nat} {l : List Value} (h : Blk w b l 78) : (partAt ⟨b, 0, none⟩ 1 8).run Try.prog w = .ok ⟨b, 1, some 8⟩ w := by
  have h1 : w.heap[b]? = some (.cells l.toArray 78 (0, 0)) := h
  have e0 : byteOfCell Try.prog Try.prog.depth 78 0 = some 0 := by kernel_rfl
  have e2 : Try.prog.cellsOf 78 = 1 := by kernel_rfl
  have e3 : Try.prog.bytesOf 78 = 16 := by kernel_rfl
  have es : w.shape? b = some (78, l.length) := by simp [World.shape?, h1]
  have ev : (viewAt b).run Try.prog w = .ok none w := by simp [viewAt, es]
  have es : (Sem.shape b Sem.pure).run Try.prog w = .ok (some (78, l.length)) w := by simp [Sem.run, es]
  simp [partAt, byteOf, noView, ev, es, shape, e0, e2, e3]

set_option maxHeartbeats 4000000 in
theorem all_lists (n B1 s room : Nat) (ks : List Int) :
    Lists Fence.wide n Try.prog 47 #[.pointer (some ⟨B1, 0, none⟩)] encA (fun W => W.cell? ⟨B1, 0, none⟩ = some (ptr s) ∧ ∃ F, Sf W s room ks F) ks := by
  intro l J Jx W hgood hstart hkeep hyield
  obtain ⟨p1, F, hS⟩ := hgood
  have hLl : ks.length ≤ 4096 := by have := hS.fits; have := hS.bounds; omega
  obtain ⟨L, hL⟩ : ∃ L, L = ks.length := ⟨_, rfl⟩
  have HC : Hid (Calls _ _ _ _ _) := items_any s room ks F W hS
  have HK : Hid (∀ g i W W', Keeps (fun _ => False) W W' → J g i W → J g i W') := hkeep
  have H0 : Hid (∀ g W', Keeps (fun _ => False) W W' → W.heap.size ≤ g → g < W'.heap.size → J g 0 W') := hstart
  have HY : Hid (∀ g i x W, ks[i]? = some x → J g i W → YieldAt Fence.wide (n - 1) Try.prog l (encA x) W fun e W' => W'.heap[g]? = W.heap[g]? ∧ ((e = .returned (.bool true) ∧ J g (i + 1) W') ∨ (e = .returned (.bool false) ∧ Jx W'))) := hyield
  have HT : Hid (True ∧ L = ks.length) := ⟨trivial, hL⟩
  have hL2 : (L : Int) ≤ 4096 := by omega
  clear hstart hkeep hyield hS hL hLl
  refine callsIn_of_wp Try.func47 rfl trivial ?_ rfl
  refine wpIn_wide.2 ?_
  simp only [Try.ntmps47, List.size_toArray, List.length_cons, List.length_nil, Nat.reduceAdd, Nat.reduceSub, Array.replicate_succ, Array.replicate_zero, List.push_toArray, List.append_toArray, List.nil_append, List.cons_append]
  go_wp2_with fail
  refine HC.out.mono ?_
  rintro r W0 ⟨v, g, rfl, hO, hg, hge, hK0⟩
  obtain ⟨cap, rfl, hglt, hcap1, hcap2, hcells⟩ := owns_at hO hg
  have HJ0 : Hid (J g 0 W0) := H0.out g W0 hK0 hge hglt
  have HCl : Hid (∀ j p, ks[j]? = some p → W0.cell? ⟨g, j, none⟩ = some (.int .i64 p)) := hcells
  rw [← HT.out.2] at hcap1 ⊢
  have hcap3 : (L : Int) ≤ cap := by omega
  clear hO hg hge hK0 hcells H0 HC p1 hcap1
  go_wp2
  refine (wpIn_wide (n := n)).1 ?_
  gi_loopw [8] (fun i wr => ∃ j : Nat, j ≤ L ∧ i = .int .i64 j ∧ J g j wr ∧ wr.heap[g]? = W0.heap[g]?) (fun i _ => L - (intOf i).toNat)
  case atStart => exact ⟨0, by omega, rfl, HJ0.out, rfl⟩
  case round =>
    obtain ⟨j, hj, rfl, hJ, hgk⟩ := hrel
    by_cases hlt : j < L
    · obtain ⟨pk, hp⟩ : ∃ p, ks[j]? = some p := ⟨_, List.getElem?_eq_getElem (by have := HT.out.2; omega)⟩
      have k1 := HCl.out j pk hp
      rw [← World.cell?_of_block (w := W0) (w' := wr) hgk] at k1
      have hKa : Keeps (fun _ => False) wr (wr.alloc (.cells #[.int .i64 pk] 78)) := (Keeps.refl _ wr).alloc _
      have hgw : g < wr.heap.size := by
        have h5 : W0.heap[g]? ≠ none := by simp [hglt]
        rw [← hgk] at h5
        simpa using h5
      obtain ⟨fn, tmps, assign, body, hy, hR⟩ := HY.out g j pk _ hp (HK.out g j _ _ hKa hJ)
      unfold encA at hy

      have hpa := part_item (Blk.new wr #[.int .i64 pk] 78)
      have HA : Hid ((wr.alloc (.cells #[.int .i64 pk] 78)).heap[g]? = W0.heap[g]?) := (hKa.block g hgw fun h => h).trans hgk
      have HR : Hid (RoundIn _ _ _ _ _ _ _ _ _ _) := hR
      clear hJ hgk hp hKa hgw hR
      gi_wp2_with fail
      refine ⟨fun h => by simp [Fence.wide] at h, ?_⟩
      refine HR.out.mono ?_
      rintro e W3 ⟨hg3, (⟨rfl, hJ3⟩ | ⟨rfl, hJx3⟩)⟩
      · have HJ3 : Hid (J g (j + 1) W3 ∧ W3.heap[g]? = W0.heap[g]?) := ⟨hJ3, hg3.trans HA.out⟩
        clear hJ3 hg3 hy HR k1 HA
        gi_wp2
        go_roundw
        case rel => exact ⟨j + 1, by omega, by go_num, HJ3.out.1, HJ3.out.2⟩
        case measure => simp [intOf]; omega
      · have HJ3 : Hid (Jx W3) := hJx3
        clear hJx3 hg3 hy HR k1 HA
        gi_wp2
        refine bodyPost_ret (results_none rfl _ _ _) rfl ?_
        exact ⟨⟨_, rfl⟩, .inr HJ3.out⟩
    · obtain rfl : j = L := by omega
      have HJ : Hid (J g j wr) := hJ
      clear hJ hgk
      gi_wp2
      go_end0
      exact ⟨⟨_, rfl⟩, .inl ⟨g, by rw [← HT.out.2]; exact HJ.out⟩⟩

end Go.Proofs.Ytajhkilclmicjaa
