import Derived.Test.YtipejahmjdamjaaGreatDoorTlList
import Derived.RangeFuncNested
import Derived.RangeFuncBound
import Derived.RangeFuncCalls
import Derived.RangeFuncLeaves
import Derived.Shelf.RegionOpen
import Derived.OwnWalkIn
import Derived.TacticsInMore
import Derived.LoopNIn
import Derived.LoopIn
namespace Go.Proofs.YtipejahmjdamjaaGreatDoor.Tl
open Go.RowKit Go.Shelf
attribute [local go_sem] Oper.semAt_some
set_option linter.unusedVariables false
set_option maxRecDepth 6000

theorem all_any (s : Option Addr) (w : World) :
    Calls Tryz.prog 99 #[.pointer s] w fun r w' => r = .returned (.func (.func 147) #[] #[.pointer (some ⟨w.heap.size, 0, none⟩)]) ∧ w' = w.alloc (.cells #[.pointer s] 122) := by
  go_enter Tryz.func99, Tryz.ntmps99
  go_wp2
  go_ret
  exact ⟨rfl, rfl⟩

def encA (p : Int × Lf) : Array Value := #[.int .i64 p.1, p.2.v]

theorem owns_at {w : World} {v : Value} {n g : Nat} {kvs : List (Int × Lf)} (h : w.ownsRow 0 166 4 v n (flat kvs)) (hg : v.ownBlock = some g) :
    ∃ cap, v = .slice (some ⟨g, 0, none⟩) n cap ∧ g < w.heap.size ∧ n ≤ cap ∧ (cap : Int) ≤ 9223372036854775807 ∧ ∀ j p, kvs[j]? = some p → w.cell? ⟨g, j * 4, none⟩ = some (.int .i64 p.1) ∧ w.cell? ⟨g, j * 4 + 1, none⟩ = some (.int .i64 p.2.p) ∧ w.cell? ⟨g, j * 4 + 2, none⟩ = some (.int .i64 p.2.f) ∧ w.cell? ⟨g, j * 4 + 3, none⟩ = some (.int .i64 p.2.r) := by
  have hc := h.cells hg
  rcases h.2 with ⟨rfl, _⟩ | ⟨g', cap, cur, rfl, _, hgg, h5, h6, _⟩
  · simp [Value.ownBlock] at hg
  · simp [Value.ownBlock] at hg
    subst hg
    refine ⟨cap, rfl, (Array.getElem?_eq_some_iff.1 hgg).1, h5, by unfold maxLen at h6; omega, fun j p hj => ?_⟩
    obtain ⟨h1, h2, h3, h4⟩ := flat_get kvs j p hj
    have a1 := hc _ _ h1
    have a2 := hc _ _ h2
    have a3 := hc _ _ h3
    have a4 := hc _ _ h4
    rw [addr_add, Nat.zero_add, Nat.mul_comm] at a1 a2 a3 a4
    exact ⟨a1, a2, a3, a4⟩

set_option maxHeartbeats 4000000 in
theorem all_lists (n B1 s room : Nat) (kvs : List (Int × Lf)) :
    Lists Fence.wide n Tryz.prog 147 #[.pointer (some ⟨B1, 0, none⟩)] encA (fun W => W.cell? ⟨B1, 0, none⟩ = some (ptr s) ∧ ∃ F, Sf W s room kvs F) kvs := by
  intro l J Jx W hgood hstart hkeep hyield
  obtain ⟨p1, F, hS⟩ := hgood
  have hLl : kvs.length ≤ 4096 := by have := hS.fits; have := hS.bounds; omega
  obtain ⟨L, hL⟩ : ∃ L, L = kvs.length := ⟨_, rfl⟩
  have HC : Hid (Calls _ _ _ _ _) := items_any s room kvs F W hS
  have HK : Hid (∀ g i W W', Keeps (fun _ => False) W W' → J g i W → J g i W') := hkeep
  have H0 : Hid (∀ g W', Keeps (fun _ => False) W W' → W.heap.size ≤ g → g < W'.heap.size → J g 0 W') := hstart
  have HY : Hid (∀ g i x W, kvs[i]? = some x → J g i W → YieldAt Fence.wide (n - 1) Tryz.prog l (encA x) W fun e W' => W'.heap[g]? = W.heap[g]? ∧ ((e = .returned (.bool true) ∧ J g (i + 1) W') ∨ (e = .returned (.bool false) ∧ Jx W'))) := hyield
  have HT : Hid (True ∧ L = kvs.length) := ⟨trivial, hL⟩
  have hL2 : (L : Int) ≤ 4096 := by omega
  clear hstart hkeep hyield hS hL hLl
  refine callsIn_of_wp Tryz.func147 rfl trivial ?_ rfl
  refine wpIn_wide.2 ?_
  simp only [Tryz.ntmps147, List.size_toArray, List.length_cons, List.length_nil, Nat.reduceAdd, Nat.reduceSub, Array.replicate_succ, Array.replicate_zero, List.push_toArray, List.append_toArray, List.nil_append, List.cons_append]
  go_wp2_with fail
  refine HC.out.mono ?_
  rintro r W0 ⟨v, g, rfl, hO, hg, hge, hK0⟩
  obtain ⟨cap, rfl, hglt, hcap1, hcap2, hcells⟩ := owns_at hO hg
  have HJ0 : Hid (J g 0 W0) := H0.out g W0 hK0 hge hglt
  have HCl : Hid (∀ j p, kvs[j]? = some p → W0.cell? ⟨g, j * 4, none⟩ = some (.int .i64 p.1) ∧ W0.cell? ⟨g, j * 4 + 1, none⟩ = some (.int .i64 p.2.p) ∧ W0.cell? ⟨g, j * 4 + 2, none⟩ = some (.int .i64 p.2.f) ∧ W0.cell? ⟨g, j * 4 + 3, none⟩ = some (.int .i64 p.2.r)) := hcells
  rw [← HT.out.2] at hcap1 ⊢
  have hcap3 : (L : Int) ≤ cap := by omega
  clear hO hg hge hK0 hcells H0 HC p1 hcap1
  go_wp2
  refine (wpIn_wide (n := n)).1 ?_
  gi_loopw [8] (fun i wr => ∃ j : Nat, j ≤ L ∧ i = .int .i64 j ∧ J g j wr ∧ wr.heap[g]? = W0.heap[g]?) (fun i _ => L - (intOf i).toNat)
  case atStart => exact ⟨0, by omega, rfl, HJ0.out, rfl⟩
  case round =>
    obtain ⟨j, hj, rfl, hJ, hgk⟩ := hrel
    by_cases hlt : j < L
    · obtain ⟨p, hp⟩ : ∃ p, kvs[j]? = some p := ⟨_, List.getElem?_eq_getElem (by have := HT.out.2; omega)⟩
      obtain ⟨k1, k2, k3, k4⟩ := HCl.out j p hp
      rw [← World.cell?_of_block (w := W0) (w' := wr) hgk] at k1 k2 k3 k4
      obtain ⟨pk, pv⟩ := p
      simp only at k1 k2 k3 k4
      have hKa : Keeps (fun _ => False) wr (wr.alloc (.cells #[.int .i64 pk, .int .i64 pv.p, .int .i64 pv.f, .int .i64 pv.r] 166)) := (Keeps.refl _ wr).alloc _
      have hgw : g < wr.heap.size := by
        have h5 : W0.heap[g]? ≠ none := by simp [hglt]
        rw [← hgk] at h5
        simpa using h5
      obtain ⟨fn, tmps, assign, body, hy, hR⟩ := HY.out g j (pk, pv) _ hp (HK.out g j _ _ hKa hJ)
      unfold encA at hy
      dsimp only at hy
      have HA : Hid ((wr.alloc (.cells #[.int .i64 pk, .int .i64 pv.p, .int .i64 pv.f, .int .i64 pv.r] 166)).heap[g]? = W0.heap[g]?) := (hKa.block g hgw fun h => h).trans hgk
      have HR : Hid (RoundIn _ _ _ _ _ _ _ _ _ _) := hR
      clear hJ hgk hp hKa hgw hR
      gi_wp2_with fail
      refine ⟨fun h => by simp [Fence.wide] at h, ?_⟩
      refine HR.out.mono ?_
      rintro e W3 ⟨hg3, (⟨rfl, hJ3⟩ | ⟨rfl, hJx3⟩)⟩
      · have HJ3 : Hid (J g (j + 1) W3 ∧ W3.heap[g]? = W0.heap[g]?) := ⟨hJ3, hg3.trans HA.out⟩
        clear hJ3 hg3 hy HR k1 k2 k3 k4 HA
        gi_wp2
        go_roundw
        case rel => exact ⟨j + 1, by omega, by go_num, HJ3.out.1, HJ3.out.2⟩
        case measure => simp [intOf]; omega
      · have HJ3 : Hid (Jx W3) := hJx3
        clear hJx3 hg3 hy HR k1 k2 k3 k4 HA
        gi_wp2
        refine bodyPost_ret (results_none rfl _ _ _) rfl ?_
        exact ⟨⟨_, rfl⟩, .inr HJ3.out⟩
    · obtain rfl : j = L := by omega
      have HJ : Hid (J g j wr) := hJ
      clear hJ hgk
      gi_wp2
      go_end0
      exact ⟨⟨_, rfl⟩, .inl ⟨g, by rw [← HT.out.2]; exact HJ.out⟩⟩

end Go.Proofs.YtipejahmjdamjaaGreatDoor.Tl
namespace Go.Proofs.YtipejahmjdamjaaGreatDoor.Tl
open Go.RowKit Go.Shelf
set_option linter.unusedVariables false

def inB (n many : Int) : Bool := decide (0 ≤ n) && decide (n < many)
def mayB (l : Lf) : Bool := inB l.p 256 && inB l.f 1024 && inB l.r 8

theorem within_any (n many : Int) (w : World) : Calls Tryz.prog 167 #[.int .i64 n, .int .i64 many] w fun r w' => r = .returned (.bool (inB n many)) ∧ w' = w := by
  unfold inB
  by_cases h1 : 0 ≤ n
  · by_cases h2 : n < many
    · rw [decide_eq_true h1, decide_eq_true h2]
      go_enter Tryz.func167, Tryz.ntmps167
      go_wp2
      go_ret
      exact ⟨rfl, rfl⟩
    · rw [decide_eq_true h1, decide_eq_false h2]
      go_enter Tryz.func167, Tryz.ntmps167
      go_wp2
      go_ret
      exact ⟨rfl, rfl⟩
  · rw [decide_eq_false h1]
    go_enter Tryz.func167, Tryz.ntmps167
    go_wp2
    go_ret
    exact ⟨rfl, rfl⟩

theorem mayBe_any (l : Lf) (w : World) : Calls Tryz.prog 122 #[l.v] w fun r w' => r = .returned (.bool (mayB l)) ∧ Keeps (fun _ => False) w w' := by
  obtain ⟨W, hW⟩ : ∃ W, W = w.alloc (.cells #[.int .i64 l.p, .int .i64 l.f, .int .i64 l.r] 64) := ⟨_, rfl⟩
  have hB : Blk W w.heap.size l.vs 64 := by rw [hW]; exact Blk.new w _ 64
  have v0 := hB.cell (i := 0) rfl
  have v1 := hB.cell (i := 1) rfl
  have v2 := hB.cell (i := 2) rfl
  have hKW : Keeps (fun _ => False) w W := by rw [hW]; exact (Keeps.refl _ w).alloc _
  have HW : Hid (W = _ ∧ Keeps (fun _ => False) w W) := ⟨hW, hKW⟩
  have H1 : Hid (Calls _ _ _ _ _) := within_any l.p 256 W
  have H2 : Hid (Calls _ _ _ _ _) := within_any l.f 1024 W
  have H3 : Hid (Calls _ _ _ _ _) := within_any l.r 8 W
  clear hW hKW hB
  unfold mayB
  generalize inB l.p 256 = b1 at *
  generalize inB l.f 1024 = b2 at *
  generalize inB l.r 8 = b3 at *
  cases b1
  · go_enter Tryz.func122, Tryz.ntmps122
    go_wp2_with fail
    rw [← HW.out.1]
    refine H1.out.mono ?_
    rintro r w1 ⟨rfl, rfl⟩
    go_wp2
    go_ret
    exact ⟨rfl, HW.out.2⟩
  · cases b2
    · go_enter Tryz.func122, Tryz.ntmps122
      go_wp2_with fail
      rw [← HW.out.1]
      refine H1.out.mono ?_
      rintro r w1 ⟨rfl, rfl⟩
      go_wp2_with fail
      refine H2.out.mono ?_
      rintro r w1 ⟨rfl, rfl⟩
      go_wp2
      go_ret
      exact ⟨rfl, HW.out.2⟩
    · go_enter Tryz.func122, Tryz.ntmps122
      go_wp2_with fail
      rw [← HW.out.1]
      refine H1.out.mono ?_
      rintro r w1 ⟨rfl, rfl⟩
      go_wp2_with fail
      refine H2.out.mono ?_
      rintro r w1 ⟨rfl, rfl⟩
      go_wp2_with fail
      refine H3.out.mono ?_
      rintro r w1 ⟨rfl, rfl⟩
      go_wp2
      go_ret
      exact ⟨by simp, HW.out.2⟩

/-! ### A TLB -/
def kv (ls : List Lf) : List (Int × Lf) := ls.map fun l => (l.p, l)
def wo (p : Int) (ls : List Lf) : List Lf := ls.filter fun l => l.p != p
def findT (p : Int) (ls : List Lf) : Option Lf := ls.find? fun l => l.p == p
def touchT (p : Int) (ls : List Lf) : List Lf := match findT p ls with | some x => wo p ls ++ [x] | none => ls
def putT (l : Lf) (ls : List Lf) : List Lf := if 4 < (wo l.p ls ++ [l]).length then (wo l.p ls ++ [l]).tail else wo l.p ls ++ [l]

theorem look_kv (p : Int) (ls : List Lf) : look p (kv ls) = findT p ls := by
  unfold look kv findT
  rw [List.find?_map, Option.map_map]
  have : (Prod.snd ∘ fun l : Lf => (l.p, l)) = id := rfl
  rw [this, Option.map_id]
  rfl
theorem del_kv (p : Int) (ls : List Lf) : del p (kv ls) = kv (wo p ls) := by
  unfold del kv wo
  rw [List.filter_map]
  rfl
theorem touch_kv (p : Int) (ls : List Lf) : touch p (kv ls) = kv (touchT p ls) := by
  unfold touch touchT
  rw [look_kv, del_kv]
  cases h : findT p ls with
  | none => rfl
  | some x =>
    have hx : x.p = p := by
      have := List.find?_some h
      simpa using this
    simp [kv, hx]
theorem wo_absent {p : Int} {ls : List Lf} (h : findT p ls = none) : wo p ls = ls := by
  unfold findT at h
  rw [List.find?_eq_none] at h
  exact List.filter_eq_self.2 fun l hl => by simpa using h l hl
theorem wo_lt {p : Int} {ls : List Lf} {x : Lf} (h : findT p ls = some x) : (wo p ls).length < ls.length := by
  have hm := List.mem_of_find?_eq_some h
  have hx := List.find?_some h
  unfold wo
  refine Nat.lt_of_le_of_ne (List.length_filter_le _ _) fun he => ?_
  have := List.length_filter_eq_length_iff.1 he x hm
  simp at hx this
  exact this hx
theorem wo_le (p : Int) (ls : List Lf) : (wo p ls).length ≤ ls.length := List.length_filter_le _ _
theorem put_kv (l : Lf) {ls : List Lf} (h4 : ls.length ≤ 4) : putL 4 l.p l (kv ls) = kv (putT l ls) := by
  unfold putL putT
  rw [look_kv, del_kv]
  cases h : findT l.p ls with
  | none =>
    rw [wo_absent h]
    have e1 : (kv ls).length = ls.length := by simp [kv]
    rw [e1]
    by_cases h5 : ls.length < 4
    · rw [if_neg (by simp), if_pos h5, if_neg (by simp; omega)]
      simp [kv]
    · rw [if_neg (by simp), if_neg h5, if_pos (by simp; omega)]
      cases ls with
      | nil => simp at h5
      | cons a r => simp [kv]
  | some x =>
    have := wo_lt h
    rw [if_pos (by simp), if_neg (by simp; omega)]
    simp [kv]
theorem putT_le (l : Lf) {ls : List Lf} (h4 : ls.length ≤ 4) : (putT l ls).length ≤ 4 := by
  unfold putT
  have := wo_le l.p ls
  split
  · simp at *; omega
  · omega
theorem touchT_le (p : Int) {ls : List Lf} (h4 : ls.length ≤ 4) : (touchT p ls).length ≤ 4 := by
  unfold touchT
  cases h : findT p ls with
  | none => exact h4
  | some x => have := wo_lt h; simp; omega

/-- A TLB in the memory: what it holds, the least lately used first; all its blocks are among F. -/
def Tl (w : World) (t : Nat) (ls : List Lf) (F : Nat → Prop) : Prop :=
  ∃ s F0, Blk w t [ptr s] 126 ∧ Sf w s 4 (kv ls) F0 ∧ ¬ F0 t ∧ F t ∧ (∀ b, F0 b → F b) ∧ ∀ b, F b → b < w.heap.size

theorem Tl.kept {S : Nat → Prop} {w w' : World} {t : Nat} {ls : List Lf} {F : Nat → Prop} (h : Tl w t ls F) (hK : Keeps S w w') (hn : ∀ b, F b → ¬ S b) : Tl w' t ls F := by
  obtain ⟨s, F0, h1, h2, h3, h4, h5, h6⟩ := h
  exact ⟨s, F0, h1.kept hK (hn t h4), h2.kept hK fun b hb => hn b (h5 b hb), h3, h4, h5, fun b hb => Nat.lt_of_lt_of_le (h6 b hb) hK.size⟩
theorem Tl.lt {w : World} {t : Nat} {ls : List Lf} {F : Nat → Prop} (h : Tl w t ls F) : ∀ b, F b → b < w.heap.size := by
  obtain ⟨s, F0, h1, h2, h3, h4, h5, h6⟩ := h
  exact h6
theorem Tl.le {w : World} {t : Nat} {ls : List Lf} {F : Nat → Prop} (h : Tl w t ls F) : ls.length ≤ 4 := by
  obtain ⟨s, F0, h1, h2, h3, h4, h5, h6⟩ := h
  have := h2.fits
  simpa [kv] using this
theorem Tl.pages {w : World} {t : Nat} {ls : List Lf} {F : Nat → Prop} (h : Tl w t ls F) : (ls.map Lf.p).Nodup := by
  obtain ⟨s, F0, h1, h2, h3, h4, h5, h6⟩ := h
  have := h2.keys
  unfold kv at this
  rw [List.map_map] at this
  exact this

/-- Where the TLB is now: its blocks are old ones of its own or new ones. -/
def NowT (w w' : World) (t : Nat) (ls : List Lf) (F : Nat → Prop) : Prop :=
  (∃ F', Tl w' t ls F' ∧ ∀ b, F' b → F b ∨ w.heap.size ≤ b) ∧ Keeps F w w'

theorem nowT_of {w w1 w' : World} {t s : Nat} {ls : List Lf} {F F0 : Nat → Prop} (hK1 : Keeps (fun _ => False) w w1) (h1 : Blk w1 t [ptr s] 126) (h3 : ¬ F0 t) (h4 : F t) (h5 : ∀ b, F0 b → F b) (h6 : ∀ b, F b → b < w.heap.size)
    (h : Now w1 w' s 4 (kv ls) F0) : NowT w w' t ls F := by
  obtain ⟨⟨F', hS, hF⟩, hK⟩ := h
  have hz := hK1.size
  refine ⟨⟨fun b => (F b ∨ w.heap.size ≤ b) ∧ b < w'.heap.size, ⟨s, F', h1.kept hK h3, hS, ?_, ⟨.inl h4, Nat.lt_of_lt_of_le (h6 t h4) (Nat.le_trans hz hK.size)⟩, fun b hb => ⟨?_, hS.lt b hb⟩, fun b hb => hb.2⟩, fun b hb => hb.1⟩, ?_⟩
  · intro hb
    rcases hF t hb with h | h
    · exact h3 h
    · have := h6 t h4; omega
  · rcases hF b hb with h | h
    · exact .inl (h5 b h)
    · exact .inr (by omega)
  · exact (hK1.mono fun _ _ h => h.elim).trans hK fun b _ hb => h5 b hb

end Go.Proofs.YtipejahmjdamjaaGreatDoor.Tl
