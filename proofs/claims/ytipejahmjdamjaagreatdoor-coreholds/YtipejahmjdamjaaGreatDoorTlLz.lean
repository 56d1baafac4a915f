import Derived.Test.YtipejahmjdamjaaGreatDoorTlList
import Derived.RangeFuncNested
import Derived.RangeFuncBound
import Derived.RangeFuncCalls
import Derived.RangeFuncLeaves
import Derived.Shelf.RegionOpen
import Derived.OwnWalkIn
import Derived.TacticsInMore
import Derived.LoopNIn
import Derived.LoopIn
import Derived.Deep.RegionHeld3
namespace Go.Proofs.YtipejahmjdamjaaGreatDoor.Tl
open Go.RowKit Go.Shelf
attribute [local go_sem] Oper.semAt_some
set_option linter.unusedVariables false
set_option maxRecDepth 6000

theorem all_any (s : Option Addr) (w : World) :
    Calls Tryz.prog 99 #[.pointer s] w fun r w' => r = .returned (.func (.func 147) #[] #[.pointer (some ⟨w.heap.size, 0, none⟩)]) ∧ w' = w.alloc (.cells #[.pointer s] 122) := by
  go_enter Tryz.func99, Tryz.ntmps99
  go_wp2
  go_ret
  exact ⟨rfl, rfl⟩

def encA (p : Int × Lf) : Array Value := #[.int .i64 p.1, p.2.v]

theorem owns_at {w : World} {v : Value} {n g : Nat} {kvs : List (Int × Lf)} (h : w.ownsRow 0 166 4 v n (flat kvs)) (hg : v.ownBlock = some g) :
    ∃ cap, v = .slice (some ⟨g, 0, none⟩) n cap ∧ g < w.heap.size ∧ n ≤ cap ∧ (cap : Int) ≤ 9223372036854775807 ∧ ∀ j p, kvs[j]? = some p → w.cell? ⟨g, j * 4, none⟩ = some (.int .i64 p.1) ∧ w.cell? ⟨g, j * 4 + 1, none⟩ = some (.int .i64 p.2.p) ∧ w.cell? ⟨g, j * 4 + 2, none⟩ = some (.int .i64 p.2.f) ∧ w.cell? ⟨g, j * 4 + 3, none⟩ = some (.int .i64 p.2.r) := by
  have hc := h.cells hg
  rcases h.2 with ⟨rfl, _⟩ | ⟨g', cap, cur, rfl, _, hgg, h5, h6, _⟩
  · simp [Value.ownBlock] at hg
  · simp [Value.ownBlock] at hg
    subst hg
    refine ⟨cap, rfl, (Array.getElem?_eq_some_iff.1 hgg).1, h5, by unfold maxLen at h6; omega, fun j p hj => ?_⟩
    obtain ⟨h1, h2, h3, h4⟩ := flat_get kvs j p hj
    have a1 := hc _ _ h1
    have a2 := hc _ _ h2
    have a3 := hc _ _ h3
    have a4 := hc _ _ h4
    rw [addr_add, Nat.zero_add, Nat.mul_comm] at a1 a2 a3 a4
    exact ⟨a1, a2, a3, a4⟩

set_option maxHeartbeats 4000000 in
theorem all_lists (n B1 s room : Nat) (kvs : List (Int × Lf)) :
    Lists Fence.wide n Tryz.prog 147 #[.pointer (some ⟨B1, 0, none⟩)] encA (fun W => W.cell? ⟨B1, 0, none⟩ = some (ptr s) ∧ ∃ F, Sf W s room kvs F) kvs := by
  intro l J Jx W hgood hstart hkeep hyield
  obtain ⟨p1, F, hS⟩ := hgood
  have hLl : kvs.length ≤ 4096 := by have := hS.fits; have := hS.bounds; omega
  obtain ⟨L, hL⟩ : ∃ L, L = kvs.length := ⟨_, rfl⟩
  have HC : Hid (Calls _ _ _ _ _) := items_any s room kvs F W hS
  have HK : Hid (∀ g i W W', Keeps (fun _ => False) W W' → J g i W → J g i W') := hkeep
  have H0 : Hid (∀ g W', Keeps (fun _ => False) W W' → W.heap.size ≤ g → g < W'.heap.size → J g 0 W') := hstart
  have HY : Hid (∀ g i x W, kvs[i]? = some x → J g i W → YieldAt Fence.wide (n - 1) Tryz.prog l (encA x) W fun e W' => W'.heap[g]? = W.heap[g]? ∧ ((e = .returned (.bool true) ∧ J g (i + 1) W') ∨ (e = .returned (.bool false) ∧ Jx W'))) := hyield
  have HT : Hid (True ∧ L = kvs.length) := ⟨trivial, hL⟩
  have hL2 : (L : Int) ≤ 4096 := by omega
  clear hstart hkeep hyield hS hL hLl
  refine callsIn_of_wp Tryz.func147 rfl trivial ?_ rfl
  refine wpIn_wide.2 ?_
  simp only [Tryz.ntmps147, List.size_toArray, List.length_cons, List.length_nil, Nat.reduceAdd, Nat.reduceSub, Array.replicate_succ, Array.replicate_zero, List.push_toArray, List.append_toArray, List.nil_append, List.cons_append]
  go_wp2_with fail
  refine HC.out.mono ?_
  rintro r W0 ⟨v, g, rfl, hO, hg, hge, hK0⟩
  obtain ⟨cap, rfl, hglt, hcap1, hcap2, hcells⟩ := owns_at hO hg
  have HJ0 : Hid (J g 0 W0) := H0.out g W0 hK0 hge hglt
  have HCl : Hid (∀ j p, kvs[j]? = some p → W0.cell? ⟨g, j * 4, none⟩ = some (.int .i64 p.1) ∧ W0.cell? ⟨g, j * 4 + 1, none⟩ = some (.int .i64 p.2.p) ∧ W0.cell? ⟨g, j * 4 + 2, none⟩ = some (.int .i64 p.2.f) ∧ W0.cell? ⟨g, j * 4 + 3, none⟩ = some (.int .i64 p.2.r)) := hcells
  rw [← HT.out.2] at hcap1 ⊢
  have hcap3 : (L : Int) ≤ cap := by omega
  clear hO hg hge hK0 hcells H0 HC p1 hcap1
  go_wp2
  refine (wpIn_wide (n := n)).1 ?_
  gi_loopw [8] (fun i wr => ∃ j : Nat, j ≤ L ∧ i = .int .i64 j ∧ J g j wr ∧ wr.heap[g]? = W0.heap[g]?) (fun i _ => L - (intOf i).toNat)
  case atStart => exact ⟨0, by omega, rfl, HJ0.out, rfl⟩
  case round =>
    obtain ⟨j, hj, rfl, hJ, hgk⟩ := hrel
    by_cases hlt : j < L
    · obtain ⟨p, hp⟩ : ∃ p, kvs[j]? = some p := ⟨_, List.getElem?_eq_getElem (by have := HT.out.2; omega)⟩
      obtain ⟨k1, k2, k3, k4⟩ := HCl.out j p hp
      rw [← World.cell?_of_block (w := W0) (w' := wr) hgk] at k1 k2 k3 k4
      obtain ⟨pk, pv⟩ := p
      simp only at k1 k2 k3 k4
      have hKa : Keeps (fun _ => False) wr (wr.alloc (.cells #[.int .i64 pk, .int .i64 pv.p, .int .i64 pv.f, .int .i64 pv.r] 166)) := (Keeps.refl _ wr).alloc _
      have hgw : g < wr.heap.size := by
        have h5 : W0.heap[g]? ≠ none := by simp [hglt]
        rw [← hgk] at h5
        simpa using h5
      obtain ⟨fn, tmps, assign, body, hy, hR⟩ := HY.out g j (pk, pv) _ hp (HK.out g j _ _ hKa hJ)
      unfold encA at hy
      dsimp only at hy
      have HA : Hid ((wr.alloc (.cells #[.int .i64 pk, .int .i64 pv.p, .int .i64 pv.f, .int .i64 pv.r] 166)).heap[g]? = W0.heap[g]?) := (hKa.block g hgw fun h => h).trans hgk
      have HR : Hid (RoundIn _ _ _ _ _ _ _ _ _ _) := hR
      clear hJ hgk hp hKa hgw hR
      gi_wp2_with fail
      refine ⟨fun h => by simp [Fence.wide] at h, ?_⟩
      refine HR.out.mono ?_
      rintro e W3 ⟨hg3, (⟨rfl, hJ3⟩ | ⟨rfl, hJx3⟩)⟩
      · have HJ3 : Hid (J g (j + 1) W3 ∧ W3.heap[g]? = W0.heap[g]?) := ⟨hJ3, hg3.trans HA.out⟩
        clear hJ3 hg3 hy HR k1 k2 k3 k4 HA
        gi_wp2
        go_roundw
        case rel => exact ⟨j + 1, by omega, by go_num, HJ3.out.1, HJ3.out.2⟩
        case measure => simp [intOf]; omega
      · have HJ3 : Hid (Jx W3) := hJx3
        clear hJx3 hg3 hy HR k1 k2 k3 k4 HA
        gi_wp2
        refine bodyPost_ret (results_none rfl _ _ _) rfl ?_
        exact ⟨⟨_, rfl⟩, .inr HJ3.out⟩
    · obtain rfl : j = L := by omega
      have HJ : Hid (J g j wr) := hJ
      clear hJ hgk
      gi_wp2
      go_end0
      exact ⟨⟨_, rfl⟩, .inl ⟨g, by rw [← HT.out.2]; exact HJ.out⟩⟩

end Go.Proofs.YtipejahmjdamjaaGreatDoor.Tl
namespace Go.Proofs.YtipejahmjdamjaaGreatDoor.Tl
open Go.RowKit Go.Shelf
set_option linter.unusedVariables false

def inB (n many : Int) : Bool := decide (0 ≤ n) && decide (n < many)
def mayB (l : Lf) : Bool := inB l.p 256 && inB l.f 1024 && inB l.r 8

theorem within_any (n many : Int) (w : World) : Calls Tryz.prog 167 #[.int .i64 n, .int .i64 many] w fun r w' => r = .returned (.bool (inB n many)) ∧ w' = w := by
  unfold inB
  by_cases h1 : 0 ≤ n
  · by_cases h2 : n < many
    · rw [decide_eq_true h1, decide_eq_true h2]
      go_enter Tryz.func167, Tryz.ntmps167
      go_wp2
      go_ret
      exact ⟨rfl, rfl⟩
    · rw [decide_eq_true h1, decide_eq_false h2]
      go_enter Tryz.func167, Tryz.ntmps167
      go_wp2
      go_ret
      exact ⟨rfl, rfl⟩
  · rw [decide_eq_false h1]
    go_enter Tryz.func167, Tryz.ntmps167
    go_wp2
    go_ret
    exact ⟨rfl, rfl⟩

theorem mayBe_any (l : Lf) (w : World) : Calls Tryz.prog 122 #[l.v] w fun r w' => r = .returned (.bool (mayB l)) ∧ Keeps (fun _ => False) w w' := by
  obtain ⟨W, hW⟩ : ∃ W, W = w.alloc (.cells #[.int .i64 l.p, .int .i64 l.f, .int .i64 l.r] 64) := ⟨_, rfl⟩
  have hB : Blk W w.heap.size l.vs 64 := by rw [hW]; exact Blk.new w _ 64
  have v0 := hB.cell (i := 0) rfl
  have v1 := hB.cell (i := 1) rfl
  have v2 := hB.cell (i := 2) rfl
  have hKW : Keeps (fun _ => False) w W := by rw [hW]; exact (Keeps.refl _ w).alloc _
  have HW : Hid (W = _ ∧ Keeps (fun _ => False) w W) := ⟨hW, hKW⟩
  have H1 : Hid (Calls _ _ _ _ _) := within_any l.p 256 W
  have H2 : Hid (Calls _ _ _ _ _) := within_any l.f 1024 W
  have H3 : Hid (Calls _ _ _ _ _) := within_any l.r 8 W
  clear hW hKW hB
  unfold mayB
  generalize inB l.p 256 = b1 at *
  generalize inB l.f 1024 = b2 at *
  generalize inB l.r 8 = b3 at *
  cases b1
  · go_enter Tryz.func122, Tryz.ntmps122
    go_wp2_with fail
    rw [← HW.out.1]
    refine H1.out.mono ?_
    rintro r w1 ⟨rfl, rfl⟩
    go_wp2
    go_ret
    exact ⟨rfl, HW.out.2⟩
  · cases b2
    · go_enter Tryz.func122, Tryz.ntmps122
      go_wp2_with fail
      rw [← HW.out.1]
      refine H1.out.mono ?_
      rintro r w1 ⟨rfl, rfl⟩
      go_wp2_with fail
      refine H2.out.mono ?_
      rintro r w1 ⟨rfl, rfl⟩
      go_wp2
      go_ret
      exact ⟨rfl, HW.out.2⟩
    · go_enter Tryz.func122, Tryz.ntmps122
      go_wp2_with fail
      rw [← HW.out.1]
      refine H1.out.mono ?_
      rintro r w1 ⟨rfl, rfl⟩
      go_wp2_with fail
      refine H2.out.mono ?_
      rintro r w1 ⟨rfl, rfl⟩
      go_wp2_with fail
      refine H3.out.mono ?_
      rintro r w1 ⟨rfl, rfl⟩
      go_wp2
      go_ret
      exact ⟨by simp, HW.out.2⟩

/-! ### A TLB -/
def kv (ls : List Lf) : List (Int × Lf) := ls.map fun l => (l.p, l)
def wo (p : Int) (ls : List Lf) : List Lf := ls.filter fun l => l.p != p
def findT (p : Int) (ls : List Lf) : Option Lf := ls.find? fun l => l.p == p
def touchT (p : Int) (ls : List Lf) : List Lf := match findT p ls with | some x => wo p ls ++ [x] | none => ls
def putT (l : Lf) (ls : List Lf) : List Lf := if 4 < (wo l.p ls ++ [l]).length then (wo l.p ls ++ [l]).tail else wo l.p ls ++ [l]

theorem look_kv (p : Int) (ls : List Lf) : look p (kv ls) = findT p ls := by
  unfold look kv findT
  rw [List.find?_map, Option.map_map]
  have : (Prod.snd ∘ fun l : Lf => (l.p, l)) = id := rfl
  rw [this, Option.map_id]
  rfl
theorem del_kv (p : Int) (ls : List Lf) : del p (kv ls) = kv (wo p ls) := by
  unfold del kv wo
  rw [List.filter_map]
  rfl
theorem touch_kv (p : Int) (ls : List Lf) : touch p (kv ls) = kv (touchT p ls) := by
  unfold touch touchT
  rw [look_kv, del_kv]
  cases h : findT p ls with
  | none => rfl
  | some x =>
    have hx : x.p = p := by
      have := List.find?_some h
      simpa using this
    simp [kv, hx]
theorem wo_absent {p : Int} {ls : List Lf} (h : findT p ls = none) : wo p ls = ls := by
  unfold findT at h
  rw [List.find?_eq_none] at h
  exact List.filter_eq_self.2 fun l hl => by simpa using h l hl
theorem wo_lt {p : Int} {ls : List Lf} {x : Lf} (h : findT p ls = some x) : (wo p ls).length < ls.length := by
  have hm := List.mem_of_find?_eq_some h
  have hx := List.find?_some h
  unfold wo
  refine Nat.lt_of_le_of_ne (List.length_filter_le _ _) fun he => ?_
  have := List.length_filter_eq_length_iff.1 he x hm
  simp at hx this
  exact this hx
theorem wo_le (p : Int) (ls : List Lf) : (wo p ls).length ≤ ls.length := List.length_filter_le _ _
theorem put_kv (l : Lf) {ls : List Lf} (h4 : ls.length ≤ 4) : putL 4 l.p l (kv ls) = kv (putT l ls) := by
  unfold putL putT
  rw [look_kv, del_kv]
  cases h : findT l.p ls with
  | none =>
    rw [wo_absent h]
    have e1 : (kv ls).length = ls.length := by simp [kv]
    rw [e1]
    by_cases h5 : ls.length < 4
    · rw [if_neg (by simp), if_pos h5, if_neg (by simp; omega)]
      simp [kv]
    · rw [if_neg (by simp), if_neg h5, if_pos (by simp; omega)]
      cases ls with
      | nil => simp at h5
      | cons a r => simp [kv]
  | some x =>
    have := wo_lt h
    rw [if_pos (by simp), if_neg (by simp; omega)]
    simp [kv]
theorem putT_le (l : Lf) {ls : List Lf} (h4 : ls.length ≤ 4) : (putT l ls).length ≤ 4 := by
  unfold putT
  have := wo_le l.p ls
  split
  · simp at *; omega
  · omega
theorem touchT_le (p : Int) {ls : List Lf} (h4 : ls.length ≤ 4) : (touchT p ls).length ≤ 4 := by
  unfold touchT
  cases h : findT p ls with
  | none => exact h4
  | some x => have := wo_lt h; simp; omega

/-- A TLB in the memory: what it holds, the least lately used first; all its blocks are among F. -/
def Tl (w : World) (t : Nat) (ls : List Lf) (F : Nat → Prop) : Prop :=
  ∃ s F0, Blk w t [ptr s] 126 ∧ Sf w s 4 (kv ls) F0 ∧ ¬ F0 t ∧ F t ∧ (∀ b, F0 b → F b) ∧ ∀ b, F b → b < w.heap.size

theorem Tl.kept {S : Nat → Prop} {w w' : World} {t : Nat} {ls : List Lf} {F : Nat → Prop} (h : Tl w t ls F) (hK : Keeps S w w') (hn : ∀ b, F b → ¬ S b) : Tl w' t ls F := by
  obtain ⟨s, F0, h1, h2, h3, h4, h5, h6⟩ := h
  exact ⟨s, F0, h1.kept hK (hn t h4), h2.kept hK fun b hb => hn b (h5 b hb), h3, h4, h5, fun b hb => Nat.lt_of_lt_of_le (h6 b hb) hK.size⟩
theorem Tl.lt {w : World} {t : Nat} {ls : List Lf} {F : Nat → Prop} (h : Tl w t ls F) : ∀ b, F b → b < w.heap.size := by
  obtain ⟨s, F0, h1, h2, h3, h4, h5, h6⟩ := h
  exact h6
theorem Tl.le {w : World} {t : Nat} {ls : List Lf} {F : Nat → Prop} (h : Tl w t ls F) : ls.length ≤ 4 := by
  obtain ⟨s, F0, h1, h2, h3, h4, h5, h6⟩ := h
  have := h2.fits
  simpa [kv] using this
theorem Tl.pages {w : World} {t : Nat} {ls : List Lf} {F : Nat → Prop} (h : Tl w t ls F) : (ls.map Lf.p).Nodup := by
  obtain ⟨s, F0, h1, h2, h3, h4, h5, h6⟩ := h
  have := h2.keys
  unfold kv at this
  rw [List.map_map] at this
  exact this

/-- Where the TLB is now: its blocks are old ones of its own or new ones. -/
def NowT (w w' : World) (t : Nat) (ls : List Lf) (F : Nat → Prop) : Prop :=
  (∃ F', Tl w' t ls F' ∧ ∀ b, F' b → F b ∨ w.heap.size ≤ b) ∧ Keeps F w w'

theorem nowT_of {w w1 w' : World} {t s : Nat} {ls : List Lf} {F F0 : Nat → Prop} (hK1 : Keeps (fun _ => False) w w1) (h1 : Blk w1 t [ptr s] 126) (h3 : ¬ F0 t) (h4 : F t) (h5 : ∀ b, F0 b → F b) (h6 : ∀ b, F b → b < w.heap.size)
    (h : Now w1 w' s 4 (kv ls) F0) : NowT w w' t ls F := by
  obtain ⟨⟨F', hS, hF⟩, hK⟩ := h
  have hz := hK1.size
  refine ⟨⟨fun b => (F b ∨ w.heap.size ≤ b) ∧ b < w'.heap.size, ⟨s, F', h1.kept hK h3, hS, ?_, ⟨.inl h4, Nat.lt_of_lt_of_le (h6 t h4) (Nat.le_trans hz hK.size)⟩, fun b hb => ⟨?_, hS.lt b hb⟩, fun b hb => hb.2⟩, fun b hb => hb.1⟩, ?_⟩
  · intro hb
    rcases hF t hb with h | h
    · exact h3 h
    · have := h6 t h4; omega
  · rcases hF b hb with h | h
    · exact .inl (h5 b h)
    · exact .inr (by omega)
  · exact (hK1.mono fun _ _ h => h.elim).trans hK fun b _ hb => h5 b hb

end Go.Proofs.YtipejahmjdamjaaGreatDoor.Tl
namespace Go.Proofs.YtipejahmjdamjaaGreatDoor.Tl
open Go.RowKit Go.Shelf
set_option linter.unusedVariables false
set_option maxRecDepth 6000

theorem newT_any (w : World) : Calls Tryz.prog 39 #[] w fun r w' => ∃ t, r = .returned (ptr t) ∧ (∃ F, Tl w' t [] F ∧ ∀ b, F b → w.heap.size ≤ b) ∧ Keeps (fun _ => False) w w' := by
  have H1 : Hid (Calls Tryz.prog 68 #[.int .i64 4] w _) := new_any 4 w (by omega) (by omega)
  go_enter Tryz.func39, Tryz.ntmps39
  go_wp2_with fail
  refine H1.out.mono ?_
  rintro r w1 ⟨rfl, ⟨F, hS, hF⟩, hK⟩
  have HS : Hid (Sf w1 (w.heap.size + 1) 4 [] F ∧ (∀ b, F b → w.heap.size ≤ b) ∧ Keeps (fun _ => False) w w1) := ⟨hS, hF, hK⟩
  clear hS hF hK H1
  go_wp2
  go_ret
  obtain ⟨hS, hF, hK⟩ := HS.out
  have hK1 : Keeps (fun _ => False) w1 (w1.alloc (.cells #[ptr (w.heap.size + 1)] 126)) := (Keeps.refl _ w1).alloc _
  refine ⟨w1.heap.size, rfl, ⟨fun b => w.heap.size ≤ b ∧ b < w1.heap.size + 1, ⟨w.heap.size + 1, F, Blk.new w1 _ 126, hS.kept hK1 fun _ _ h => h, fun h => ?_, ⟨hK.size, by omega⟩, fun b hb => ⟨hF b hb, ?_⟩, fun b hb => ?_⟩, fun b hb => hb.1⟩, hK.trans hK1 fun _ _ h => h⟩
  · have := hS.lt _ h; omega
  · have := hS.lt _ hb; omega
  · simp; exact hb.2

theorem lay_any (t : Nat) (ls : List Lf) (F : Nat → Prop) (l : Lf) (w : World) (h : Tl w t ls F) (hp : I64 l.p) :
    Calls Tryz.prog 87 #[ptr t, l.v] w fun r w' => r = .returned (.tuple #[]) ∧ NowT w w' t (putT l ls) F := by
  have h4 := h.le
  obtain ⟨s, F0, h1, h2, h3, h4', h5, h6⟩ := h
  obtain ⟨W, hW⟩ : ∃ W, W = w.alloc (.cells #[.int .i64 l.p, .int .i64 l.f, .int .i64 l.r] 64) := ⟨_, rfl⟩
  have hB : Blk W w.heap.size l.vs 64 := by rw [hW]; exact Blk.new w _ 64
  have v0 := hB.cell (i := 0) rfl
  have v1 := hB.cell (i := 1) rfl
  have v2 := hB.cell (i := 2) rfl
  have hKW : Keeps (fun _ => False) w W := by rw [hW]; exact (Keeps.refl _ w).alloc _
  have HW : Hid (W = _ ∧ Keeps (fun _ => False) w W) := ⟨hW, hKW⟩
  have h1' : Blk W t [ptr s] 126 := h1.kept hKW fun h => h
  have h2' : Sf W s 4 (kv ls) F0 := h2.kept hKW fun _ _ h => h
  have c0 := h1'.cell (i := 0) rfl
  have hKd : Keeps (fun _ => False) W (W.drewN 1) := (Keeps.refl _ W).drewN 1
  have H1 : Hid (Calls _ _ _ _ _) := put_any s 4 (kv ls) F0 l.p l (W.drewN 1) (h2'.kept hKd fun _ _ h => h) hp
  rw [put_kv l h4] at H1
  clear hKd
  have HH : Hid (Blk W t [ptr s] 126 ∧ ¬ F0 t ∧ F t ∧ (∀ b, F0 b → F b) ∧ ∀ b, F b → b < w.heap.size) := ⟨h1', h3, h4', h5, h6⟩
  clear hW hKW hB h1' h2' h1 h2 h3 h4 h4' h5 h6
  go_enter Tryz.func87, Tryz.ntmps87
  go_wp2_with fail
  rw [← HW.out.1]
  refine region_tail 7 (by kernel_rfl) ?_
  simp only [List.take_succ_cons, List.take_zero, List.drop_succ_cons, List.drop_zero]
  repeat still_step
  refine wpStill_nil ?_
  go_wp2_with fail
  refine H1.out.mono ?_
  rintro r w1 ⟨rfl, hN⟩
  have HN : Hid (Now (W.drewN 1) w1 s 4 (kv (putT l ls)) F0) := hN
  clear hN H1 c0 v0 v1 v2
  go_wp2
  go_end0
  obtain ⟨h1, h3, h4, h5, h6⟩ := HH.out
  exact ⟨rfl, nowT_of (HW.out.2.drewN 1) h1 h3 h4 h5 h6 HN.out⟩

theorem flush_any (t : Nat) (ls : List Lf) (F : Nat → Prop) (w : World) (h : Tl w t ls F) :
    Calls Tryz.prog 58 #[ptr t] w fun r w' => r = .returned (.tuple #[]) ∧ NowT w w' t [] F := by
  obtain ⟨s, F0, h1, h2, h3, h4, h5, h6⟩ := h
  have c0 := h1.cell (i := 0) rfl
  have H1 : Hid (Calls _ _ _ _ _) := clear_all s 4 (kv ls) F0 w h2
  have HH : Hid (Blk w t [ptr s] 126 ∧ ¬ F0 t ∧ F t ∧ (∀ b, F0 b → F b) ∧ ∀ b, F b → b < w.heap.size) := ⟨h1, h3, h4, h5, h6⟩
  clear h1 h2 h3 h4 h5 h6
  go_enter Tryz.func58, Tryz.ntmps58
  go_wp2_with fail
  refine H1.out.mono ?_
  rintro r w1 ⟨rfl, hN⟩
  have HN : Hid (Now w w1 s 4 (kv []) F0) := hN
  clear hN H1 c0
  go_wp2
  go_end0
  obtain ⟨h1, h3, h4, h5, h6⟩ := HH.out
  exact ⟨rfl, nowT_of (Keeps.refl _ w) h1 h3 h4 h5 h6 HN.out⟩

theorem nowT_same {w w' : World} {t : Nat} {ls : List Lf} {F : Nat → Prop} (h : Tl w t ls F) (hK : Keeps (fun _ => False) w w') : NowT w w' t ls F :=
  ⟨⟨F, h.kept hK fun _ _ h => h, fun b hb => .inl hb⟩, hK.mono fun _ _ h => h.elim⟩

theorem putT_no (t : Nat) (ls : List Lf) (F : Nat → Prop) (l : Lf) (w : World) (h : Tl w t ls F) (hm : mayB l = false) :
    Calls Tryz.prog 175 #[ptr t, l.v] w fun r w' => r = .returned (.int .i64 80) ∧ NowT w w' t ls F := by
  obtain ⟨W, hW⟩ : ∃ W, W = w.alloc (.cells #[.int .i64 l.p, .int .i64 l.f, .int .i64 l.r] 64) := ⟨_, rfl⟩
  have hB : Blk W w.heap.size l.vs 64 := by rw [hW]; exact Blk.new w _ 64
  have v0 := hB.cell (i := 0) rfl
  have v1 := hB.cell (i := 1) rfl
  have v2 := hB.cell (i := 2) rfl
  have hKW : Keeps (fun _ => False) w W := by rw [hW]; exact (Keeps.refl _ w).alloc _
  have HW : Hid (W = _ ∧ Keeps (fun _ => False) w W ∧ Tl w t ls F) := ⟨hW, hKW, h⟩
  have H1 : Hid (Calls _ _ _ _ _) := mayBe_any l W
  rw [hm] at H1
  clear hW hKW hB h hm
  go_enter Tryz.func175, Tryz.ntmps175
  go_wp2_with fail
  rw [← HW.out.1]
  refine H1.out.mono ?_
  rintro r w1 ⟨rfl, hK⟩
  have HK : Hid (Keeps (fun _ => False) W w1) := hK
  clear hK v0 v1 v2 H1
  go_wp2
  go_ret
  exact ⟨rfl, nowT_same HW.out.2.2 (HW.out.2.1.trans HK.out fun _ _ h => h)⟩

theorem mayB_p {l : Lf} (h : mayB l = true) : I64 l.p := by
  simp [mayB, inB] at h
  exact ⟨by omega, by omega⟩

theorem NowT.first {w w1 w' : World} {t : Nat} {ls : List Lf} {F : Nat → Prop} (hK : Keeps (fun _ => False) w w1) (h6 : ∀ b, F b → b < w.heap.size) (h : NowT w1 w' t ls F) : NowT w w' t ls F := by
  obtain ⟨⟨F', h1, h2⟩, h3⟩ := h
  refine ⟨⟨F', h1, fun b hb => ?_⟩, (hK.mono fun _ _ h => h.elim).trans h3 fun _ _ h => h⟩
  rcases h2 b hb with h | h
  · exact .inl h
  · exact .inr (by have := hK.size; omega)

theorem putT_yes (t : Nat) (ls : List Lf) (F : Nat → Prop) (l : Lf) (w : World) (h : Tl w t ls F) (hm : mayB l = true) :
    Calls Tryz.prog 175 #[ptr t, l.v] w fun r w' => r = .returned (.int .i64 0) ∧ NowT w w' t (putT l ls) F := by
  obtain ⟨W, hW⟩ : ∃ W, W = w.alloc (.cells #[.int .i64 l.p, .int .i64 l.f, .int .i64 l.r] 64) := ⟨_, rfl⟩
  have hB : Blk W w.heap.size l.vs 64 := by rw [hW]; exact Blk.new w _ 64
  have v0 := hB.cell (i := 0) rfl
  have v1 := hB.cell (i := 1) rfl
  have v2 := hB.cell (i := 2) rfl
  have hKW : Keeps (fun _ => False) w W := by rw [hW]; exact (Keeps.refl _ w).alloc _
  have HW : Hid (W = _ ∧ Keeps (fun _ => False) w W ∧ Tl w t ls F ∧ Blk W w.heap.size l.vs 64 ∧ I64 l.p) := ⟨hW, hKW, h, hB, mayB_p hm⟩
  have H1 : Hid (Calls _ _ _ _ _) := mayBe_any l W
  rw [hm] at H1
  clear hW hKW hB h hm
  go_enter Tryz.func175, Tryz.ntmps175
  go_wp2_with fail
  rw [← HW.out.1]
  refine H1.out.mono ?_
  rintro r w1 ⟨rfl, hK⟩
  have hKw : Keeps (fun _ => False) w w1 := HW.out.2.1.trans hK fun _ _ h => h
  have HK : Hid (Keeps (fun _ => False) w w1) := hKw
  have H2 : Hid (Calls _ _ _ _ _) := lay_any t ls F l w1 (HW.out.2.2.1.kept hKw fun _ _ h => h) HW.out.2.2.2.2
  have hB1 : Blk w1 w.heap.size l.vs 64 := HW.out.2.2.2.1.kept hK fun h => h
  clear hK v0 v1 v2 H1 hKw
  have v0 := hB1.cell (i := 0) rfl
  have v1 := hB1.cell (i := 1) rfl
  have v2 := hB1.cell (i := 2) rfl
  clear hB1
  go_wp2_with fail
  refine H2.out.mono ?_
  rintro r w2 ⟨rfl, hN⟩
  have HN : Hid (NowT w1 w2 t (putT l ls) F) := hN
  clear hN v0 v1 v2 H2
  go_wp2
  go_ret
  exact ⟨rfl, HN.out.first HK.out HW.out.2.2.1.lt⟩

theorem nowT_mk {w w' : World} {t s : Nat} {ls : List Lf} {F F0 F' : Nat → Prop} (h1 : Blk w' t [ptr s] 126) (h3 : ¬ F0 t) (h4 : F t) (h5 : ∀ b, F0 b → F b) (h6 : ∀ b, F b → b < w.heap.size)
    (hS : Sf w' s 4 (kv ls) F') (hF : ∀ b, F' b → F0 b ∨ w.heap.size ≤ b) (hK : Keeps F w w') : NowT w w' t ls F := by
  refine ⟨⟨fun b => (F b ∨ w.heap.size ≤ b) ∧ b < w'.heap.size, ⟨s, F', h1, hS, ?_, ⟨.inl h4, Nat.lt_of_lt_of_le (h6 t h4) hK.size⟩, fun b hb => ⟨?_, hS.lt b hb⟩, fun b hb => hb.2⟩, fun b hb => hb.1⟩, hK⟩
  · intro hb
    rcases hF t hb with h | h
    · exact h3 h
    · have := h6 t h4; omega
  · rcases hF b hb with h | h
    · exact .inl (h5 b h)
    · exact .inr h

set_option maxHeartbeats 400000 in
theorem findT_any (t : Nat) (ls : List Lf) (F : Nat → Prop) (p : Int) (w : World) (h : Tl w t ls F) (hp : I64 p) :
    Calls Tryz.prog 174 #[ptr t, .int .i64 p] w fun r w' => r = .returned (.tuple #[((findT p ls).getD Lf.none).v, .bool (findT p ls).isSome]) ∧ NowT w w' t (touchT p ls) F := by
  obtain ⟨s, F0, h1, h2, h3, h4', h5, h6⟩ := h
  obtain ⟨W, hW⟩ : ∃ W, W = w.alloc (.cells #[.int .i64 0, .int .i64 0, .int .i64 0] 64) := ⟨_, rfl⟩
  have hB : Blk W w.heap.size Lf.none.vs 64 := by rw [hW]; exact Blk.new w _ 64
  have hKW : Keeps (fun _ => False) w W := by rw [hW]; exact (Keeps.refl _ w).alloc _
  have HW : Hid (W = _ ∧ Keeps (fun _ => False) w W ∧ Blk W w.heap.size Lf.none.vs 64) := ⟨hW, hKW, hB⟩
  have h1' : Blk W t [ptr s] 126 := h1.kept hKW fun h => h
  have h2' : Sf W s 4 (kv ls) F0 := h2.kept hKW fun _ _ h => h
  have c0 := h1'.cell (i := 0) rfl
  rw [hW] at c0
  have H1 : Hid (Calls _ _ _ _ _) := get_any s 4 (kv ls) F0 p W h2' hp
  rw [look_kv, touch_kv] at H1
  have HH : Hid (Blk W t [ptr s] 126 ∧ ¬ F0 t ∧ F t ∧ (∀ b, F0 b → F b) ∧ ∀ b, F b → b < w.heap.size) := ⟨h1', h3, h4', h5, h6⟩
  clear hW hKW hB h1' h2' h1 h2 h3 h4' h5 h6
  obtain ⟨x, hx⟩ : ∃ x, x = (findT p ls).getD Lf.none := ⟨_, rfl⟩
  rw [← hx] at H1 ⊢
  clear hx
  go_enter Tryz.func174, Tryz.ntmps174
  go_wp2_with fail
  rw [← HW.out.1]
  refine H1.out.mono ?_
  rintro r w1 ⟨rfl, hN⟩
  have HN : Hid (Now W w1 s 4 (kv (touchT p ls)) F0) := hN
  have hB1 : Blk w1 w.heap.size Lf.none.vs 64 := HW.out.2.2.kept hN.2 fun h => by have := HH.out.2.2.2.2 _ (HH.out.2.2.2.1 _ h); omega
  have HB : Hid (Blk w1 w.heap.size Lf.none.vs 64) := hB1
  clear hN H1 c0
  have c0 := hB1.cell (i := 0) rfl
  have c1 := hB1.cell (i := 1) rfl
  have c2 := hB1.cell (i := 2) rfl
  have f0 := hB1.frozen 0
  have f1 := hB1.frozen 1
  have f2 := hB1.frozen 2
  clear hB1
  go_wp2
  refine bodyPost_ret (results_cell_tmp rfl _ _ _ x.v rfl (load_leaf (HB.out.setLeaf x))) rfl ?_
  obtain ⟨h1, h3, h4, h5, h6⟩ := HH.out
  obtain ⟨⟨F', hN1, hN2⟩, hK⟩ := HN.out
  have hz := HW.out.2.2.lt
  have hK4 := (Keeps.refl (fun b => b = w.heap.size) w1).setLeaf w.heap.size x (fun _ => rfl)
  refine ⟨rfl, nowT_mk ((h1.kept hK h3).kept hK4 ?_) h3 h4 h5 h6 (hN1.kept hK4 fun b hb he => ?_) (fun b hb => ?_) ?_⟩
  · have := h6 t h4; omega
  · rcases hN2 b hb with h | h
    · have := h6 b (h5 b h); omega
    · omega
  · rcases hN2 b hb with h | h
    · exact .inl h
    · exact .inr (by omega)
  · exact ((HW.out.2.1.mono fun _ _ h => h.elim).trans hK fun b _ hb => h5 b hb).trans hK4 fun b hb he => by omega

end Go.Proofs.YtipejahmjdamjaaGreatDoor.Tl
namespace Go.Proofs.YtipejahmjdamjaaGreatDoor.Tl
open Go.RowKit Go.Shelf
set_option linter.unusedVariables false

/-! ### A region in a round by the laws of one that is in none -/
section
variable {P : Program} {ops : Array Oper} {Q : Exit → Act → World → Prop} {md : Region.Mode} {S : World → Prop}

theorem rowsIn_round {n l : Nat} {row : String} {args : Array Value} {w : World} {R : Value → World → Prop} (h : Rows P row args w R) : RowsIn (Fence.wide.inRound l) n P row args w R :=
  fun c cs _ => let ⟨v, w', r, s⟩ := h c cs; ⟨v, w', r, stepsIn_wide.2 s⟩

theorem wpOp_inRound {n l i : Nat} {a : Act} {w : World} {K K' : Act → World → Prop} (hnd : ∀ o, ops[i]? = some o → ∀ c, o.op ≠ .defer c) (hQ : ¬ LetsOut Q) (hK : ∀ a w, K a w → K' a w)
    (h : wpOp P ops Q i K a w) : wpOpIn (Fence.wide.inRound l) n P ops Q i K' a w := by
  unfold wpOp at h
  unfold wpOpIn
  cases ho : ops[i]? with
  | none => rw [ho] at h; exact hK _ _ h
  | some o =>
    rw [ho] at h
    simp only at h ⊢
    split
    · rename_i hw
      rw [if_pos hw] at h
      rcases h with h | h
      · refine ⟨fun f _ => trivial, ?_⟩
        rw [Oper.semAt_plain _ _ _ (hnd o ho)]
        unfold Oper.wp at h
        revert h
        generalize (execOp a.eval o).run P w = r
        intro h
        cases r with
        | ok x w' =>
          cases x with
          | value v => exact hK _ _ h
          | skip => exact hK _ _ h
          | defer d => exact hK _ _ h
          | enter f args =>
            refine ⟨fun h => by simp [Fence.inRound, Fence.wide] at h, ?_⟩
            refine (CallsIn.inRound l (callsIn_wide.2 h)).mono ?_
            intro e w2 he
            cases e with
            | returned v => exact hK _ _ he
            | panicked c => exact he
            | outgrown => exact he
          | row r args =>
            refine ⟨fun h => by simp [Fence.inRound, Fence.wide] at h, ?_⟩
            exact (rowsIn_round h).mono fun v w2 hv => hK _ _ hv
          | _ => exact h.elim
        | halt x w' =>
          cases x <;> exact h
      · exact absurd h.2 hQ
    · rename_i hw
      rw [if_neg hw] at h
      exact ⟨fun f _ => trivial, hK _ _ h⟩

theorem wpAny_inRound {n l : Nat} (hnd : ∀ (i : Nat) (o : Oper), ops[i]? = some o → ∀ (c : Call), o.op ≠ .defer c) (hQ : ¬ LetsOut Q) : ∀ (fuel : Nat) (listed : Array Bool) (a : Act) (w : World), wpAny P md ops Q fuel listed a w → wpAnyIn (Fence.wide.inRound l) n P md ops Q fuel listed a w
  | 0, _, _, _, h => h
  | fuel + 1, listed, a, w, h => ⟨h.1, fun i hi => wpOp_inRound (hnd i) hQ (wpAny_inRound hnd hQ fuel _) (h.2 i hi)⟩

/-- The beginning of such a walk. -/
theorem region_inRound {n l id : Nat} {a : Act} {w : World} (hm : P.follows .mixedOrders = true) (hnd : ∀ (i : Nat) (o : Oper), ops[i]? = some o → ∀ (c : Call), o.op ≠ .defer c) (hQ : ¬ LetsOut Q) (S : World → Prop) (hS : S w.drew)
    (h : S w.drew → wpAnyH P .any ops Q S ops.size (Array.replicate ops.size false) a w.drew) : (Code.region id ops true).wpIn (Fence.wide.inRound l) n P Q a w :=
  wpIn_region_any hm (wpAny_inRound hnd hQ _ _ _ _ (wpAny_of_held _ _ _ _ (h hS)))
end

end Go.Proofs.YtipejahmjdamjaaGreatDoor.Tl
namespace Go.Proofs.YtipejahmjdamjaaGreatDoor.Tl
open Go.RowKit

/-- A range over such an iterator, whose variables have blocks of their own. -/
theorem range_list3 {F : Fence} {n : Nat} {P : Program} {α : Type} {g : Operand} {ps : Array Tmp} {assign body : Code} {Q : Exit → Act → World → Prop} {a : Act} {w : World}
    (hro : F.round = none) (h1 : 1 ≤ n) {gf : Nat} {lb : Array Value} (hg : a.eval g = .func (.func gf) #[] lb) (hFg : F.fn gf) (eg : ∀ args w, (callFunc gf args).run P w = .ok (.enter gf args) w)
    {encs : α → Array Value} {Good : World → Prop} {xs : List α}
    (hseq : Lists F (n - 1) P gf lb encs Good xs) (hgood : ∀ W, Keeps (fun _ => False) w W → Good W) (hps : ∀ x, (encs x).size = ps.size)
    (I : Nat → Nat → World → Prop) (Ix : Code → World → Prop)
    (hI : ∀ g i W W', Keeps (fun k => k = w.heap.size ∨ k = w.heap.size + 1) W W' → I g i W → I g i W')
    (hIx : ∀ c W W', Keeps (fun k => k = w.heap.size ∨ k = w.heap.size + 1) W W' → Ix c W → Ix c W')
    (h0 : ∀ g W, Keeps (fun _ => False) w W → w.heap.size + 2 ≤ g → g < W.heap.size → I g 0 W)
    (hround : ∀ (l g i : Nat) (x : α) (W : World), xs[i]? = some x → I g i W → w.heap.size + 2 ≤ g → g < W.heap.size →
      assign.wpIn (F.inRound l) (n - 1 - 1) P (Exit.then (fun a' W' => Keeps (fun _ => False) W W' ∧ ∀ W2, Keeps (fun k => k = w.heap.size ∨ k = w.heap.size + 1) W' W2 → w.heap.size + 1 < W2.heap.size → I g i W2 → body.wpIn (F.inRound l) (n - 1 - 1) P (ListPost w.heap.size g W2 (I g (i + 1)) Ix) a' W2) (fun _ _ _ => False))
        { tmps := (ps.zip (encs x)).foldl (fun t (p, v) => t.setIfInBounds p v) a.tmps, defers := [] } W)
    (hdone : ∀ (g : Nat) (W : World), I g xs.length W → W.heap[w.heap.size]? = some (.deferred (some [])) → Q .normal { a with defers := { target := .collected w.heap.size, args := #[] } :: a.defers } W)
    (hstop : ∀ (c : Code) (W : World), Ix c W → W.heap[w.heap.size]? = some (.deferred (some [])) → c.wpIn F n P Q { a with defers := { target := .collected w.heap.size, args := #[] } :: a.defers } W) :
    (Code.rangeFunc g ps assign body).wpIn F n P Q a w := by
  refine wpIn_rangeFunc fun fn hfn => ?_
  rw [hro]
  obtain ⟨B, hB⟩ : ∃ B, B = w.heap.size := ⟨_, rfl⟩
  rw [← hB] at hI hIx hround hdone hstop h0
  obtain ⟨rec, hrec⟩ : ∃ rec : LoopState → Option Code → Loop, rec = fun st pe => { state := st, pending := pe, fn, tmps := a.tmps, params := ps, assign, body, defers := B } := ⟨_, rfl⟩
  obtain ⟨W1, hW1⟩ : ∃ W1, (w.alloc (.deferred (some []))).alloc (.loop (rec .ready none)) = W1 := ⟨_, rfl⟩
  have hK0 : Keeps (fun _ => False) w W1 := by rw [← hW1]; exact ((Keeps.refl _ w).alloc _).alloc _
  have hS1 : W1.heap.size = B + 2 := by rw [← hW1, hB]; simp
  have hL1 : W1.heap[B + 1]? = some (.loop (rec .ready none)) := by
    have := World.alloc_heap_new (w.alloc (.deferred (some []))) (.loop (rec .ready none))
    rw [World.size_alloc, ← hB, hW1] at this
    exact this
  have hD1 : W1.heap[B]? = some (.deferred (some [])) := by
    rw [← hW1, hB]; exact (Below.heap_alloc _ _ _ (by simp)).trans (World.alloc_heap_new w _)
  refine ⟨B + 1, [{ target := .collected B, args := #[] }], W1, { target := .fn (.func gf) lb, args := #[.func (.yield (B + 1)) #[] #[]] }, W1, gf,
    #[.func (.yield (B + 1)) #[] #[]] ++ lb, W1, ?_, ?_, ?_, ?_, fun _ => h1, ?_⟩
  · rw [← hW1, hrec, hB]; exact run_enterLoop_outer _ _ _ _ _
  · simp only [resolve, hg]
    simp [go_sem]
  · intro f' hf'; simp [Target.leads] at hf'; subst hf'; exact hFg
  · simp [invoke, go_sem, eg]
  refine (hseq (B + 1) (fun g i W => I g i W ∧ (B + 2 ≤ g ∧ g < W.heap.size) ∧ W.heap[B]? = some (.deferred (some [])) ∧ W.heap[B + 1]? = some (.loop (rec .ready none)))
    (fun W => ∃ c, Ix c W ∧ W.heap[B]? = some (.deferred (some [])) ∧ W.heap[B + 1]? = some (.loop (rec .done (some c)))) W1 (hgood W1 hK0)
    (fun g W hK hg1 hg2 => ⟨h0 g W (hK0.trans hK (fun _ _ h => h)) (by omega) hg2, ⟨by omega, hg2⟩, (hK.block B (by omega) (fun h => h)).trans hD1, (hK.block (B + 1) (by omega) (fun h => h)).trans hL1⟩)
    (fun g i W W' hK h => ⟨hI g i W _ (hK.mono fun _ _ h => h.elim) h.1, ⟨h.2.1.1, Nat.lt_of_lt_of_le h.2.1.2 hK.size⟩, (hK.block B (Array.getElem?_eq_some_iff.1 h.2.2.1).1 (fun h => h)).trans h.2.2.1, (hK.block (B + 1) (Array.getElem?_eq_some_iff.1 h.2.2.2).1 (fun h => h)).trans h.2.2.2⟩) ?_).mono ?_
  · rintro g i x W hx ⟨hi, ⟨hgB, hgW⟩, hd, hl⟩
    have hlt : B + 1 < W.heap.size := (Array.getElem?_eq_some_iff.1 hl).1
    have hy := run_yield (P := P) (args := encs x) hl (by rw [hrec]; exact hps x)
    rw [hrec] at hy
    refine ⟨fn, _, assign, body, hy, roundIn_of_wpIn hfn (wpIn_mono (hround _ g i x W hx hi hgB hgW) ?_)⟩
    rintro e0 a' W' hp0
    cases e0 with
    | ret => exact hp0.elim
    | exit id => exact hp0.elim
    | goto t => exact hp0.elim
    | panic ch => exact hp0.elim
    | outgrown => exact hp0.elim
    | normal => ?_
    obtain ⟨hKa, hbody⟩ := hp0
    have hi : I g i W' := hI g i W W' (hKa.mono fun _ _ h => h.elim) hi
    have hg0 : W'.heap[g]? = W.heap[g]? := hKa.block g hgW fun h => h
    have hd : W'.heap[B]? = some (.deferred (some [])) := (hKa.block B (by omega) fun h => h).trans hd
    have hl : W'.heap[B + 1]? = some (.loop (rec .ready none)) := (hKa.block (B + 1) hlt fun h => h).trans hl
    have hlt : B + 1 < W'.heap.size := Nat.lt_of_lt_of_le hlt hKa.size
    refine ⟨_, run_beginRound hl (by rw [hrec]), ?_⟩
    obtain ⟨W2, hW2⟩ : ∃ W2, W'.putObj (B + 1) (.loop { rec .ready none with state := .busy }) = W2 := ⟨_, rfl⟩
    have hk2 : Keeps (fun k => k = B ∨ k = B + 1) W' W2 := by rw [← hW2]; exact keeps_put W' B (B + 1) _ (.inr rfl)
    have hl2 : W2.heap[B + 1]? = some (.loop { rec .ready none with state := .busy }) := by rw [← hW2]; exact World.putObj_heap_same hlt
    have hd2 : W2.heap[B]? = some (.deferred (some [])) := by rw [← hW2]; exact (World.putObj_heap_other (by omega)).trans hd
    have hg2 : W2.heap[g]? = W'.heap[g]? := by rw [← hW2]; exact World.putObj_heap_other (by omega)
    rw [hW2]
    have back : ∀ (jump : Option Code) (W3 : World), KeptAt B g W2 W3 →
        ∃ W4, (Instr.endRound (B + 1) jump).run P W3 = .ok (.bool jump.isNone) W4 ∧ Keeps (fun k => k = B ∨ k = B + 1) W3 W4 ∧ W4.heap[B]? = some (.deferred (some [])) ∧
          W4.heap[B + 1]? = some (.loop (rec (if jump.isNone then .ready else .done) jump)) ∧ W4.heap[g]? = W'.heap[g]? := fun jump W3 h3 => by
      have hl3 := h3.2.1.trans hl2
      have hd3 := h3.1.trans hd2
      have h4 := run_endRound (P := P) jump hl3
      refine ⟨_, h4, keeps_put W3 B (B + 1) _ (.inr rfl), (World.putObj_heap_other (by omega)).trans hd3, ?_, (World.putObj_heap_other (by omega)).trans (h3.2.2.trans hg2)⟩
      rw [World.putObj_heap_same (Array.getElem?_eq_some_iff.1 hl3).1, hrec]
    have hgl : ∀ {W4 : World}, W4.heap[g]? = W'.heap[g]? → g < W4.heap.size := fun {W4} h => by
      have h5 : W4.heap[g]? ≠ none := by rw [h, hg0]; simp [hgW]
      simpa using h5
    refine wpIn_mono (hbody W2 hk2 (Array.getElem?_eq_some_iff.1 hl2).1 (hI g i _ W2 hk2 hi)) ?_
    rintro e a3 W3 hp
    cases e with
    | normal =>
      obtain ⟨h3, hi3⟩ := hp
      obtain ⟨W4, hr, hk4, hd4, hl4, hg4⟩ := back none W3 h3
      exact ⟨_, _, hr, hg4.trans hg0, .inl ⟨rfl, hI _ _ _ _ hk4 hi3, ⟨hgB, hgl hg4⟩, hd4, hl4⟩⟩
    | ret =>
      obtain ⟨h3, hi3⟩ := hp
      obtain ⟨W4, hr, hk4, hd4, hl4, hg4⟩ := back (some .ret) W3 h3
      exact ⟨_, _, hr, hg4.trans hg0, .inr ⟨rfl, .ret, hIx _ _ _ hk4 hi3, hd4, hl4⟩⟩
    | exit id =>
      obtain ⟨h3, hi3⟩ := hp
      obtain ⟨W4, hr, hk4, hd4, hl4, hg4⟩ := back (some (.exit id)) W3 h3
      exact ⟨_, _, hr, hg4.trans hg0, .inr ⟨rfl, .exit id, hIx _ _ _ hk4 hi3, hd4, hl4⟩⟩
    | goto t =>
      obtain ⟨h3, hi3⟩ := hp
      obtain ⟨W4, hr, hk4, hd4, hl4, hg4⟩ := back (some (.goto t)) W3 h3
      exact ⟨_, _, hr, hg4.trans hg0, .inr ⟨rfl, .goto t, hIx _ _ _ hk4 hi3, hd4, hl4⟩⟩
    | panic ch => exact hp.elim
    | outgrown => exact hp.elim
  · rintro e W2 ⟨⟨v, rfl⟩, (⟨g, hi, hgB, hd, hl⟩ | ⟨c, hi, hd, hl⟩)⟩
    · exact ⟨none, _, by have := run_endLoop (P := P) hl (by rw [hrec]; simp); rw [hrec] at this; exact this,
        hdone g _ (hI _ _ _ _ (keeps_put W2 B (B + 1) _ (.inr rfl)) hi) ((World.putObj_heap_other (by omega)).trans hd)⟩
    · exact ⟨some c, _, by have := run_endLoop (P := P) hl (by rw [hrec]; simp); rw [hrec] at this; exact this,
        hstop c _ (hIx _ _ _ (keeps_put W2 B (B + 1) _ (.inr rfl)) hi) ((World.putObj_heap_other (by omega)).trans hd)⟩

end Go.Proofs.YtipejahmjdamjaaGreatDoor.Tl
