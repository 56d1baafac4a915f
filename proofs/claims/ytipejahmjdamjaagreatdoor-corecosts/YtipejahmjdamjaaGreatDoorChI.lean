import Derived.Test.YtipejahmjdamjaaGreatDoorMem
import Derived.RangeFuncIn
import Derived.RangeFuncRecord
import Derived.RangeFuncSeq
import Derived.Test.YtipejahmjdamjaaGreatDoorChH
import Derived.RangeFuncNested
import Derived.RangeFuncBound
import Derived.RangeFuncCalls
import Derived.RangeFuncLeaves
import Derived.Shelf.RegionOpen
import Derived.OwnWalkIn
import Derived.TacticsInMore
import Derived.LoopNIn
import Derived.LoopIn
namespace Go.Proofs.YtipejahmjdamjaaGreatDoor.Ch
open Go.RowKit

/-- An iterator that tells a list, which it holds in a block g of its own from the beginning on: whoever ranges over it keeps that block. -/
def Lists {α : Type} (F : Fence) (n : Nat) (P : Program) (gf : Nat) (lb : Array Value) (encs : α → Array Value) (Good : World → Prop) (xs : List α) : Prop :=
  ∀ (l : Nat) (J : Nat → Nat → World → Prop) (Jx : World → Prop) (W : World), Good W → (∀ g W', Keeps (fun _ => False) W W' → W.heap.size ≤ g → g < W'.heap.size → J g 0 W') → (∀ g i W W', Keeps (fun _ => False) W W' → J g i W → J g i W') →
    (∀ g i x W, xs[i]? = some x → J g i W → YieldAt F (n - 1) P l (encs x) W fun e W' => W'.heap[g]? = W.heap[g]? ∧ ((e = .returned (.bool true) ∧ J g (i + 1) W') ∨ (e = .returned (.bool false) ∧ Jx W'))) →
    CallsIn F n P gf (#[.func (.yield l) #[] #[]] ++ lb) W fun e W' => (∃ v, e = .returned v) ∧ ((∃ g, J g xs.length W') ∨ Jx W')

/-- How a round may be left: the two blocks of the loop and the iterator's own are as they were. -/
def KeptAt (B g : Nat) (W W' : World) : Prop := W'.heap[B]? = W.heap[B]? ∧ W'.heap[B + 1]? = W.heap[B + 1]? ∧ W'.heap[g]? = W.heap[g]?
def ListPost (B g : Nat) (W : World) (I : World → Prop) (Ix : Code → World → Prop) : Exit → Act → World → Prop
  | .normal, _, W' => KeptAt B g W W' ∧ I W'
  | .ret, _, W' => KeptAt B g W W' ∧ Ix .ret W'
  | .exit id, _, W' => KeptAt B g W W' ∧ Ix (.exit id) W'
  | .goto t, _, W' => KeptAt B g W W' ∧ Ix (.goto t) W'
  | .panic _, _, _ => False
  | .outgrown, _, _ => False

theorem keeps_put (W : World) (B l : Nat) (o : Obj) (hl : l = B ∨ l = B + 1) : Keeps (fun k => k = B ∨ k = B + 1) W (W.putObj l o) :=
  ⟨rfl, rfl, rfl, by simp, fun k _ hn => World.putObj_heap_other fun e => hn (e ▸ hl)⟩

/-- A range over such an iterator. -/
theorem range_list {F : Fence} {n : Nat} {P : Program} {α : Type} {g : Operand} {ps : Array Tmp} {assign body : Code} {Q : Exit → Act → World → Prop} {a : Act} {w : World}
    (hro : F.round = none) (h1 : 1 ≤ n) {gf : Nat} {lb : Array Value} (hg : a.eval g = .func (.func gf) #[] lb) (hFg : F.fn gf) (eg : ∀ args w, (callFunc gf args).run P w = .ok (.enter gf args) w)
    {encs : α → Array Value} {Good : World → Prop} {xs : List α}
    (hseq : Lists F (n - 1) P gf lb encs Good xs) (hgood : ∀ W, Keeps (fun _ => False) w W → Good W) (hps : ∀ x, (encs x).size = ps.size)
    (I : Nat → Nat → World → Prop) (Ix : Code → World → Prop)
    (hI : ∀ g i W W', Keeps (fun k => k = w.heap.size ∨ k = w.heap.size + 1) W W' → I g i W → I g i W')
    (hIx : ∀ c W W', Keeps (fun k => k = w.heap.size ∨ k = w.heap.size + 1) W W' → Ix c W → Ix c W')
    (h0 : ∀ g W, Keeps (fun _ => False) w W → w.heap.size + 2 ≤ g → g < W.heap.size → I g 0 W)
    (hround : ∀ (l g i : Nat) (x : α) (W : World), xs[i]? = some x → I g i W → w.heap.size + 2 ≤ g →
      assign.wpIn (F.inRound l) (n - 1 - 1) P (Exit.then (fun a' W' => W' = W ∧ ∀ W2, w.heap.size + 1 < W2.heap.size → I g i W2 → body.wpIn (F.inRound l) (n - 1 - 1) P (ListPost w.heap.size g W2 (I g (i + 1)) Ix) a' W2) (fun _ _ _ => False))
        { tmps := (ps.zip (encs x)).foldl (fun t (p, v) => t.setIfInBounds p v) a.tmps, defers := [] } W)
    (hdone : ∀ (g : Nat) (W : World), I g xs.length W → W.heap[w.heap.size]? = some (.deferred (some [])) → Q .normal { a with defers := { target := .collected w.heap.size, args := #[] } :: a.defers } W)
    (hstop : ∀ (c : Code) (W : World), Ix c W → W.heap[w.heap.size]? = some (.deferred (some [])) → c.wpIn F n P Q { a with defers := { target := .collected w.heap.size, args := #[] } :: a.defers } W) :
    (Code.rangeFunc g ps assign body).wpIn F n P Q a w := by
  refine wpIn_rangeFunc fun fn hfn => ?_
  rw [hro]
  obtain ⟨B, hB⟩ : ∃ B, B = w.heap.size := ⟨_, rfl⟩
  rw [← hB] at hI hIx hround hdone hstop h0
  obtain ⟨rec, hrec⟩ : ∃ rec : LoopState → Option Code → Loop, rec = fun st pe => { state := st, pending := pe, fn, tmps := a.tmps, params := ps, assign, body, defers := B } := ⟨_, rfl⟩
  obtain ⟨W1, hW1⟩ : ∃ W1, (w.alloc (.deferred (some []))).alloc (.loop (rec .ready none)) = W1 := ⟨_, rfl⟩
  have hK0 : Keeps (fun _ => False) w W1 := by rw [← hW1]; exact ((Keeps.refl _ w).alloc _).alloc _
  have hS1 : W1.heap.size = B + 2 := by rw [← hW1, hB]; simp
  have hL1 : W1.heap[B + 1]? = some (.loop (rec .ready none)) := by
    have := World.alloc_heap_new (w.alloc (.deferred (some []))) (.loop (rec .ready none))
    rw [World.size_alloc, ← hB, hW1] at this
    exact this
  have hD1 : W1.heap[B]? = some (.deferred (some [])) := by
    rw [← hW1, hB]; exact (Below.heap_alloc _ _ _ (by simp)).trans (World.alloc_heap_new w _)
  refine ⟨B + 1, [{ target := .collected B, args := #[] }], W1, { target := .fn (.func gf) lb, args := #[.func (.yield (B + 1)) #[] #[]] }, W1, gf,
    #[.func (.yield (B + 1)) #[] #[]] ++ lb, W1, ?_, ?_, ?_, ?_, fun _ => h1, ?_⟩
  · rw [← hW1, hrec, hB]; exact run_enterLoop_outer _ _ _ _ _
  · simp only [resolve, hg]
    simp [go_sem]
  · intro f' hf'; simp [Target.leads] at hf'; subst hf'; exact hFg
  · simp [invoke, go_sem, eg]
  refine (hseq (B + 1) (fun g i W => I g i W ∧ B + 2 ≤ g ∧ W.heap[B]? = some (.deferred (some [])) ∧ W.heap[B + 1]? = some (.loop (rec .ready none)))
    (fun W => ∃ c, Ix c W ∧ W.heap[B]? = some (.deferred (some [])) ∧ W.heap[B + 1]? = some (.loop (rec .done (some c)))) W1 (hgood W1 hK0)
    (fun g W hK hg1 hg2 => ⟨h0 g W (hK0.trans hK (fun _ _ h => h)) (by omega) hg2, by omega, (hK.block B (by omega) (fun h => h)).trans hD1, (hK.block (B + 1) (by omega) (fun h => h)).trans hL1⟩)
    (fun g i W W' hK h => ⟨hI g i W _ (hK.mono fun _ _ h => h.elim) h.1, h.2.1, (hK.block B (Array.getElem?_eq_some_iff.1 h.2.2.1).1 (fun h => h)).trans h.2.2.1, (hK.block (B + 1) (Array.getElem?_eq_some_iff.1 h.2.2.2).1 (fun h => h)).trans h.2.2.2⟩) ?_).mono ?_
  · rintro g i x W hx ⟨hi, hgB, hd, hl⟩
    have hlt : B + 1 < W.heap.size := (Array.getElem?_eq_some_iff.1 hl).1
    have hy := run_yield (P := P) (args := encs x) hl (by rw [hrec]; exact hps x)
    rw [hrec] at hy
    refine ⟨fn, _, assign, body, hy, roundIn_of_wpIn hfn (wpIn_mono (hround _ g i x W hx hi hgB) ?_)⟩
    rintro e0 a' W' hp0
    cases e0 with
    | ret => exact hp0.elim
    | exit id => exact hp0.elim
    | goto t => exact hp0.elim
    | panic ch => exact hp0.elim
    | outgrown => exact hp0.elim
    | normal => ?_
    obtain ⟨rfl, hbody⟩ := hp0
    refine ⟨_, run_beginRound hl (by rw [hrec]), ?_⟩
    obtain ⟨W2, hW2⟩ : ∃ W2, W'.putObj (B + 1) (.loop { rec .ready none with state := .busy }) = W2 := ⟨_, rfl⟩
    have hk2 : Keeps (fun k => k = B ∨ k = B + 1) W' W2 := by rw [← hW2]; exact keeps_put W' B (B + 1) _ (.inr rfl)
    have hl2 : W2.heap[B + 1]? = some (.loop { rec .ready none with state := .busy }) := by rw [← hW2]; exact World.putObj_heap_same hlt
    have hd2 : W2.heap[B]? = some (.deferred (some [])) := by rw [← hW2]; exact (World.putObj_heap_other (by omega)).trans hd
    have hg2 : W2.heap[g]? = W'.heap[g]? := by rw [← hW2]; exact World.putObj_heap_other (by omega)
    rw [hW2]
    have back : ∀ (jump : Option Code) (W3 : World), KeptAt B g W2 W3 →
        ∃ W4, (Instr.endRound (B + 1) jump).run P W3 = .ok (.bool jump.isNone) W4 ∧ Keeps (fun k => k = B ∨ k = B + 1) W3 W4 ∧ W4.heap[B]? = some (.deferred (some [])) ∧
          W4.heap[B + 1]? = some (.loop (rec (if jump.isNone then .ready else .done) jump)) ∧ W4.heap[g]? = W'.heap[g]? := fun jump W3 h3 => by
      have hl3 := h3.2.1.trans hl2
      have hd3 := h3.1.trans hd2
      have h4 := run_endRound (P := P) jump hl3
      refine ⟨_, h4, keeps_put W3 B (B + 1) _ (.inr rfl), (World.putObj_heap_other (by omega)).trans hd3, ?_, (World.putObj_heap_other (by omega)).trans (h3.2.2.trans hg2)⟩
      rw [World.putObj_heap_same (Array.getElem?_eq_some_iff.1 hl3).1, hrec]
    refine wpIn_mono (hbody W2 (Array.getElem?_eq_some_iff.1 hl2).1 (hI g i _ W2 hk2 hi)) ?_
    rintro e a3 W3 hp
    cases e with
    | normal =>
      obtain ⟨h3, hi3⟩ := hp
      obtain ⟨W4, hr, hk4, hd4, hl4, hg4⟩ := back none W3 h3
      exact ⟨_, _, hr, hg4, .inl ⟨rfl, hI _ _ _ _ hk4 hi3, hgB, hd4, hl4⟩⟩
    | ret =>
      obtain ⟨h3, hi3⟩ := hp
      obtain ⟨W4, hr, hk4, hd4, hl4, hg4⟩ := back (some .ret) W3 h3
      exact ⟨_, _, hr, hg4, .inr ⟨rfl, .ret, hIx _ _ _ hk4 hi3, hd4, hl4⟩⟩
    | exit id =>
      obtain ⟨h3, hi3⟩ := hp
      obtain ⟨W4, hr, hk4, hd4, hl4, hg4⟩ := back (some (.exit id)) W3 h3
      exact ⟨_, _, hr, hg4, .inr ⟨rfl, .exit id, hIx _ _ _ hk4 hi3, hd4, hl4⟩⟩
    | goto t =>
      obtain ⟨h3, hi3⟩ := hp
      obtain ⟨W4, hr, hk4, hd4, hl4, hg4⟩ := back (some (.goto t)) W3 h3
      exact ⟨_, _, hr, hg4, .inr ⟨rfl, .goto t, hIx _ _ _ hk4 hi3, hd4, hl4⟩⟩
    | panic ch => exact hp.elim
    | outgrown => exact hp.elim
  · rintro e W2 ⟨⟨v, rfl⟩, (⟨g, hi, hgB, hd, hl⟩ | ⟨c, hi, hd, hl⟩)⟩
    · exact ⟨none, _, by have := run_endLoop (P := P) hl (by rw [hrec]; simp); rw [hrec] at this; exact this,
        hdone g _ (hI _ _ _ _ (keeps_put W2 B (B + 1) _ (.inr rfl)) hi) ((World.putObj_heap_other (by omega)).trans hd)⟩
    · exact ⟨some c, _, by have := run_endLoop (P := P) hl (by rw [hrec]; simp); rw [hrec] at this; exact this,
        hstop c _ (hIx _ _ _ (keeps_put W2 B (B + 1) _ (.inr rfl)) hi) ((World.putObj_heap_other (by omega)).trans hd)⟩

end Go.Proofs.YtipejahmjdamjaaGreatDoor.Ch
namespace Go.Proofs.YtipejahmjdamjaaGreatDoor.Ch
open Go.RowKit Go.Shelf
attribute [local go_sem] Oper.semAt_some
set_option linter.unusedVariables false
set_option maxRecDepth 6000

theorem all_any (s : Option Addr) (w : World) :
    Calls Tryz.prog 97 #[.pointer s] w fun r w' => r = .returned (.func (.func 145) #[] #[.pointer (some ⟨w.heap.size, 0, none⟩)]) ∧ w' = w.alloc (.cells #[.pointer s] 127) := by
  go_enter Tryz.func97, Tryz.ntmps97
  go_wp2
  go_ret
  exact ⟨rfl, rfl⟩

def encA (p : Int) : Array Value := #[.int .i64 p, .agg #[]]

theorem owns_at {w : World} {e : TypeId} {v : Value} {n g : Nat} {ks : List Int} (h : w.ownsRow 0 e 1 v n (flat ks)) (hg : v.ownBlock = some g) :
    ∃ cap, v = .slice (some ⟨g, 0, none⟩) n cap ∧ g < w.heap.size ∧ n ≤ cap ∧ (cap : Int) ≤ 9223372036854775807 ∧ ∀ j p, ks[j]? = some p → w.cell? ⟨g, j, none⟩ = some (.int .i64 p) := by
  have hc := h.cells hg
  rcases h.2 with ⟨rfl, _⟩ | ⟨g', cap, cur, rfl, _, hgg, h5, h6, _⟩
  · simp [Value.ownBlock] at hg
  · simp [Value.ownBlock] at hg
    subst hg
    refine ⟨cap, rfl, (Array.getElem?_eq_some_iff.1 hgg).1, h5, by unfold maxLen at h6; omega, fun j p hj => ?_⟩
    have a1 := hc _ _ (flat_get ks j p hj)
    rw [addr_add, Nat.zero_add] at a1
    exact a1

theorem part_item {w : World} {b : Nat} {l : List Value} (h : Blk w b l 174) : (partAt ⟨b, 0, none⟩ 1 8).run Tryz.prog w = .ok ⟨b, 1, some 8⟩ w := by
  have h1 : w.heap[b]? = some (.cells l.toArray 174 (0, 0)) := h
  have e0 : byteOfCell Tryz.prog Tryz.prog.depth 174 0 = some 0 := by kernel_rfl
  have e2 : Tryz.prog.cellsOf 174 = 1 := by kernel_rfl
  have e3 : Tryz.prog.bytesOf 174 = 16 := by kernel_rfl
  have es : w.shape? b = some (174, l.length) := by simp [World.shape?, h1]
  have ev : (viewAt b).run Tryz.prog w = .ok none w := by simp [viewAt, es]
  have es : (Sem.shape b Sem.pure).run Tryz.prog w = .ok (some (174, l.length)) w := by simp [Sem.run, es]
  simp [partAt, byteOf, noView, ev, es, shape, e0, e2, e3]

set_option maxHeartbeats 4000000 in
theorem all_lists (n B1 s room : Nat) (ks : List Int) :
    Lists Fence.wide n Tryz.prog 145 #[.pointer (some ⟨B1, 0, none⟩)] encA (fun W => W.cell? ⟨B1, 0, none⟩ = some (ptr s) ∧ ∃ F, Sf W s room ks F) ks := by
  intro l J Jx W hgood hstart hkeep hyield
  obtain ⟨p1, F, hS⟩ := hgood
  have hLl : ks.length ≤ 4096 := by have := hS.fits; have := hS.bounds; omega
  obtain ⟨L, hL⟩ : ∃ L, L = ks.length := ⟨_, rfl⟩
  have HC : Hid (Calls _ _ _ _ _) := items_any s room ks F W hS
  have HK : Hid (∀ g i W W', Keeps (fun _ => False) W W' → J g i W → J g i W') := hkeep
  have H0 : Hid (∀ g W', Keeps (fun _ => False) W W' → W.heap.size ≤ g → g < W'.heap.size → J g 0 W') := hstart
  have HY : Hid (∀ g i x W, ks[i]? = some x → J g i W → YieldAt Fence.wide (n - 1) Tryz.prog l (encA x) W fun e W' => W'.heap[g]? = W.heap[g]? ∧ ((e = .returned (.bool true) ∧ J g (i + 1) W') ∨ (e = .returned (.bool false) ∧ Jx W'))) := hyield
  have HT : Hid (True ∧ L = ks.length) := ⟨trivial, hL⟩
  have hL2 : (L : Int) ≤ 4096 := by omega
  clear hstart hkeep hyield hS hL hLl
  refine callsIn_of_wp Tryz.func145 rfl trivial ?_ rfl
  refine wpIn_wide.2 ?_
  simp only [Tryz.ntmps145, List.size_toArray, List.length_cons, List.length_nil, Nat.reduceAdd, Nat.reduceSub, Array.replicate_succ, Array.replicate_zero, List.push_toArray, List.append_toArray, List.nil_append, List.cons_append]
  go_wp2_with fail
  refine HC.out.mono ?_
  rintro r W0 ⟨v, g, rfl, hO, hg, hge, hK0⟩
  obtain ⟨cap, rfl, hglt, hcap1, hcap2, hcells⟩ := owns_at hO hg
  have HJ0 : Hid (J g 0 W0) := H0.out g W0 hK0 hge hglt
  have HCl : Hid (∀ j p, ks[j]? = some p → W0.cell? ⟨g, j, none⟩ = some (.int .i64 p)) := hcells
  rw [← HT.out.2] at hcap1 ⊢
  have hcap3 : (L : Int) ≤ cap := by omega
  clear hO hg hge hK0 hcells H0 HC p1 hcap1
  go_wp2
  refine (wpIn_wide (n := n)).1 ?_
  gi_loopw [8] (fun i wr => ∃ j : Nat, j ≤ L ∧ i = .int .i64 j ∧ J g j wr ∧ wr.heap[g]? = W0.heap[g]?) (fun i _ => L - (intOf i).toNat)
  case atStart => exact ⟨0, by omega, rfl, HJ0.out, rfl⟩
  case round =>
    obtain ⟨j, hj, rfl, hJ, hgk⟩ := hrel
    by_cases hlt : j < L
    · obtain ⟨pk, hp⟩ : ∃ p, ks[j]? = some p := ⟨_, List.getElem?_eq_getElem (by have := HT.out.2; omega)⟩
      have k1 := HCl.out j pk hp
      rw [← World.cell?_of_block (w := W0) (w' := wr) hgk] at k1
      have hKa : Keeps (fun _ => False) wr (wr.alloc (.cells #[.int .i64 pk] 174)) := (Keeps.refl _ wr).alloc _
      have hgw : g < wr.heap.size := by
        have h5 : W0.heap[g]? ≠ none := by simp [hglt]
        rw [← hgk] at h5
        simpa using h5
      obtain ⟨fn, tmps, assign, body, hy, hR⟩ := HY.out g j pk _ hp (HK.out g j _ _ hKa hJ)
      unfold encA at hy

      have hpa := part_item (Blk.new wr #[.int .i64 pk] 174)
      have HA : Hid ((wr.alloc (.cells #[.int .i64 pk] 174)).heap[g]? = W0.heap[g]?) := (hKa.block g hgw fun h => h).trans hgk
      have HR : Hid (RoundIn _ _ _ _ _ _ _ _ _ _) := hR
      clear hJ hgk hp hKa hgw hR
      gi_wp2_with fail
      refine ⟨fun h => by simp [Fence.wide] at h, ?_⟩
      refine HR.out.mono ?_
      rintro e W3 ⟨hg3, (⟨rfl, hJ3⟩ | ⟨rfl, hJx3⟩)⟩
      · have HJ3 : Hid (J g (j + 1) W3 ∧ W3.heap[g]? = W0.heap[g]?) := ⟨hJ3, hg3.trans HA.out⟩
        clear hJ3 hg3 hy HR k1 HA
        gi_wp2
        go_roundw
        case rel => exact ⟨j + 1, by omega, by go_num, HJ3.out.1, HJ3.out.2⟩
        case measure => simp [intOf]; omega
      · have HJ3 : Hid (Jx W3) := hJx3
        clear hJx3 hg3 hy HR k1 HA
        gi_wp2
        refine bodyPost_ret (results_none rfl _ _ _) rfl ?_
        exact ⟨⟨_, rfl⟩, .inr HJ3.out⟩
    · obtain rfl : j = L := by omega
      have HJ : Hid (J g j wr) := hJ
      clear hJ hgk
      gi_wp2
      go_end0
      exact ⟨⟨_, rfl⟩, .inl ⟨g, by rw [← HT.out.2]; exact HJ.out⟩⟩

end Go.Proofs.YtipejahmjdamjaaGreatDoor.Ch
