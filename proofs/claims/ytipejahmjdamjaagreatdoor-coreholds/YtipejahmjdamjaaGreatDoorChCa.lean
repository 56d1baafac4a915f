import Derived.Test.YtipejahmjdamjaaGreatDoorChApp
import Derived.LaidEqlPtr
import Derived.Test.YtipejahmjdamjaaGreatDoorChRing
import Derived.RangeFuncIn
import Derived.RangeFuncRecord
import Derived.RangeFuncSeq
import Derived.RangeFuncNested
import Derived.RangeFuncBound
import Derived.RangeFuncCalls
import Derived.RangeFuncLeaves
import Derived.Shelf.RegionOpen
import Derived.OwnWalkIn
import Derived.TacticsInMore
import Derived.LoopNIn
import Derived.LoopIn
import Derived.Deep.RegionHeld3
namespace Go.Proofs.YtipejahmjdamjaaGreatDoor.Ch
open Go.RowKit Go.Shelf
set_option linter.unusedVariables false

def flat (ks : List Int) : List Value := ks.map (Value.int .i64)
theorem flat_append (a b : List Int) : flat (a ++ b) = flat a ++ flat b := by simp [flat]
theorem flat_get (ks : List Int) (i : Nat) (k : Int) (h : ks[i]? = some k) : (flat ks)[i]? = some (.int .i64 k) := by simp [flat, h]
theorem flat_length (ks : List Int) : (flat ks).length = ks.length := by simp [flat]

def slen : Value → Nat | .slice _ n _ => n | _ => 0
theorem slen_owns {w : World} {e : TypeId} {size n : Nat} {v : Value} {vs : List Value} (h : w.ownsRow 0 e size v n vs) : slen v = n := by
  rcases h.2 with ⟨rfl, rfl⟩ | ⟨g, cap, cur, rfl, _⟩ <;> rfl

theorem Tryz.infoI : (Tryz.prog.info? 174).map (fun i => (i.zero, i.size, i.bytes)) = some (some (.agg #[.int .i64 0]), 1, 16) := by kernel_rfl

theorem append_item {w : World} (k : Int) (v : Value) (n : Nat) (vs : List Value) (hown : w.ownsRow 0 174 1 v n vs) (hn : n ≤ 1048576) :
    ∃ v' W', (∀ ty, (Builtin.append_ #[212, 212] ty #[v, .slice (some ⟨w.heap.size, 0, none⟩) 1 1]).run Tryz.prog (w.alloc (.cells #[.int .i64 k] 174)) = .ok v' W') ∧ W'.ownsRow 0 174 1 v' (n + 1) (vs ++ [.int .i64 k]) ∧ Grew w v W' v' := by
  obtain ⟨i0, hi, hz0, hz1, hz2⟩ := info_parts Tryz.infoI
  obtain ⟨v', W', h1, h2, h3, h4⟩ := append_new 212 174 i0 (.agg #[.int .i64 0]) 1 16 Tryz.underlying212 hi hz0 hz1 hz2 rfl (by omega) v n vs hown #[.int .i64 k] rfl (by
    intro x hx
    simp at hx
    subst hx
    rfl) (by unfold maxLen; omega) (by omega)
  exact ⟨v', W', h1, h2, h3, h4⟩

theorem run_neq_ptr_same {P : Program} (w : World) {tp te : TypeId} {j : TypeInfo} (a : Addr) (hp : P.underlying tp = some (.pointer te)) (hte : P.info? te = some j) :
    (binOp .neq tp (.pointer (some a)) (.pointer (some a))).run P w = .ok (.bool false) w := by
  have h : ∀ d : Nat, (Op.equalIn (d + 1) tp (.pointer (some a)) (.pointer (some a))).run P w = .ok true w := fun d => by
    simp [Op.equalIn, run_underlying hp, sizeOf, typeInfo, hte, run_sameAddr_same]
  simp only [binOp]
  simp [Op.equal, Op.maxDepth, h 9999]

theorem run_neq_ptr_other {P : Program} (w : World) {tp te : TypeId} {j : TypeInfo} {a b : Addr} {ca cb : Array Value} {ta tb : TypeId} (hp : P.underlying tp = some (.pointer te)) (hte : P.info? te = some j) (hsz : j.size ≠ 0)
    (hne : a ≠ b) (ha : w.heap[a.block]? = some (.cells ca ta (0, 0))) (hb : w.heap[b.block]? = some (.cells cb tb (0, 0))) :
    (binOp .neq tp (.pointer (some a)) (.pointer (some b))).run P w = .ok (.bool true) w := by
  have h : ∀ d : Nat, (Op.equalIn (d + 1) tp (.pointer (some a)) (.pointer (some b))).run P w = .ok false w := fun d => by
    simp [Op.equalIn, run_underlying hp, sizeOf, typeInfo, hte, hsz, run_sameAddr_other w hne ha hb]
  simp only [binOp]
  simp [Op.equal, Op.maxDepth, h 9999]

theorem Tryz.infoP : (Tryz.prog.info? 176).map (fun i => (i.size)) = some 3 := by kernel_rfl
theorem Tryz.undPP : Tryz.prog.underlying 172 = some (.pointer 176) := by kernel_rfl
theorem neq_other {w : World} {x e : N} {xs : List N} {nw od : Nat → Nat} (h : Rg w 176 e xs nw od) (hx : x ∈ xs) (hne : x.blk ≠ e.blk) : (binOp .neq 172 (ptr x.blk) (ptr e.blk)).run Tryz.prog w = .ok (.bool true) w := by
  have hi := Tryz.infoP
  cases hq : Tryz.prog.info? 176 with
  | none => rw [hq] at hi; simp at hi
  | some j =>
    rw [hq] at hi
    simp at hi
    exact run_neq_ptr_other w Tryz.undPP hq (by omega) (fun he => hne (congrArg Addr.block he)) (h.nodes x (by simp [hx])) (h.nodes e (by simp))
theorem neq_same (w : World) (b : Nat) : (binOp .neq 172 (ptr b) (ptr b)).run Tryz.prog w = .ok (.bool false) w := by
  have hi := Tryz.infoP
  cases hq : Tryz.prog.info? 176 with
  | none => rw [hq] at hi; simp at hi
  | some j => exact run_neq_ptr_same w _ Tryz.undPP hq

set_option maxHeartbeats 1000000 in
theorem items_any (s room : Nat) (ks : List Int) (F : Nat → Prop) (w : World) (h : Sf w s room ks F) :
    Calls Tryz.prog 146 #[ptr s] w fun r w' => ∃ v g, r = .returned v ∧ w'.ownsRow 0 174 1 v ks.length (flat ks) ∧ v.ownBlock = some g ∧ w.heap.size ≤ g ∧ Keeps (fun _ => False) w w' := by
  obtain ⟨m, e, xs, nw, od, h1, rfl, h3, h4⟩ := h
  obtain ⟨L, hL⟩ : ∃ L, L = xs.length := ⟨_, rfl⟩
  have hL1 : L ≤ 4096 := by have := h1.fits; have := h1.hi; omega
  obtain ⟨W1, hW1⟩ : ∃ W1, W1 = w.alloc (.cells (madeCells (Value.agg #[.int .i64 0]).cells (L * 1)) 174) := ⟨_, rfl⟩
  have HM : Hid ((Instr.makeSlice 212 (.int .i64 0) (.int .i64 L)).run Tryz.prog w = .ok (.slice (some ⟨w.heap.size, 0, none⟩) 0 L) W1) := by
    obtain ⟨i0, hi, hz0, hz1, hz2⟩ := info_parts Tryz.infoI
    have h := run_make (P := Tryz.prog) w 212 174 i0 _ Tryz.underlying212 hi hz0 .i64 .i64 0 L (by omega) (by omega) (by rw [hz2]; omega) (by omega)
    rw [hz1] at h
    simp only [Int.toNat_zero, Int.toNat_natCast] at h
    rw [hW1]; exact h
  have hown0 : W1.ownsRow 0 174 1 (.slice (some ⟨w.heap.size, 0, none⟩) 0 L) 0 [] := by
    rw [hW1]
    exact World.ownsRow_made w _ L (Nat.zero_le _) (by unfold maxLen; omega) (by simp [madeCells])
  have hK1 : Keeps (fun _ => False) w W1 := by rw [hW1]; exact (Keeps.refl _ w).alloc _
  have HL : Hid (∀ ty, (Builtin.len_ #[177] ty #[.map (some m)]).run Tryz.prog w = .ok (.int .i64 L) w) := fun ty => by
    have := h1.map.len (ty := ty) Tryz.underlying177
    rw [show (mapOf xs).length = L by rw [hL]; simp [mapOf]] at this
    exact this
  have hS1 := h1.kept hK1 fun _ _ h => h
  have c1 := h1.cells.2.1
  have c2 := hS1.cells.2.2
  have c3 := hS1.first
  obtain ⟨p0, hp0⟩ : ∃ p0, p0 = atN e xs 0 := ⟨_, rfl⟩
  rw [← hp0] at c3
  have HS : Hid (Sh Tryz.prog T w s m e room xs nw od ∧ Keeps (fun _ => False) w W1 ∧ W1.ownsRow 0 174 1 (.slice (some ⟨w.heap.size, 0, none⟩) 0 L) 0 [] ∧ p0 = atN e xs 0 ∧ L = xs.length ∧ L ≤ 4096) := ⟨h1, hK1, hown0, hp0, hL, hL1⟩
  clear h1 hS1 hK1 hown0 hp0 h3 h4 hW1 hL hL1
  go_enter Tryz.func146, Tryz.ntmps146
  go_wp2_with (first
    | (at_len; refine wpList_len_run rfl (.tmp 10) 177 rfl (.map (some m)) (.int .i64 L) rfl HL.out ?_)
    | (at_make; refine wpList_make_run rfl _ _ 212 rfl (.int .i64 0) (.int .i64 L) (.slice (some ⟨w.heap.size, 0, none⟩) 0 L) W1 rfl rfl HM.out ?_; refine Hid.out ?_))
  unfold Hid
  clear HL HM c1
  go_wp2
  clear c2 c3
  go_loopw [3, 4] (fun o p wr => ∃ j : Nat, j ≤ L ∧ p = ptr (atN e xs j) ∧ wr.ownsRow 0 174 1 o j (flat ((xs.map N.key).take j)) ∧ Grew W1 (.slice (some ⟨w.heap.size, 0, none⟩) 0 L) wr o) (fun o _ _ => L - slen o)
  case atStart => exact ⟨0, by omega, by rw [HS.out.2.2.2.1], by simpa [flat] using HS.out.2.2.1, Grew.refl _ _⟩
  case round =>
    obtain ⟨j, hj, rfl, hB, hG⟩ := hrel
    obtain ⟨h1, hK1, hown0, hp0, hL, hL1⟩ := HS.out
    have hKr : Keeps (fun _ => False) w wr := hK1.trans hG.keeps fun b hb he => by simp [Value.ownBlock] at he; omega
    have hSr := h1.kept hKr fun _ _ h => h
    have c2 := hSr.cells.2.2
    by_cases hlt : j < L
    · obtain ⟨x, hx⟩ : ∃ x, xs[j]? = some x := ⟨_, List.getElem?_eq_getElem (by omega)⟩
      obtain ⟨a1, a2, a3, a5⟩ := hSr.next j x hx
      obtain ⟨v', W', happ, hown', hfr'⟩ := append_item x.key u3 j _ hB (by omega)
      have hKw : Keeps (fun _ => False) w W' := hKr.trans hfr'.keeps fun b hb he => by
        rcases hG.fresh with f | ⟨c, f, hc⟩
        · rw [f] at he; simp [Value.ownBlock] at he; omega
        · rw [f] at he; cases he; have := hK1.size; omega
      have hSw := h1.kept hKw fun _ _ h => h
      obtain ⟨_, b2, _, _⟩ := hSw.next j x hx
      have hs2 := slen_owns hown'
      have hs1 := slen_owns hB
      have HAP : Hid (∀ ty, _) := happ
      have HR : Hid (W'.ownsRow 0 174 1 v' (j + 1) (flat ((xs.map N.key).take (j + 1)))) := by
        have e1 : (xs.map N.key).take (j + 1) = (xs.map N.key).take j ++ [x.key] := by
          rw [List.take_add_one]; simp [hx]
        rw [e1, flat_append, show flat [x.key] = [.int .i64 x.key] by simp [flat]]
        exact hown'
      have HG : Hid (Grew W1 (.slice (some ⟨w.heap.size, 0, none⟩) 0 L) W' v') := hG.trans hfr'
      have hq := neq_other hSr.ring (List.mem_of_getElem? hx) a5
      have HL2 : Hid (slen v' = j + 1 ∧ slen u3 = j ∧ j < L) := ⟨hs2, hs1, hlt⟩
      rw [a1]
      obtain ⟨b, hb⟩ : ∃ b, b = x.blk := ⟨_, rfl⟩
      obtain ⟨k, hk⟩ : ∃ k, k = x.key := ⟨_, rfl⟩
      obtain ⟨eb, heb⟩ : ∃ eb, eb = e.blk := ⟨_, rfl⟩
      obtain ⟨nb, hnb⟩ : ∃ nb, nb = atN e xs (j + 1) := ⟨_, rfl⟩
      rw [← hb] at a2 a3 a5 b2 hq ⊢
      rw [← heb] at c2 a5 hq
      rw [← hk] at a3
      rw [← hk] at HAP
      rw [← hnb] at b2
      have HN : Hid (nb = atN e xs (j + 1)) := hnb
      clear happ hown' hfr' hB hG h1 hK1 hown0 hp0 hL hL1 hKr hSr hKw hSw hs1 hs2 hx a1 a2 hb hk heb hnb hlt
      go_wp2_with (at_builtin; go_must (refine wpList_append_run rfl (.tmp 30) (.tmp 35) 212 212 rfl u3 (.slice (some ⟨wr.heap.size, 0, none⟩) 1 1) v' W' rfl rfl HAP.out ?_; refine Hid.out ?_))
      unfold Hid
      clear c2 a3 hq
      go_wp2
      go_roundw
      case rel => exact ⟨j + 1, by have := HL2.out.2.2; omega, by rw [HN.out], HR.out, HG.out⟩
      case measure => have := HL2.out; omega
    · obtain rfl : j = L := by omega
      rw [show atN e xs j = e.blk by rw [hL]; exact atN_end e xs]
      have HB : Hid (wr.ownsRow 0 174 1 u3 (xs.map N.key).length (flat (xs.map N.key))) := by
        have e1 : (xs.map N.key).take j = xs.map N.key := List.take_of_length_le (by simp; omega)
        rw [e1] at hB
        rw [List.length_map, ← hL]
        exact hB
      have HG : Hid ((∃ g, u3.ownBlock = some g ∧ w.heap.size ≤ g) ∧ Keeps (fun _ => False) w wr) := by
        refine ⟨?_, hKr⟩
        rcases hG.fresh with f | ⟨c, f, hc⟩
        · exact ⟨w.heap.size, f, Nat.le_refl _⟩
        · exact ⟨c, f, by have := hK1.size; omega⟩
      obtain ⟨eb, heb⟩ : ∃ eb, eb = e.blk := ⟨_, rfl⟩
      rw [← heb] at c2 ⊢
      have hq := neq_same wr eb
      clear hB hG h1 hK1 hown0 hp0 hL hL1 hKr hSr heb
      go_wp2
      go_ret
      obtain ⟨⟨g, hg1, hg2⟩, hK⟩ := HG.out
      exact ⟨u3, g, rfl, HB.out, hg1, hg2, hK⟩

end Go.Proofs.YtipejahmjdamjaaGreatDoor.Ch
namespace Go.Proofs.YtipejahmjdamjaaGreatDoor.Ch
open Go.RowKit

/-- An iterator that tells a list, which it holds in a block g of its own from the beginning on: whoever ranges over it keeps that block. -/
def Lists {α : Type} (F : Fence) (n : Nat) (P : Program) (gf : Nat) (lb : Array Value) (encs : α → Array Value) (Good : World → Prop) (xs : List α) : Prop :=
  ∀ (l : Nat) (J : Nat → Nat → World → Prop) (Jx : World → Prop) (W : World), Good W → (∀ g W', Keeps (fun _ => False) W W' → W.heap.size ≤ g → g < W'.heap.size → J g 0 W') → (∀ g i W W', Keeps (fun _ => False) W W' → J g i W → J g i W') →
    (∀ g i x W, xs[i]? = some x → J g i W → YieldAt F (n - 1) P l (encs x) W fun e W' => W'.heap[g]? = W.heap[g]? ∧ ((e = .returned (.bool true) ∧ J g (i + 1) W') ∨ (e = .returned (.bool false) ∧ Jx W'))) →
    CallsIn F n P gf (#[.func (.yield l) #[] #[]] ++ lb) W fun e W' => (∃ v, e = .returned v) ∧ ((∃ g, J g xs.length W') ∨ Jx W')

/-- How a round may be left: the two blocks of the loop and the iterator's own are as they were. -/
def KeptAt (B g : Nat) (W W' : World) : Prop := W'.heap[B]? = W.heap[B]? ∧ W'.heap[B + 1]? = W.heap[B + 1]? ∧ W'.heap[g]? = W.heap[g]?
def ListPost (B g : Nat) (W : World) (I : World → Prop) (Ix : Code → World → Prop) : Exit → Act → World → Prop
  | .normal, _, W' => KeptAt B g W W' ∧ I W'
  | .ret, _, W' => KeptAt B g W W' ∧ Ix .ret W'
  | .exit id, _, W' => KeptAt B g W W' ∧ Ix (.exit id) W'
  | .goto t, _, W' => KeptAt B g W W' ∧ Ix (.goto t) W'
  | .panic _, _, _ => False
  | .outgrown, _, _ => False

theorem keeps_put (W : World) (B l : Nat) (o : Obj) (hl : l = B ∨ l = B + 1) : Keeps (fun k => k = B ∨ k = B + 1) W (W.putObj l o) :=
  ⟨rfl, rfl, rfl, by simp, fun k _ hn => World.putObj_heap_other fun e => hn (e ▸ hl)⟩

/-- A range over such an iterator. -/
theorem range_list {F : Fence} {n : Nat} {P : Program} {α : Type} {g : Operand} {ps : Array Tmp} {assign body : Code} {Q : Exit → Act → World → Prop} {a : Act} {w : World}
    (hro : F.round = none) (h1 : 1 ≤ n) {gf : Nat} {lb : Array Value} (hg : a.eval g = .func (.func gf) #[] lb) (hFg : F.fn gf) (eg : ∀ args w, (callFunc gf args).run P w = .ok (.enter gf args) w)
    {encs : α → Array Value} {Good : World → Prop} {xs : List α}
    (hseq : Lists F (n - 1) P gf lb encs Good xs) (hgood : ∀ W, Keeps (fun _ => False) w W → Good W) (hps : ∀ x, (encs x).size = ps.size)
    (I : Nat → Nat → World → Prop) (Ix : Code → World → Prop)
    (hI : ∀ g i W W', Keeps (fun k => k = w.heap.size ∨ k = w.heap.size + 1) W W' → I g i W → I g i W')
    (hIx : ∀ c W W', Keeps (fun k => k = w.heap.size ∨ k = w.heap.size + 1) W W' → Ix c W → Ix c W')
    (h0 : ∀ g W, Keeps (fun _ => False) w W → w.heap.size + 2 ≤ g → g < W.heap.size → I g 0 W)
    (hround : ∀ (l g i : Nat) (x : α) (W : World), xs[i]? = some x → I g i W → w.heap.size + 2 ≤ g →
      assign.wpIn (F.inRound l) (n - 1 - 1) P (Exit.then (fun a' W' => W' = W ∧ ∀ W2, w.heap.size + 1 < W2.heap.size → I g i W2 → body.wpIn (F.inRound l) (n - 1 - 1) P (ListPost w.heap.size g W2 (I g (i + 1)) Ix) a' W2) (fun _ _ _ => False))
        { tmps := (ps.zip (encs x)).foldl (fun t (p, v) => t.setIfInBounds p v) a.tmps, defers := [] } W)
    (hdone : ∀ (g : Nat) (W : World), I g xs.length W → W.heap[w.heap.size]? = some (.deferred (some [])) → Q .normal { a with defers := { target := .collected w.heap.size, args := #[] } :: a.defers } W)
    (hstop : ∀ (c : Code) (W : World), Ix c W → W.heap[w.heap.size]? = some (.deferred (some [])) → c.wpIn F n P Q { a with defers := { target := .collected w.heap.size, args := #[] } :: a.defers } W) :
    (Code.rangeFunc g ps assign body).wpIn F n P Q a w := by
  refine wpIn_rangeFunc fun fn hfn => ?_
  rw [hro]
  obtain ⟨B, hB⟩ : ∃ B, B = w.heap.size := ⟨_, rfl⟩
  rw [← hB] at hI hIx hround hdone hstop h0
  obtain ⟨rec, hrec⟩ : ∃ rec : LoopState → Option Code → Loop, rec = fun st pe => { state := st, pending := pe, fn, tmps := a.tmps, params := ps, assign, body, defers := B } := ⟨_, rfl⟩
  obtain ⟨W1, hW1⟩ : ∃ W1, (w.alloc (.deferred (some []))).alloc (.loop (rec .ready none)) = W1 := ⟨_, rfl⟩
  have hK0 : Keeps (fun _ => False) w W1 := by rw [← hW1]; exact ((Keeps.refl _ w).alloc _).alloc _
  have hS1 : W1.heap.size = B + 2 := by rw [← hW1, hB]; simp
  have hL1 : W1.heap[B + 1]? = some (.loop (rec .ready none)) := by
    have := World.alloc_heap_new (w.alloc (.deferred (some []))) (.loop (rec .ready none))
    rw [World.size_alloc, ← hB, hW1] at this
    exact this
  have hD1 : W1.heap[B]? = some (.deferred (some [])) := by
    rw [← hW1, hB]; exact (Below.heap_alloc _ _ _ (by simp)).trans (World.alloc_heap_new w _)
  refine ⟨B + 1, [{ target := .collected B, args := #[] }], W1, { target := .fn (.func gf) lb, args := #[.func (.yield (B + 1)) #[] #[]] }, W1, gf,
    #[.func (.yield (B + 1)) #[] #[]] ++ lb, W1, ?_, ?_, ?_, ?_, fun _ => h1, ?_⟩
  · rw [← hW1, hrec, hB]; exact run_enterLoop_outer _ _ _ _ _
  · simp only [resolve, hg]
    simp [go_sem]
  · intro f' hf'; simp [Target.leads] at hf'; subst hf'; exact hFg
  · simp [invoke, go_sem, eg]
  refine (hseq (B + 1) (fun g i W => I g i W ∧ B + 2 ≤ g ∧ W.heap[B]? = some (.deferred (some [])) ∧ W.heap[B + 1]? = some (.loop (rec .ready none)))
    (fun W => ∃ c, Ix c W ∧ W.heap[B]? = some (.deferred (some [])) ∧ W.heap[B + 1]? = some (.loop (rec .done (some c)))) W1 (hgood W1 hK0)
    (fun g W hK hg1 hg2 => ⟨h0 g W (hK0.trans hK (fun _ _ h => h)) (by omega) hg2, by omega, (hK.block B (by omega) (fun h => h)).trans hD1, (hK.block (B + 1) (by omega) (fun h => h)).trans hL1⟩)
    (fun g i W W' hK h => ⟨hI g i W _ (hK.mono fun _ _ h => h.elim) h.1, h.2.1, (hK.block B (Array.getElem?_eq_some_iff.1 h.2.2.1).1 (fun h => h)).trans h.2.2.1, (hK.block (B + 1) (Array.getElem?_eq_some_iff.1 h.2.2.2).1 (fun h => h)).trans h.2.2.2⟩) ?_).mono ?_
  · rintro g i x W hx ⟨hi, hgB, hd, hl⟩
    have hlt : B + 1 < W.heap.size := (Array.getElem?_eq_some_iff.1 hl).1
    have hy := run_yield (P := P) (args := encs x) hl (by rw [hrec]; exact hps x)
    rw [hrec] at hy
    refine ⟨fn, _, assign, body, hy, roundIn_of_wpIn hfn (wpIn_mono (hround _ g i x W hx hi hgB) ?_)⟩
    rintro e0 a' W' hp0
    cases e0 with
    | ret => exact hp0.elim
    | exit id => exact hp0.elim
    | goto t => exact hp0.elim
    | panic ch => exact hp0.elim
    | outgrown => exact hp0.elim
    | normal => ?_
    obtain ⟨rfl, hbody⟩ := hp0
    refine ⟨_, run_beginRound hl (by rw [hrec]), ?_⟩
    obtain ⟨W2, hW2⟩ : ∃ W2, W'.putObj (B + 1) (.loop { rec .ready none with state := .busy }) = W2 := ⟨_, rfl⟩
    have hk2 : Keeps (fun k => k = B ∨ k = B + 1) W' W2 := by rw [← hW2]; exact keeps_put W' B (B + 1) _ (.inr rfl)
    have hl2 : W2.heap[B + 1]? = some (.loop { rec .ready none with state := .busy }) := by rw [← hW2]; exact World.putObj_heap_same hlt
    have hd2 : W2.heap[B]? = some (.deferred (some [])) := by rw [← hW2]; exact (World.putObj_heap_other (by omega)).trans hd
    have hg2 : W2.heap[g]? = W'.heap[g]? := by rw [← hW2]; exact World.putObj_heap_other (by omega)
    rw [hW2]
    have back : ∀ (jump : Option Code) (W3 : World), KeptAt B g W2 W3 →
        ∃ W4, (Instr.endRound (B + 1) jump).run P W3 = .ok (.bool jump.isNone) W4 ∧ Keeps (fun k => k = B ∨ k = B + 1) W3 W4 ∧ W4.heap[B]? = some (.deferred (some [])) ∧
          W4.heap[B + 1]? = some (.loop (rec (if jump.isNone then .ready else .done) jump)) ∧ W4.heap[g]? = W'.heap[g]? := fun jump W3 h3 => by
      have hl3 := h3.2.1.trans hl2
      have hd3 := h3.1.trans hd2
      have h4 := run_endRound (P := P) jump hl3
      refine ⟨_, h4, keeps_put W3 B (B + 1) _ (.inr rfl), (World.putObj_heap_other (by omega)).trans hd3, ?_, (World.putObj_heap_other (by omega)).trans (h3.2.2.trans hg2)⟩
      rw [World.putObj_heap_same (Array.getElem?_eq_some_iff.1 hl3).1, hrec]
    refine wpIn_mono (hbody W2 (Array.getElem?_eq_some_iff.1 hl2).1 (hI g i _ W2 hk2 hi)) ?_
    rintro e a3 W3 hp
    cases e with
    | normal =>
      obtain ⟨h3, hi3⟩ := hp
      obtain ⟨W4, hr, hk4, hd4, hl4, hg4⟩ := back none W3 h3
      exact ⟨_, _, hr, hg4, .inl ⟨rfl, hI _ _ _ _ hk4 hi3, hgB, hd4, hl4⟩⟩
    | ret =>
      obtain ⟨h3, hi3⟩ := hp
      obtain ⟨W4, hr, hk4, hd4, hl4, hg4⟩ := back (some .ret) W3 h3
      exact ⟨_, _, hr, hg4, .inr ⟨rfl, .ret, hIx _ _ _ hk4 hi3, hd4, hl4⟩⟩
    | exit id =>
      obtain ⟨h3, hi3⟩ := hp
      obtain ⟨W4, hr, hk4, hd4, hl4, hg4⟩ := back (some (.exit id)) W3 h3
      exact ⟨_, _, hr, hg4, .inr ⟨rfl, .exit id, hIx _ _ _ hk4 hi3, hd4, hl4⟩⟩
    | goto t =>
      obtain ⟨h3, hi3⟩ := hp
      obtain ⟨W4, hr, hk4, hd4, hl4, hg4⟩ := back (some (.goto t)) W3 h3
      exact ⟨_, _, hr, hg4, .inr ⟨rfl, .goto t, hIx _ _ _ hk4 hi3, hd4, hl4⟩⟩
    | panic ch => exact hp.elim
    | outgrown => exact hp.elim
  · rintro e W2 ⟨⟨v, rfl⟩, (⟨g, hi, hgB, hd, hl⟩ | ⟨c, hi, hd, hl⟩)⟩
    · exact ⟨none, _, by have := run_endLoop (P := P) hl (by rw [hrec]; simp); rw [hrec] at this; exact this,
        hdone g _ (hI _ _ _ _ (keeps_put W2 B (B + 1) _ (.inr rfl)) hi) ((World.putObj_heap_other (by omega)).trans hd)⟩
    · exact ⟨some c, _, by have := run_endLoop (P := P) hl (by rw [hrec]; simp); rw [hrec] at this; exact this,
        hstop c _ (hIx _ _ _ (keeps_put W2 B (B + 1) _ (.inr rfl)) hi) ((World.putObj_heap_other (by omega)).trans hd)⟩

end Go.Proofs.YtipejahmjdamjaaGreatDoor.Ch
namespace Go.Proofs.YtipejahmjdamjaaGreatDoor.Ch
open Go.RowKit Go.Shelf
attribute [local go_sem] Oper.semAt_some
set_option linter.unusedVariables false
set_option maxRecDepth 6000

theorem all_any (s : Option Addr) (w : World) :
    Calls Tryz.prog 97 #[.pointer s] w fun r w' => r = .returned (.func (.func 145) #[] #[.pointer (some ⟨w.heap.size, 0, none⟩)]) ∧ w' = w.alloc (.cells #[.pointer s] 127) := by
  go_enter Tryz.func97, Tryz.ntmps97
  go_wp2
  go_ret
  exact ⟨rfl, rfl⟩

def encA (p : Int) : Array Value := #[.int .i64 p, .agg #[]]

theorem owns_at {w : World} {e : TypeId} {v : Value} {n g : Nat} {ks : List Int} (h : w.ownsRow 0 e 1 v n (flat ks)) (hg : v.ownBlock = some g) :
    ∃ cap, v = .slice (some ⟨g, 0, none⟩) n cap ∧ g < w.heap.size ∧ n ≤ cap ∧ (cap : Int) ≤ 9223372036854775807 ∧ ∀ j p, ks[j]? = some p → w.cell? ⟨g, j, none⟩ = some (.int .i64 p) := by
  have hc := h.cells hg
  rcases h.2 with ⟨rfl, _⟩ | ⟨g', cap, cur, rfl, _, hgg, h5, h6, _⟩
  · simp [Value.ownBlock] at hg
  · simp [Value.ownBlock] at hg
    subst hg
    refine ⟨cap, rfl, (Array.getElem?_eq_some_iff.1 hgg).1, h5, by unfold maxLen at h6; omega, fun j p hj => ?_⟩
    have a1 := hc _ _ (flat_get ks j p hj)
    rw [addr_add, Nat.zero_add] at a1
    exact a1

theorem part_item {w : World} {b : Nat} {l : List Value} (h : Blk w b l 174) : (partAt ⟨b, 0, none⟩ 1 8).run Tryz.prog w = .ok ⟨b, 1, some 8⟩ w := by
  have h1 : w.heap[b]? = some (.cells l.toArray 174 (0, 0)) := h
  have e0 : byteOfCell Tryz.prog Tryz.prog.depth 174 0 = some 0 := by kernel_rfl
  have e2 : Tryz.prog.cellsOf 174 = 1 := by kernel_rfl
  have e3 : Tryz.prog.bytesOf 174 = 16 := by kernel_rfl
  have es : w.shape? b = some (174, l.length) := by simp [World.shape?, h1]
  have ev : (viewAt b).run Tryz.prog w = .ok none w := by simp [viewAt, es]
  have es : (Sem.shape b Sem.pure).run Tryz.prog w = .ok (some (174, l.length)) w := by simp [Sem.run, es]
  simp [partAt, byteOf, noView, ev, es, shape, e0, e2, e3]

set_option maxHeartbeats 4000000 in
theorem all_lists (n B1 s room : Nat) (ks : List Int) :
    Lists Fence.wide n Tryz.prog 145 #[.pointer (some ⟨B1, 0, none⟩)] encA (fun W => W.cell? ⟨B1, 0, none⟩ = some (ptr s) ∧ ∃ F, Sf W s room ks F) ks := by
  intro l J Jx W hgood hstart hkeep hyield
  obtain ⟨p1, F, hS⟩ := hgood
  have hLl : ks.length ≤ 4096 := by have := hS.fits; have := hS.bounds; omega
  obtain ⟨L, hL⟩ : ∃ L, L = ks.length := ⟨_, rfl⟩
  have HC : Hid (Calls _ _ _ _ _) := items_any s room ks F W hS
  have HK : Hid (∀ g i W W', Keeps (fun _ => False) W W' → J g i W → J g i W') := hkeep
  have H0 : Hid (∀ g W', Keeps (fun _ => False) W W' → W.heap.size ≤ g → g < W'.heap.size → J g 0 W') := hstart
  have HY : Hid (∀ g i x W, ks[i]? = some x → J g i W → YieldAt Fence.wide (n - 1) Tryz.prog l (encA x) W fun e W' => W'.heap[g]? = W.heap[g]? ∧ ((e = .returned (.bool true) ∧ J g (i + 1) W') ∨ (e = .returned (.bool false) ∧ Jx W'))) := hyield
  have HT : Hid (True ∧ L = ks.length) := ⟨trivial, hL⟩
  have hL2 : (L : Int) ≤ 4096 := by omega
  clear hstart hkeep hyield hS hL hLl
  refine callsIn_of_wp Tryz.func145 rfl trivial ?_ rfl
  refine wpIn_wide.2 ?_
  simp only [Tryz.ntmps145, List.size_toArray, List.length_cons, List.length_nil, Nat.reduceAdd, Nat.reduceSub, Array.replicate_succ, Array.replicate_zero, List.push_toArray, List.append_toArray, List.nil_append, List.cons_append]
  go_wp2_with fail
  refine HC.out.mono ?_
  rintro r W0 ⟨v, g, rfl, hO, hg, hge, hK0⟩
  obtain ⟨cap, rfl, hglt, hcap1, hcap2, hcells⟩ := owns_at hO hg
  have HJ0 : Hid (J g 0 W0) := H0.out g W0 hK0 hge hglt
  have HCl : Hid (∀ j p, ks[j]? = some p → W0.cell? ⟨g, j, none⟩ = some (.int .i64 p)) := hcells
  rw [← HT.out.2] at hcap1 ⊢
  have hcap3 : (L : Int) ≤ cap := by omega
  clear hO hg hge hK0 hcells H0 HC p1 hcap1
  go_wp2
  refine (wpIn_wide (n := n)).1 ?_
  gi_loopw [8] (fun i wr => ∃ j : Nat, j ≤ L ∧ i = .int .i64 j ∧ J g j wr ∧ wr.heap[g]? = W0.heap[g]?) (fun i _ => L - (intOf i).toNat)
  case atStart => exact ⟨0, by omega, rfl, HJ0.out, rfl⟩
  case round =>
    obtain ⟨j, hj, rfl, hJ, hgk⟩ := hrel
    by_cases hlt : j < L
    · obtain ⟨pk, hp⟩ : ∃ p, ks[j]? = some p := ⟨_, List.getElem?_eq_getElem (by have := HT.out.2; omega)⟩
      have k1 := HCl.out j pk hp
      rw [← World.cell?_of_block (w := W0) (w' := wr) hgk] at k1
      have hKa : Keeps (fun _ => False) wr (wr.alloc (.cells #[.int .i64 pk] 174)) := (Keeps.refl _ wr).alloc _
      have hgw : g < wr.heap.size := by
        have h5 : W0.heap[g]? ≠ none := by simp [hglt]
        rw [← hgk] at h5
        simpa using h5
      obtain ⟨fn, tmps, assign, body, hy, hR⟩ := HY.out g j pk _ hp (HK.out g j _ _ hKa hJ)
      unfold encA at hy

      have hpa := part_item (Blk.new wr #[.int .i64 pk] 174)
      have HA : Hid ((wr.alloc (.cells #[.int .i64 pk] 174)).heap[g]? = W0.heap[g]?) := (hKa.block g hgw fun h => h).trans hgk
      have HR : Hid (RoundIn _ _ _ _ _ _ _ _ _ _) := hR
      clear hJ hgk hp hKa hgw hR
      gi_wp2_with fail
      refine ⟨fun h => by simp [Fence.wide] at h, ?_⟩
      refine HR.out.mono ?_
      rintro e W3 ⟨hg3, (⟨rfl, hJ3⟩ | ⟨rfl, hJx3⟩)⟩
      · have HJ3 : Hid (J g (j + 1) W3 ∧ W3.heap[g]? = W0.heap[g]?) := ⟨hJ3, hg3.trans HA.out⟩
        clear hJ3 hg3 hy HR k1 HA
        gi_wp2
        go_roundw
        case rel => exact ⟨j + 1, by omega, by go_num, HJ3.out.1, HJ3.out.2⟩
        case measure => simp [intOf]; omega
      · have HJ3 : Hid (Jx W3) := hJx3
        clear hJx3 hg3 hy HR k1 HA
        gi_wp2
        refine bodyPost_ret (results_none rfl _ _ _) rfl ?_
        exact ⟨⟨_, rfl⟩, .inr HJ3.out⟩
    · obtain rfl : j = L := by omega
      have HJ : Hid (J g j wr) := hJ
      clear hJ hgk
      gi_wp2
      go_end0
      exact ⟨⟨_, rfl⟩, .inl ⟨g, by rw [← HT.out.2]; exact HJ.out⟩⟩

end Go.Proofs.YtipejahmjdamjaaGreatDoor.Ch
namespace Go.Proofs.YtipejahmjdamjaaGreatDoor.Ch
open Go.RowKit Go.Shelf
set_option linter.unusedVariables false

/-! ### A region in a round by the laws of one that is in none -/
section
variable {P : Program} {ops : Array Oper} {Q : Exit → Act → World → Prop} {md : Region.Mode} {S : World → Prop}

theorem rowsIn_round {n l : Nat} {row : String} {args : Array Value} {w : World} {R : Value → World → Prop} (h : Rows P row args w R) : RowsIn (Fence.wide.inRound l) n P row args w R :=
  fun c cs _ => let ⟨v, w', r, s⟩ := h c cs; ⟨v, w', r, stepsIn_wide.2 s⟩

theorem wpOp_inRound {n l i : Nat} {a : Act} {w : World} {K K' : Act → World → Prop} (hnd : ∀ o, ops[i]? = some o → ∀ c, o.op ≠ .defer c) (hQ : ¬ LetsOut Q) (hK : ∀ a w, K a w → K' a w)
    (h : wpOp P ops Q i K a w) : wpOpIn (Fence.wide.inRound l) n P ops Q i K' a w := by
  unfold wpOp at h
  unfold wpOpIn
  cases ho : ops[i]? with
  | none => rw [ho] at h; exact hK _ _ h
  | some o =>
    rw [ho] at h
    simp only at h ⊢
    split
    · rename_i hw
      rw [if_pos hw] at h
      rcases h with h | h
      · refine ⟨fun f _ => trivial, ?_⟩
        rw [Oper.semAt_plain _ _ _ (hnd o ho)]
        unfold Oper.wp at h
        revert h
        generalize (execOp a.eval o).run P w = r
        intro h
        cases r with
        | ok x w' =>
          cases x with
          | value v => exact hK _ _ h
          | skip => exact hK _ _ h
          | defer d => exact hK _ _ h
          | enter f args =>
            refine ⟨fun h => by simp [Fence.inRound, Fence.wide] at h, ?_⟩
            refine (CallsIn.inRound l (callsIn_wide.2 h)).mono ?_
            intro e w2 he
            cases e with
            | returned v => exact hK _ _ he
            | panicked c => exact he
            | outgrown => exact he
          | row r args =>
            refine ⟨fun h => by simp [Fence.inRound, Fence.wide] at h, ?_⟩
            exact (rowsIn_round h).mono fun v w2 hv => hK _ _ hv
          | _ => exact h.elim
        | halt x w' =>
          cases x <;> exact h
      · exact absurd h.2 hQ
    · rename_i hw
      rw [if_neg hw] at h
      exact ⟨fun f _ => trivial, hK _ _ h⟩

theorem wpAny_inRound {n l : Nat} (hnd : ∀ (i : Nat) (o : Oper), ops[i]? = some o → ∀ (c : Call), o.op ≠ .defer c) (hQ : ¬ LetsOut Q) : ∀ (fuel : Nat) (listed : Array Bool) (a : Act) (w : World), wpAny P md ops Q fuel listed a w → wpAnyIn (Fence.wide.inRound l) n P md ops Q fuel listed a w
  | 0, _, _, _, h => h
  | fuel + 1, listed, a, w, h => ⟨h.1, fun i hi => wpOp_inRound (hnd i) hQ (wpAny_inRound hnd hQ fuel _) (h.2 i hi)⟩

/-- The beginning of such a walk. -/
theorem region_inRound {n l id : Nat} {a : Act} {w : World} (hm : P.follows .mixedOrders = true) (hnd : ∀ (i : Nat) (o : Oper), ops[i]? = some o → ∀ (c : Call), o.op ≠ .defer c) (hQ : ¬ LetsOut Q) (S : World → Prop) (hS : S w.drew)
    (h : S w.drew → wpAnyH P .any ops Q S ops.size (Array.replicate ops.size false) a w.drew) : (Code.region id ops true).wpIn (Fence.wide.inRound l) n P Q a w :=
  wpIn_region_any hm (wpAny_inRound hnd hQ _ _ _ _ (wpAny_of_held _ _ _ _ (h hS)))
end

end Go.Proofs.YtipejahmjdamjaaGreatDoor.Ch
namespace Go.Proofs.YtipejahmjdamjaaGreatDoor.Ch
open Go.RowKit Go.Shelf
set_option linter.unusedVariables false

def slots (n : Nat) (s : Nat → Nat) : List Value := (List.range 4).map fun i => if i < n then ptr (s i) else .pointer none

/-- A cache in the memory whose first n sets are laid. -/
structure Ca0 (w : World) (c n : Nat) (s : Nat → Nat) (st : Nat → List Int) (Fs : Nat → Nat → Prop) : Prop where
  blk : Blk w c (slots n s) 130
  sf : ∀ i, i < n → Sf w (s i) 2 (st i) (Fs i)
  apart : ∀ i, i < n → ∀ j, j < n → i ≠ j → ∀ b, Fs i b → ¬ Fs j b
  out : ∀ i, i < n → ¬ Fs i c

/-- A cache: what its sets hold, the least lately used first; all its blocks are among F. -/
def Ca (w : World) (c : Nat) (st : Nat → List Int) (F : Nat → Prop) : Prop :=
  ∃ s Fs, Ca0 w c 4 s st Fs ∧ F c ∧ (∀ i, i < 4 → ∀ b, Fs i b → F b) ∧ ∀ b, F b → b < w.heap.size

def NowC (w w' : World) (c : Nat) (st : Nat → List Int) (F : Nat → Prop) : Prop :=
  (∃ F', Ca w' c st F' ∧ ∀ b, F' b → F b ∨ w.heap.size ≤ b) ∧ Keeps F w w'

theorem slots_get {n i : Nat} (s : Nat → Nat) (h : i < 4) : (slots n s)[i]? = some (if i < n then ptr (s i) else .pointer none) := by
  unfold slots
  rw [List.getElem?_map, List.getElem?_range h]
  rfl
theorem slots_set {n : Nat} (s s' : Nat → Nat) (h : n < 4) (hs : ∀ i, i < n → s' i = s i) : (slots n s).set n (ptr (s' n)) = slots (n + 1) s' := by
  have h' : n = 0 ∨ n = 1 ∨ n = 2 ∨ n = 3 := by omega
  rcases h' with rfl | rfl | rfl | rfl
  · rfl
  · have := hs 0 (by omega)
    simp [slots, List.range, List.range.loop, this]
  · have := hs 0 (by omega); have := hs 1 (by omega)
    simp [slots, List.range, List.range.loop, *]
  · have := hs 0 (by omega); have := hs 1 (by omega); have := hs 2 (by omega)
    simp [slots, List.range, List.range.loop, *]

section
variable {w w' : World} {c n : Nat} {s : Nat → Nat} {st st' : Nat → List Int} {Fs : Nat → Nat → Prop} {F : Nat → Prop}

theorem Ca0.kept {S : Nat → Prop} (h : Ca0 w c n s st Fs) (hK : Keeps S w w') (hc : ¬ S c) (hF : ∀ i, i < n → ∀ b, Fs i b → ¬ S b) : Ca0 w' c n s st Fs :=
  ⟨h.blk.kept hK hc, fun i hi => (h.sf i hi).kept hK (hF i hi), h.apart, h.out⟩
theorem Ca.kept {S : Nat → Prop} (h : Ca w c st F) (hK : Keeps S w w') (hF : ∀ b, F b → ¬ S b) : Ca w' c st F := by
  obtain ⟨s, Fs, h1, h2, h3, h4⟩ := h
  exact ⟨s, Fs, h1.kept hK (hF c h2) fun i hi b hb => hF b (h3 i hi b hb), h2, h3, fun b hb => Nat.lt_of_lt_of_le (h4 b hb) hK.size⟩
theorem Ca.lt (h : Ca w c st F) : ∀ b, F b → b < w.heap.size := by
  obtain ⟨s, Fs, h1, h2, h3, h4⟩ := h
  exact h4
theorem Ca.self (h : Ca w c st F) : F c := by
  obtain ⟨s, Fs, h1, h2, h3, h4⟩ := h
  exact h2
theorem Ca.same (h : Ca w c st F) (e : ∀ i, i < 4 → st' i = st i) : Ca w c st' F := by
  obtain ⟨s, Fs, h1, h2, h3, h4⟩ := h
  exact ⟨s, Fs, ⟨h1.blk, fun i hi => by rw [e i hi]; exact h1.sf i hi, h1.apart, h1.out⟩, h2, h3, h4⟩
theorem Ca.fits (h : Ca w c st F) (i : Nat) (hi : i < 4) : (st i).length ≤ 2 := by
  obtain ⟨s, Fs, h1, h2, h3, h4⟩ := h
  exact (h1.sf i hi).fits
theorem Ca.nodup (h : Ca w c st F) (i : Nat) (hi : i < 4) : (st i).Nodup := by
  obtain ⟨s, Fs, h1, h2, h3, h4⟩ := h
  exact (h1.sf i hi).keys

theorem nowC_keep (h : Ca w c st F) (hK : Keeps (fun _ => False) w w') : NowC w w' c st F :=
  ⟨⟨F, h.kept hK fun _ _ h => h, fun b hb => .inl hb⟩, hK.mono fun _ _ h => h.elim⟩
theorem nowC_trans {w1 w2 : World} {F1 : Nat → Prop} (hF : ∀ b, F1 b → F b ∨ w.heap.size ≤ b) (hK : Keeps F w w1) (h2 : NowC w1 w2 c st F1) : NowC w w2 c st F := by
  obtain ⟨⟨F2, g1, g2⟩, g3⟩ := h2
  refine ⟨⟨F2, g1, fun b hb => ?_⟩, hK.trans g3 fun b hb h => ?_⟩
  · rcases g2 b hb with h | h
    · exact hF b h
    · exact .inr (Nat.le_trans hK.size h)
  · rcases hF b h with h | h
    · exact h
    · omega
/-- One set has changed. -/
theorem nowC_set (h : Ca0 w c 4 s st Fs) (h2 : F c) (h3 : ∀ i, i < 4 → ∀ b, Fs i b → F b) (h4 : ∀ b, F b → b < w.heap.size) {k : Nat} (hk : k < 4) {ks : List Int} (hN : Now w w' (s k) 2 ks (Fs k)) :
    NowC w w' c (fun i => if i = k then ks else st i) F := by
  obtain ⟨⟨F', g1, g2⟩, g3⟩ := hN
  have lt : ∀ i, i < 4 → ∀ b, Fs i b → b < w.heap.size := fun i hi b hb => h4 b (h3 i hi b hb)
  refine ⟨⟨fun b => (F b ∨ w.heap.size ≤ b) ∧ b < w'.heap.size, ⟨s, fun i b => if i = k then F' b else Fs i b, ⟨h.blk.kept g3 (h.out k hk), ?_, ?_, ?_⟩, ⟨.inl h2, ?_⟩, ?_, fun b hb => hb.2⟩, fun b hb => hb.1⟩, g3.mono fun b _ hb => h3 k hk b hb⟩
  · intro i hi
    by_cases e : i = k
    · subst e; simp only [if_pos]; exact g1
    · simp only [if_neg e]
      exact (h.sf i hi).kept g3 fun b hb hb2 => h.apart i hi k hk e b hb hb2
  · intro i hi j hj hij b hb hb2
    by_cases e : i = k
    · have e2 : j ≠ k := fun e2 => hij (e.trans e2.symm)
      simp only [if_pos e] at hb
      simp only [if_neg e2] at hb2
      rcases g2 b hb with h' | h'
      · exact h.apart k hk j hj (fun e3 => e2 e3.symm) b h' hb2
      · have := lt j hj b hb2; omega
    · simp only [if_neg e] at hb
      by_cases e2 : j = k
      · simp only [if_pos e2] at hb2
        rcases g2 b hb2 with h' | h'
        · exact h.apart i hi k hk e b hb h'
        · have := lt i hi b hb; omega
      · simp only [if_neg e2] at hb2
        exact h.apart i hi j hj hij b hb hb2
  · intro i hi hb
    by_cases e : i = k
    · simp only [if_pos e] at hb
      rcases g2 c hb with h' | h'
      · exact h.out k hk h'
      · have := h4 c h2; omega
    · simp only [if_neg e] at hb
      exact h.out i hi hb
  · exact Nat.lt_of_lt_of_le (h4 c h2) g3.size
  · intro i hi b hb
    by_cases e : i = k
    · simp only [if_pos e] at hb
      refine ⟨?_, g1.lt b hb⟩
      rcases g2 b hb with h' | h'
      · exact .inl (h3 k hk b h')
      · exact .inr h'
    · simp only [if_neg e] at hb
      exact ⟨.inl (h3 i hi b hb), Nat.lt_of_lt_of_le (lt i hi b hb) g3.size⟩
end

/-! ### Small functions -/
theorem lineOf_in (a : Nat) (ha : a < 16384) (w : World) : Calls Tryz.prog 176 #[.int .i64 a] w fun r w' => r = .returned (.tuple #[.int .i64 ((a / 4 : Nat) : Int), .bool true]) ∧ w' = w := by
  have h1 : ¬ ((a : Int) < 0) := by omega
  have h2 : ¬ ((a : Int) ≥ 16384) := by omega
  go_enter Tryz.func176, Tryz.ntmps176
  go_wp2
  go_ret2
  refine ⟨?_, rfl⟩
  simp

theorem setOf_in (l : Nat) (w : World) : Calls Tryz.prog 163 #[.int .i64 l] w fun r w' => r = .returned (.int .i64 ((l % 4 : Nat) : Int)) ∧ w' = w := by
  go_enter Tryz.func163, Tryz.ntmps163
  go_wp2
  go_ret
  refine ⟨?_, rfl⟩
  simp

end Go.Proofs.YtipejahmjdamjaaGreatDoor.Ch
