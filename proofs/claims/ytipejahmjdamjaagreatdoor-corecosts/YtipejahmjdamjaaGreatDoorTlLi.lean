import Derived.Test.YtipejahmjdamjaaGreatDoorTlList
import Derived.Test.YtipejahmjdamjaaGreatDoorTlTr
namespace Go.Proofs.YtipejahmjdamjaaGreatDoor.Tl
open Go.RowKit

/-- A range over such an iterator, whose variables have blocks of their own. -/
theorem range_list3 {F : Fence} {n : Nat} {P : Program} {α : Type} {g : Operand} {ps : Array Tmp} {assign body : Code} {Q : Exit → Act → World → Prop} {a : Act} {w : World}
    (hro : F.round = none) (h1 : 1 ≤ n) {gf : Nat} {lb : Array Value} (hg : a.eval g = .func (.func gf) #[] lb) (hFg : F.fn gf) (eg : ∀ args w, (callFunc gf args).run P w = .ok (.enter gf args) w)
    {encs : α → Array Value} {Good : World → Prop} {xs : List α}
    (hseq : Lists F (n - 1) P gf lb encs Good xs) (hgood : ∀ W, Keeps (fun _ => False) w W → Good W) (hps : ∀ x, (encs x).size = ps.size)
    (I : Nat → Nat → World → Prop) (Ix : Code → World → Prop)
    (hI : ∀ g i W W', Keeps (fun k => k = w.heap.size ∨ k = w.heap.size + 1) W W' → I g i W → I g i W')
    (hIx : ∀ c W W', Keeps (fun k => k = w.heap.size ∨ k = w.heap.size + 1) W W' → Ix c W → Ix c W')
    (h0 : ∀ g W, Keeps (fun _ => False) w W → w.heap.size + 2 ≤ g → g < W.heap.size → I g 0 W)
    (hround : ∀ (l g i : Nat) (x : α) (W : World), xs[i]? = some x → I g i W → w.heap.size + 2 ≤ g → g < W.heap.size →
      assign.wpIn (F.inRound l) (n - 1 - 1) P (Exit.then (fun a' W' => Keeps (fun _ => False) W W' ∧ ∀ W2, Keeps (fun k => k = w.heap.size ∨ k = w.heap.size + 1) W' W2 → w.heap.size + 1 < W2.heap.size → I g i W2 → body.wpIn (F.inRound l) (n - 1 - 1) P (ListPost w.heap.size g W2 (I g (i + 1)) Ix) a' W2) (fun _ _ _ => False))
        { tmps := (ps.zip (encs x)).foldl (fun t (p, v) => t.setIfInBounds p v) a.tmps, defers := [] } W)
    (hdone : ∀ (g : Nat) (W : World), I g xs.length W → W.heap[w.heap.size]? = some (.deferred (some [])) → Q .normal { a with defers := { target := .collected w.heap.size, args := #[] } :: a.defers } W)
    (hstop : ∀ (c : Code) (W : World), Ix c W → W.heap[w.heap.size]? = some (.deferred (some [])) → c.wpIn F n P Q { a with defers := { target := .collected w.heap.size, args := #[] } :: a.defers } W) :
    (Code.rangeFunc g ps assign body).wpIn F n P Q a w := by
  refine wpIn_rangeFunc fun fn hfn => ?_
  rw [hro]
  obtain ⟨B, hB⟩ : ∃ B, B = w.heap.size := ⟨_, rfl⟩
  rw [← hB] at hI hIx hround hdone hstop h0
  obtain ⟨rec, hrec⟩ : ∃ rec : LoopState → Option Code → Loop, rec = fun st pe => { state := st, pending := pe, fn, tmps := a.tmps, params := ps, assign, body, defers := B } := ⟨_, rfl⟩
  obtain ⟨W1, hW1⟩ : ∃ W1, (w.alloc (.deferred (some []))).alloc (.loop (rec .ready none)) = W1 := ⟨_, rfl⟩
  have hK0 : Keeps (fun _ => False) w W1 := by rw [← hW1]; exact ((Keeps.refl _ w).alloc _).alloc _
  have hS1 : W1.heap.size = B + 2 := by rw [← hW1, hB]; simp
  have hL1 : W1.heap[B + 1]? = some (.loop (rec .ready none)) := by
    have := World.alloc_heap_new (w.alloc (.deferred (some []))) (.loop (rec .ready none))
    rw [World.size_alloc, ← hB, hW1] at this
    exact this
  have hD1 : W1.heap[B]? = some (.deferred (some [])) := by
    rw [← hW1, hB]; exact (Below.heap_alloc _ _ _ (by simp)).trans (World.alloc_heap_new w _)
  refine ⟨B + 1, [{ target := .collected B, args := #[] }], W1, { target := .fn (.func gf) lb, args := #[.func (.yield (B + 1)) #[] #[]] }, W1, gf,
    #[.func (.yield (B + 1)) #[] #[]] ++ lb, W1, ?_, ?_, ?_, ?_, fun _ => h1, ?_⟩
  · rw [← hW1, hrec, hB]; exact run_enterLoop_outer _ _ _ _ _
  · simp only [resolve, hg]
    simp [go_sem]
  · intro f' hf'; simp [Target.leads] at hf'; subst hf'; exact hFg
  · simp [invoke, go_sem, eg]
  refine (hseq (B + 1) (fun g i W => I g i W ∧ (B + 2 ≤ g ∧ g < W.heap.size) ∧ W.heap[B]? = some (.deferred (some [])) ∧ W.heap[B + 1]? = some (.loop (rec .ready none)))
    (fun W => ∃ c, Ix c W ∧ W.heap[B]? = some (.deferred (some [])) ∧ W.heap[B + 1]? = some (.loop (rec .done (some c)))) W1 (hgood W1 hK0)
    (fun g W hK hg1 hg2 => ⟨h0 g W (hK0.trans hK (fun _ _ h => h)) (by omega) hg2, ⟨by omega, hg2⟩, (hK.block B (by omega) (fun h => h)).trans hD1, (hK.block (B + 1) (by omega) (fun h => h)).trans hL1⟩)
    (fun g i W W' hK h => ⟨hI g i W _ (hK.mono fun _ _ h => h.elim) h.1, ⟨h.2.1.1, Nat.lt_of_lt_of_le h.2.1.2 hK.size⟩, (hK.block B (Array.getElem?_eq_some_iff.1 h.2.2.1).1 (fun h => h)).trans h.2.2.1, (hK.block (B + 1) (Array.getElem?_eq_some_iff.1 h.2.2.2).1 (fun h => h)).trans h.2.2.2⟩) ?_).mono ?_
  · rintro g i x W hx ⟨hi, ⟨hgB, hgW⟩, hd, hl⟩
    have hlt : B + 1 < W.heap.size := (Array.getElem?_eq_some_iff.1 hl).1
    have hy := run_yield (P := P) (args := encs x) hl (by rw [hrec]; exact hps x)
    rw [hrec] at hy
    refine ⟨fn, _, assign, body, hy, roundIn_of_wpIn hfn (wpIn_mono (hround _ g i x W hx hi hgB hgW) ?_)⟩
    rintro e0 a' W' hp0
    cases e0 with
    | ret => exact hp0.elim
    | exit id => exact hp0.elim
    | goto t => exact hp0.elim
    | panic ch => exact hp0.elim
    | outgrown => exact hp0.elim
    | normal => ?_
    obtain ⟨hKa, hbody⟩ := hp0
    have hi : I g i W' := hI g i W W' (hKa.mono fun _ _ h => h.elim) hi
    have hg0 : W'.heap[g]? = W.heap[g]? := hKa.block g hgW fun h => h
    have hd : W'.heap[B]? = some (.deferred (some [])) := (hKa.block B (by omega) fun h => h).trans hd
    have hl : W'.heap[B + 1]? = some (.loop (rec .ready none)) := (hKa.block (B + 1) hlt fun h => h).trans hl
    have hlt : B + 1 < W'.heap.size := Nat.lt_of_lt_of_le hlt hKa.size
    refine ⟨_, run_beginRound hl (by rw [hrec]), ?_⟩
    obtain ⟨W2, hW2⟩ : ∃ W2, W'.putObj (B + 1) (.loop { rec .ready none with state := .busy }) = W2 := ⟨_, rfl⟩
    have hk2 : Keeps (fun k => k = B ∨ k = B + 1) W' W2 := by rw [← hW2]; exact keeps_put W' B (B + 1) _ (.inr rfl)
    have hl2 : W2.heap[B + 1]? = some (.loop { rec .ready none with state := .busy }) := by rw [← hW2]; exact World.putObj_heap_same hlt
    have hd2 : W2.heap[B]? = some (.deferred (some [])) := by rw [← hW2]; exact (World.putObj_heap_other (by omega)).trans hd
    have hg2 : W2.heap[g]? = W'.heap[g]? := by rw [← hW2]; exact World.putObj_heap_other (by omega)
    rw [hW2]
    have back : ∀ (jump : Option Code) (W3 : World), KeptAt B g W2 W3 →
        ∃ W4, (Instr.endRound (B + 1) jump).run P W3 = .ok (.bool jump.isNone) W4 ∧ Keeps (fun k => k = B ∨ k = B + 1) W3 W4 ∧ W4.heap[B]? = some (.deferred (some [])) ∧
          W4.heap[B + 1]? = some (.loop (rec (if jump.isNone then .ready else .done) jump)) ∧ W4.heap[g]? = W'.heap[g]? := fun jump W3 h3 => by
      have hl3 := h3.2.1.trans hl2
      have hd3 := h3.1.trans hd2
      have h4 := run_endRound (P := P) jump hl3
      refine ⟨_, h4, keeps_put W3 B (B + 1) _ (.inr rfl), (World.putObj_heap_other (by omega)).trans hd3, ?_, (World.putObj_heap_other (by omega)).trans (h3.2.2.trans hg2)⟩
      rw [World.putObj_heap_same (Array.getElem?_eq_some_iff.1 hl3).1, hrec]
    have hgl : ∀ {W4 : World}, W4.heap[g]? = W'.heap[g]? → g < W4.heap.size := fun {W4} h => by
      have h5 : W4.heap[g]? ≠ none := by rw [h, hg0]; simp [hgW]
      simpa using h5
    refine wpIn_mono (hbody W2 hk2 (Array.getElem?_eq_some_iff.1 hl2).1 (hI g i _ W2 hk2 hi)) ?_
    rintro e a3 W3 hp
    cases e with
    | normal =>
      obtain ⟨h3, hi3⟩ := hp
      obtain ⟨W4, hr, hk4, hd4, hl4, hg4⟩ := back none W3 h3
      exact ⟨_, _, hr, hg4.trans hg0, .inl ⟨rfl, hI _ _ _ _ hk4 hi3, ⟨hgB, hgl hg4⟩, hd4, hl4⟩⟩
    | ret =>
      obtain ⟨h3, hi3⟩ := hp
      obtain ⟨W4, hr, hk4, hd4, hl4, hg4⟩ := back (some .ret) W3 h3
      exact ⟨_, _, hr, hg4.trans hg0, .inr ⟨rfl, .ret, hIx _ _ _ hk4 hi3, hd4, hl4⟩⟩
    | exit id =>
      obtain ⟨h3, hi3⟩ := hp
      obtain ⟨W4, hr, hk4, hd4, hl4, hg4⟩ := back (some (.exit id)) W3 h3
      exact ⟨_, _, hr, hg4.trans hg0, .inr ⟨rfl, .exit id, hIx _ _ _ hk4 hi3, hd4, hl4⟩⟩
    | goto t =>
      obtain ⟨h3, hi3⟩ := hp
      obtain ⟨W4, hr, hk4, hd4, hl4, hg4⟩ := back (some (.goto t)) W3 h3
      exact ⟨_, _, hr, hg4.trans hg0, .inr ⟨rfl, .goto t, hIx _ _ _ hk4 hi3, hd4, hl4⟩⟩
    | panic ch => exact hp.elim
    | outgrown => exact hp.elim
  · rintro e W2 ⟨⟨v, rfl⟩, (⟨g, hi, hgB, hd, hl⟩ | ⟨c, hi, hd, hl⟩)⟩
    · exact ⟨none, _, by have := run_endLoop (P := P) hl (by rw [hrec]; simp); rw [hrec] at this; exact this,
        hdone g _ (hI _ _ _ _ (keeps_put W2 B (B + 1) _ (.inr rfl)) hi) ((World.putObj_heap_other (by omega)).trans hd)⟩
    · exact ⟨some c, _, by have := run_endLoop (P := P) hl (by rw [hrec]; simp); rw [hrec] at this; exact this,
        hstop c _ (hIx _ _ _ (keeps_put W2 B (B + 1) _ (.inr rfl)) hi) ((World.putObj_heap_other (by omega)).trans hd)⟩

end Go.Proofs.YtipejahmjdamjaaGreatDoor.Tl
namespace Go.Proofs.YtipejahmjdamjaaGreatDoor.Tl
open Go.RowKit Go.Shelf
attribute [local go_sem] Oper.semAt_some
set_option linter.unusedVariables false
set_option maxRecDepth 6000
set_option linter.unusedSimpArgs false

theorem Tryz.info64 : (Tryz.prog.info? 64).map (fun i => (i.zero, i.size, i.bytes)) = some (some (.agg #[.int .i64 0, .int .i64 0, .int .i64 0]), 3, 24) := by kernel_rfl

def flatL (ls : List Lf) : List Value := ls.flatMap Lf.vs
theorem flatL_append (a b : List Lf) : flatL (a ++ b) = flatL a ++ flatL b := by simp [flatL]
theorem flatL_one (l : Lf) : flatL [l] = l.vs := by simp [flatL]
theorem flatL_length (ls : List Lf) : (flatL ls).length = ls.length * 3 := by
  induction ls with
  | nil => rfl
  | cons p r ih => simp [flatL] at ih ⊢; omega
theorem flatL_get (ls : List Lf) (i : Nat) (l : Lf) (h : ls[i]? = some l) : (flatL ls)[i * 3]? = some (.int .i64 l.p) ∧ (flatL ls)[i * 3 + 1]? = some (.int .i64 l.f) ∧ (flatL ls)[i * 3 + 2]? = some (.int .i64 l.r) := by
  induction ls generalizing i with
  | nil => simp at h
  | cons q r ih =>
    cases i with
    | zero => simp at h; subst h; simp [flatL]
    | succ i =>
      have := ih i (by simpa using h)
      have e1 : (i + 1) * 3 = i * 3 + 1 + 1 + 1 := by omega
      rw [e1]
      simpa [flatL] using this

theorem append_leaf {w : World} (l : Lf) (v : Value) (n : Nat) (vs : List Value) (hown : w.ownsRow 0 64 3 v n vs) (hn : n ≤ 4294967296) :
    ∃ v' W', (∀ ty, (Builtin.append_ #[42, 42] ty #[v, .slice (some ⟨w.heap.size, 0, none⟩) 1 1]).run Tryz.prog (w.alloc (.cells #[.int .i64 l.p, .int .i64 l.f, .int .i64 l.r] 64)) = .ok v' W') ∧ W'.ownsRow 0 64 3 v' (n + 1) (vs ++ l.vs) ∧ Grew w v W' v' := by
  obtain ⟨i0, hi, hz0, hz1, hz2⟩ := info_parts Tryz.info64
  obtain ⟨v', W', h1, h2, h3, h4⟩ := append_new 42 64 i0 (.agg #[.int .i64 0, .int .i64 0, .int .i64 0]) 3 24 Tryz.underlying42 hi hz0 hz1 hz2 rfl (by omega) v n vs hown #[.int .i64 l.p, .int .i64 l.f, .int .i64 l.r] rfl (by
    intro y hy
    simp at hy
    rcases hy with rfl | rfl | rfl <;> rfl) (by unfold maxLen; omega) (by omega)
  exact ⟨v', W', h1, h2, h3, h4⟩

theorem owns_lt {w : World} {e : TypeId} {size n g : Nat} {v : Value} {vs : List Value} (h : w.ownsRow 0 e size v n vs) (hg : v.ownBlock = some g) : g < w.heap.size := by
  rcases h.2 with ⟨rfl, _⟩ | ⟨g', cap, cur, rfl, _, hgg, _⟩
  · simp [Value.ownBlock] at hg
  · simp [Value.ownBlock] at hg
    subst hg
    exact (Array.getElem?_eq_some_iff.1 hgg).1

def mark (b : Nat) : Deferred := { target := .collected b, args := #[] }
/-- These blocks are marks that hold no call. -/
def Marks (W : World) (bs : List Nat) : Prop := bs.Nodup ∧ ∀ b ∈ bs, W.heap[b]? = some (.deferred (some []))

theorem leaves_marks {fn : Func} {tmps : Array Value} {R : Ending → World → Prop} {F : Fence} {n : Nat} {P : Program} : ∀ (bs : List Nat) (w : World), Marks w bs →
    (∀ w', Keeps (· ∈ bs) w w' → LeavesIn F n P fn tmps R [] .returning w') → LeavesInM F n P fn tmps R (bs.map mark) .returning w
  | [], w, _, h => h w (Keeps.refl _ _)
  | b :: bs, w, hm, h => by
    have hb := hm.2 b (by simp)
    have hn := List.nodup_cons.1 hm.1
    have hK : Keeps (· = b) w (w.putObj b (.deferred none)) := ⟨rfl, rfl, rfl, by simp, fun k _ hne => World.putObj_heap_other hne⟩
    refine ⟨by simp, .inl ⟨b, _, rfl, run_takeDeferred hb, ?_⟩⟩
    refine leaves_marks bs _ ⟨hn.2, fun d hd => ?_⟩ fun w' hK' => h w' ?_
    · have hdb : d ≠ b := fun e => hn.1 (e ▸ hd)
      exact (hK.block d (Array.getElem?_eq_some_iff.1 (hm.2 d (by simp [hd]))).1 hdb).trans (hm.2 d (by simp [hd]))
    · exact (hK.mono fun k _ he => by simp [he]).trans hK' fun k _ he => by simp [he]

def noDefer (ops : Array Oper) : Bool := ops.all fun o => match o.op with | .defer _ => false | _ => true
theorem noDefer_of {ops : Array Oper} (h : noDefer ops = true) : ∀ (i : Nat) (o : Oper), ops[i]? = some o → ∀ (c : Call), o.op ≠ .defer c := by
  intro i o ho c hc
  unfold noDefer at h
  rw [Array.all_eq_true] at h
  obtain ⟨hi, he⟩ := Array.getElem?_eq_some_iff.1 ho
  have := h i hi
  rw [he, hc] at this
  simp at this

theorem wp_append_run {o : Oper} {a : Act} {K : Act → World → Prop} {Q : Exit → Act → World → Prop} {P : Program} {w : World} (s x : Operand) (t k : TypeId)
    (ho : o.op = .call { callee := .builtin .append, args := #[s, x], argTypes := #[t, k] }) (vs vx v' : Value) (w' : World) (hs : a.eval s = vs) (hx : a.eval x = vx)
    (hr : ∀ ty, (Builtin.append_ #[t, k] ty #[vs, vx]).run P w = .ok v' w') (h : K (a.put o.dst v') w') : Oper.wp P o a w K Q := by
  unfold Oper.wp execOp
  simp only [ho, resolve, invoke, builtin, Sem.run_bind, Sem.run_pure, Result.andThen_ok, List.map_toArray, List.map_cons, List.map_nil, hs, hx, hr]
  exact h

theorem wpListIn_append_run {F : Fence} {n : Nat} {P : Program} {w : World} {ops : Array Oper} {rest : List Oper} {o : Oper} {a : Act} {Q : Exit → Act → World → Prop} (hg : o.guard = none) (s x : Operand) (t k : TypeId)
    (hop : o.op = Op.call { callee := Callee.builtin Builtin.append, args := #[s, x], argTypes := #[t, k] }) (vs vx v' : Value) (w' : World) (hs : a.eval s = vs) (hx : a.eval x = vx)
    (hr : ∀ ty, (Builtin.append_ #[t, k] ty #[vs, vx]).run P w = .ok v' w') (h : wpListIn F n P ops Q rest (a.put o.dst v') w') : wpListIn F n P ops Q (o :: rest) a w := by
  refine wpListIn_plain hg fun K hK' => ?_
  unfold Oper.wpIn
  refine ⟨?_, ?_⟩
  · simp [Oper.about, hop, resolve, Target.leads, Sem.run_pure]
  · rw [Oper.semAt_plain F _ _ (by rw [hop]; intro c hc'; cases hc')]
    simp [execOp, hop, resolve, invoke, builtin, hs, hx, hr, Result.andThen]
    exact hK' _ _ h

/-- make([]Leaf, 0, n). -/
theorem make_leaves (w : World) (L : Nat) (hL : L ≤ 4096) : ∃ W, (Instr.makeSlice 42 (.int .i64 0) (.int .i64 L)).run Tryz.prog w = .ok (.slice (some ⟨w.heap.size, 0, none⟩) 0 L) W ∧ W.ownsRow 0 64 3 (.slice (some ⟨w.heap.size, 0, none⟩) 0 L) 0 [] ∧ Keeps (fun _ => False) w W ∧ W.heap.size = w.heap.size + 1 := by
  obtain ⟨i0, hi, hz0, hz1, hz2⟩ := info_parts Tryz.info64
  have h := run_make (P := Tryz.prog) w 42 64 i0 _ Tryz.underlying42 hi hz0 .i64 .i64 0 L (by omega) (by omega) (by rw [hz2]; omega) (by omega)
  rw [hz1] at h
  simp only [Int.toNat_zero, Int.toNat_natCast] at h
  exact ⟨_, h, World.ownsRow_made w _ L (Nat.zero_le _) (by unfold maxLen; omega) (by simp [madeCells]), (Keeps.refl _ w).alloc _, by simp⟩

/-- Where the walk through the shelf is. -/
structure RI (w X0 : World) (H : Nat) (ls : List Lf) (g : Nat) (X : World) : Prop where
  lo : X0.heap.size + 2 ≤ g
  row : ∃ v, Blk X H [v] 42 ∧ X.ownsRow 0 64 3 v ls.length (flatL ls) ∧ ∃ gv, v.ownBlock = some gv ∧ w.heap.size ≤ gv ∧ gv ≠ H ∧ (gv = w.heap.size ∨ g < gv)
  keeps : Keeps (fun b => b = H ∨ b = w.heap.size) X0 X

set_option maxRecDepth 20000 in
set_option maxHeartbeats 4000000 in
theorem leaves_walk (t s : Nat) (ls : List Lf) (w : World) (h1 : Blk w t [ptr s] 126) (hL : ls.length ≤ 4) (F0 : Nat → Prop) (hS : Sf w s 4 (kv ls) F0) :
    Calls Tryz.prog 63 #[ptr t] w fun r w' => ∃ v, r = .returned v ∧ w'.ownsRow 0 64 3 v ls.length (flatL ls) ∧ (∃ g, v.ownBlock = some g ∧ w.heap.size ≤ g) ∧ Keeps (fun _ => False) w w' := by
  have c0 := h1.cell (i := 0) rfl
  have H1 : Hid (Calls _ _ _ _ _) := len_any s 4 (kv ls) F0 w hS
  rw [show (kv ls).length = ls.length by simp [kv]] at H1
  obtain ⟨W1, hm1, hm2, hm3, hm4⟩ := make_leaves w ls.length (by omega)
  have HM : Hid ((Instr.makeSlice 42 (.int .i64 0) (.int .i64 ls.length)).run Tryz.prog w = .ok (.slice (some ⟨w.heap.size, 0, none⟩) 0 ls.length) W1) := hm1
  obtain ⟨L, hLL⟩ : ∃ L, L = ls.length := ⟨_, rfl⟩
  rw [← hLL] at H1 HM hm2
  obtain ⟨W2, hW2⟩ : ∃ W2, W2 = W1.alloc (.cells #[.slice (some ⟨w.heap.size, 0, none⟩) 0 L] 42) := ⟨_, rfl⟩
  have hK2 : Keeps (fun _ => False) W1 W2 := by rw [hW2]; exact (Keeps.refl _ W1).alloc _
  have hB2 : Blk W2 W1.heap.size [.slice (some ⟨w.heap.size, 0, none⟩) 0 L] 42 := by rw [hW2]; exact Blk.new W1 _ 42
  have hO2 : W2.ownsRow 0 64 3 (.slice (some ⟨w.heap.size, 0, none⟩) 0 L) 0 [] := owns_kept hm2 hK2 fun _ _ h => h
  have hKw : Keeps (fun _ => False) w W2 := hm3.trans hK2 fun _ _ h => h
  have hz2 : W2.heap.size = w.heap.size + 2 := by rw [hW2]; simp; omega
  have c1 := (h1.kept hKw fun h => h).cell (i := 0) rfl
  rw [hW2] at c1
  obtain ⟨X0, hX0⟩ : ∃ X0, X0 = W2.alloc (.cells #[ptr s] 122) := ⟨_, rfl⟩
  have HA : Hid (Calls Tryz.prog 99 #[ptr s] W2 _) := all_any (some ⟨s, 0, none⟩) W2
  rw [← hX0] at HA
  have hKx : Keeps (fun _ => False) W2 X0 := by rw [hX0]; exact (Keeps.refl _ W2).alloc _
  have hBx : Blk X0 W2.heap.size [ptr s] 122 := by rw [hX0]; exact Blk.new W2 _ 122
  have hzx : X0.heap.size = w.heap.size + 3 := by rw [hX0]; simp; omega
  have HW : Hid (W2 = W1.alloc (.cells #[.slice (some ⟨w.heap.size, 0, none⟩) 0 L] 42)) := hW2
  have hH : W1.heap.size = w.heap.size + 1 := hm4
  have HX : Hid (Blk X0 W1.heap.size [.slice (some ⟨w.heap.size, 0, none⟩) 0 L] 42 ∧ X0.ownsRow 0 64 3 (.slice (some ⟨w.heap.size, 0, none⟩) 0 L) 0 [] ∧ Keeps (fun _ => False) w X0 ∧ X0.heap.size = w.heap.size + 3 ∧ W1.heap.size = w.heap.size + 1 ∧ W2.heap.size = w.heap.size + 2 ∧ L = ls.length ∧ L ≤ 4 ∧ Blk X0 W2.heap.size [ptr s] 122) :=
    ⟨hB2.kept hKx fun h => h, owns_kept hO2 hKx fun _ _ h => h, hKw.trans hKx fun _ _ h => h, hzx, hm4, hz2, hLL, by omega, hBx⟩
  have HS : Hid (Sf w s 4 (kv ls) F0) := hS
  clear hm1 hm2 hm3 hm4 hLL hL hS h1 hK2 hB2 hO2 hKw hz2 hX0 hKx hBx hzx hW2 hH
  refine (callsIn_wide (n := 8)).1 ?_
  refine callsIn_of_wp_marks Tryz.func63 rfl trivial ?_ rfl
  refine wpIn_wide.2 ?_
  simp only [Tryz.ntmps63, List.size_toArray, List.length_cons, List.length_nil, Nat.reduceAdd, Nat.reduceSub, Array.replicate_succ, Array.replicate_zero, List.push_toArray, List.append_toArray, List.nil_append, List.cons_append]
  go_wp2_with fail
  refine H1.out.mono ?_
  rintro r w1 ⟨rfl, rfl⟩
  clear H1
  go_wp2_with (at_make; refine wpList_make_run rfl _ _ 42 rfl (.int .i64 0) (.int .i64 L) _ _ rfl rfl HM.out ?_; refine Hid.out ?_)
  unfold Hid
  clear HM c0
  go_wp2_with fail
  rw [← HW.out]
  refine HA.out.mono ?_
  rintro r w2 ⟨rfl, rfl⟩
  clear HA c1 HW
  obtain ⟨H, hH⟩ : ∃ H, H = W1.heap.size := ⟨_, rfl⟩
  obtain ⟨B1, hB1⟩ : ∃ B1, B1 = W2.heap.size := ⟨_, rfl⟩
  rw [← hH, ← hB1] at HX
  rw [← hH, ← hB1]
  clear hH hB1
  have HT : Hid (∀ X, Keeps (fun b => b = H ∨ b = w1.heap.size) w2 X → Keeps (fun _ => False) w1 X) := fun X hK => by
    obtain ⟨x1, x2, x3, x4, x5, x6, x7, x8, x9⟩ := HX.out
    exact x3.trans hK fun b hb h => by omega
  go_wp2_with fail
  refine (wpIn_wide (n := 8)).1 ?_
  refine range_list3 rfl (by omega) (gf := 147) (lb := #[.pointer (some ⟨B1, 0, none⟩)]) rfl trivial (enters_of Tryz.func147 (by kernel_rfl) rfl) (all_lists 7 B1 s 4 (kv ls))
    (fun X hK => ?good) (fun _ => rfl) (fun g i X => RI w1 w2 H (ls.take i) g X) (fun _ _ => False) ?kept (fun _ _ _ _ h => h) ?begin ?body ?done ?stop
  case good => exact ⟨(HX.out.2.2.2.2.2.2.2.2.kept hK fun h => h).cell rfl, F0, HS.out.kept (HX.out.2.2.1.trans hK fun _ _ h => h) fun _ _ h => h⟩
  case stop =>
    rintro c W h _
    exact h.elim
  case kept =>
    intro g i X X' hK h
    obtain ⟨x1, x2, x3, x4, x5, x6, x7, x8, x9⟩ := HX.out
    obtain ⟨h1, ⟨v, h2, h3, gv, h4, h5, h6, h7⟩, h8⟩ := h
    refine ⟨h1, ⟨v, h2.kept hK (by omega), owns_kept h3 hK fun k hk => ?_, gv, h4, h5, h6, h7⟩, h8.trans hK fun b hb he => by omega⟩
    rw [h4] at hk; cases hk
    omega
  case begin =>
    intro g X hK hg1 hg2
    obtain ⟨x1, x2, x3, x4, x5, x6, x7, x8, x9⟩ := HX.out
    refine ⟨hg1, ⟨_, x1.kept hK fun h => h, ?_, w1.heap.size, rfl, Nat.le_refl _, by omega, .inl rfl⟩, hK.mono fun _ _ h => h.elim⟩
    exact owns_kept x2 hK fun _ _ h => h
  case body =>
    intro l g i x X hx hR hgB hgX
    obtain ⟨k, q⟩ := x
    have hx' : ls[i]? = some q ∧ k = q.p := by
      unfold kv at hx
      rw [List.getElem?_map] at hx
      cases h : ls[i]? with
      | none => rw [h] at hx; simp at hx
      | some y => rw [h] at hx; simp at hx; exact ⟨by rw [hx.2], by rw [← hx.2]; exact hx.1.symm⟩
    obtain ⟨hx', rfl⟩ := hx'
    clear hx
    unfold encA
    gi_wp2
    refine ⟨(Keeps.refl _ X).alloc _, ?_⟩
    intro X2 hk2 hlt2 hR2
    have hBq : Blk X2 X.heap.size q.vs 64 := (Blk.new X _ 64).kept hk2 (by omega)
    obtain ⟨x1, x2, x3, x4, x5, x6, x7, x8, x9⟩ := HX.out
    obtain ⟨q1, ⟨v, q2, q3, gv, q4, q5, q6, q7⟩, q8⟩ := hR2
    have hi : i < ls.length := (List.getElem?_eq_some_iff.1 hx').1
    have hl : (ls.take i).length = i := by simp; omega
    rw [hl] at q3
    obtain ⟨v', W', happ, hown', hgr⟩ := append_leaf q v i _ q3 (by omega)
    obtain ⟨gw, capw, hv'⟩ : ∃ gw capw, v' = .slice (some ⟨gw, 0, none⟩) (i + 1) capw := by
      rcases hown'.2 with ⟨_, h⟩ | ⟨gv, cap, cur, rfl, _⟩
      · omega
      · exact ⟨gv, cap, rfl⟩
    obtain ⟨cv, hv⟩ : ∃ cv, v = .slice (some ⟨gv, 0, none⟩) i cv := by
      rcases q3.2 with ⟨rfl, _⟩ | ⟨g', cap, cur, rfl, _⟩
      · simp [Value.ownBlock] at q4
      · simp [Value.ownBlock] at q4
        subst q4
        exact ⟨cap, rfl⟩
    have hgw : gw = gv ∨ X2.heap.size ≤ gw := by
      rcases hgr.fresh with e | ⟨k, e, hk⟩
      · rw [hv', q4] at e; simp [Value.ownBlock] at e; exact .inl e
      · rw [hv'] at e; simp [Value.ownBlock] at e; exact .inr (by omega)
    have hkg : Keeps (fun k => k = gv) X2 W' := hgr.keeps.mono fun b _ he => by rw [q4] at he; cases he; rfl
    have hgX2 : g < X2.heap.size := Nat.lt_of_lt_of_le hgX (Nat.le_trans (by simp) hk2.size)
    have eH := q2.cell (i := 0) rfl
    have fH' := (q2.kept hkg fun h => q6 h.symm)
    have fH := fH'.frozen 0
    have dH := fH'.cell (i := 0) rfl
    have l0 := hBq.cell (i := 0) rfl
    have l1 := hBq.cell (i := 1) rfl
    have l2 := hBq.cell (i := 2) rfl
    have hKs : Keeps (fun k => k = H) W' (W'.setCell ⟨H, 0, none⟩ v') := (Keeps.refl _ W').setCell _ _ fun _ => rfl
    have HEND : Hid (KeptAt w2.heap.size g X2 (W'.setCell ⟨H, 0, none⟩ v') ∧ RI w1 w2 H (ls.take (i + 1)) g (W'.setCell ⟨H, 0, none⟩ v')) := by
      have hkk : ∀ b, b < X2.heap.size → b ≠ gv → b ≠ H → (W'.setCell ⟨H, 0, none⟩ v').heap[b]? = X2.heap[b]? := fun b hb h1 h2 =>
        (hKs.block b (Nat.lt_of_lt_of_le hb hkg.size) h2).trans (hkg.block b hb h1)
      have hz := q8.size
      refine ⟨⟨hkk _ (by omega) (by omega) (by omega), hkk _ (by omega) (by omega) (by omega), hkk _ (by omega) (by omega) (by omega)⟩, q1, ⟨v', ?_, ?_, gw, by rw [hv']; rfl, ?_, ?_, ?_⟩, ?_⟩
      · exact fH'.setCell 0 v'
      · have e1 : ls.take (i + 1) = ls.take i ++ [q] := by rw [List.take_add_one, hx']; rfl
        rw [e1, flatL_append, flatL_one, List.length_append, hl]
        refine owns_kept hown' hKs fun k hk he => ?_
        rw [hv'] at hk; simp [Value.ownBlock] at hk
        omega
      · omega
      · omega
      · omega
      · refine (q8.trans hkg fun b hb he => ?_).trans hKs fun b hb he => .inl he
        omega
    subst hv
    have HAP : Hid (∀ ty, (Builtin.append_ #[42, 42] ty #[.slice (some ⟨gv, 0, none⟩) i cv, .slice (some ⟨X2.heap.size, 0, none⟩) 1 1]).run Tryz.prog (X2.alloc (.cells #[.int .i64 q.p, .int .i64 q.f, .int .i64 q.r] 64)) = .ok v' W') := happ
    subst hv'
    clear happ hown' hgr hkg hgw hgX2 fH' hKs q1 q2 q3 q4 q5 q6 q7 q8 hBq x1 x2 x3 x4 x5 x6 x7 x8 x9 hR hgB hgX hlt2 hk2 hx' hi hl
    gi_wp2_with (gi_at_builtin; go_must (refine wpListIn_append_run rfl (.tmp 21) (.tmp 23) 42 42 rfl _ _ _ W' rfl rfl HAP.out ?_; refine Hid.out ?_))
    unfold Hid
    gi_wp2
    exact HEND.out
  case done =>
    intro g X hR hD
    obtain ⟨x1, x2, x3, x4, x5, x6, x7, x8, x9⟩ := HX.out
    obtain ⟨q1, ⟨v, q2, q3, gv, q4, q5, q6, q7⟩, q8⟩ := hR
    rw [show (kv ls).length = ls.length by simp [kv], List.take_length] at q3
    have hKX := HT.out X q8
    have hz := (Array.getElem?_eq_some_iff.1 hD).1
    have HE : Hid (X.ownsRow 0 64 3 v ls.length (flatL ls) ∧ (v.ownBlock = some gv ∧ w1.heap.size ≤ gv) ∧ Keeps (fun _ => False) w1 X ∧ gv ≠ w2.heap.size ∧ w1.heap.size ≤ w2.heap.size) := ⟨q3, ⟨q4, q5⟩, hKX, by omega, by omega⟩
    have HD : Hid (Marks X [w2.heap.size]) := ⟨by simp, by simpa using hD⟩
    have c0 := q2.cell (i := 0) rfl
    obtain ⟨D1, hD1⟩ : ∃ D1, D1 = w2.heap.size := ⟨_, rfl⟩
    rw [← hD1] at HE HD ⊢
    clear q1 q2 q3 q4 q5 q6 q7 q8 hKX hz hD x1 x2 x3 x4 x5 x6 x7 x8 x9 hD1
    gi_wp2
    go_wp2
    refine leaves_marks [D1] X HD.out fun w' hK => ?_
    obtain ⟨e1, e2, e3, e4, e5⟩ := HE.out
    refine ⟨_, results_tmp rfl _ _ _, v, rfl, owns_kept e1 hK fun k hk hm => ?_, ⟨gv, e2⟩, e3.trans hK fun b hb hm => ?_⟩
    · rw [e2.1] at hk; cases hk
      simp at hm; exact e4 hm
    · simp at hm; omega

theorem leaves_any (t : Nat) (ls : List Lf) (F : Nat → Prop) (w : World) (h : Tl w t ls F) :
    Calls Tryz.prog 63 #[ptr t] w fun r w' => ∃ v, r = .returned v ∧ w'.ownsRow 0 64 3 v ls.length (flatL ls) ∧ (∃ g, v.ownBlock = some g ∧ w.heap.size ≤ g) ∧ Keeps (fun _ => False) w w' := by
  have h4 := h.le
  obtain ⟨s, F0, h1, h2, h3, h4', h5, h6⟩ := h
  exact leaves_walk t s ls w h1 h4 F0 h2

end Go.Proofs.YtipejahmjdamjaaGreatDoor.Tl
