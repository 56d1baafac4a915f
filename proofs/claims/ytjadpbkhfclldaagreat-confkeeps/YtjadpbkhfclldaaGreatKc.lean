import Derived.Test.YtjadpbkhfclldaaGreatCn
namespace Go.Proofs.YtjadpbkhfclldaaGreat
open Go.RowKit
set_option linter.unusedVariables false
set_option linter.unusedSimpArgs false
set_option maxRecDepth 6000

theorem tk {P : Program} {md : Region.Mode} {ops : Array Oper} {Q : Exit → Act → World → Prop} {S : World → Prop} {oi : Oper} {fuel : Nat} {listed : Array Bool} {a : Act} {w : World} (i : Nat) (v : Value) (hS : S w) (h : wpAnyH P md ops Q S fuel (listed.setIfInBounds i true) (a.put oi.dst v) w)
    (hi : ops[i]? = some oi := by (simp only [List.getElem?_toArray, List.getElem?_cons_succ, List.getElem?_cons_zero]; exact rfl))
    (hs : Region.noSelect ops = true := by kernel_rfl) (hf : Region.free md ops listed i = true := by kernel_rfl) (hc : (Region.ready md ops listed).contains i = true := by kernel_rfl)
    (hQ : ∀ c a w, Q (.panic c) (a.put oi.dst v) w → Q (.panic c) a w := by exact fun _ _ _ h => h) (hg : Region.wanted oi (yielded ops a.tmps) = true := by kernel_rfl)
    (hr : ∀ w, S w → (execOp a.eval oi).run P w = .ok (.value v) w := by (intro w hSw; (try dsimp only at hSw); go_simp; try omega)) : wpAnyH P md ops Q S (fuel + 1) listed a w :=
  wpAnyH_take hi hs hf hc hQ (Or.inl ⟨hg, hr⟩) hS h
theorem tn {P : Program} {md : Region.Mode} {ops : Array Oper} {Q : Exit → Act → World → Prop} {S : World → Prop} {oi : Oper} {fuel : Nat} {listed : Array Bool} {a : Act} {w : World} (i : Nat) (hS : S w) (h : wpAnyH P md ops Q S fuel (listed.setIfInBounds i true) (a.put oi.dst undef) w)
    (hi : ops[i]? = some oi := by (simp only [List.getElem?_toArray, List.getElem?_cons_succ, List.getElem?_cons_zero]; exact rfl))
    (hs : Region.noSelect ops = true := by kernel_rfl) (hf : Region.free md ops listed i = true := by kernel_rfl) (hc : (Region.ready md ops listed).contains i = true := by kernel_rfl)
    (hQ : ∀ c a w, Q (.panic c) (a.put oi.dst undef) w → Q (.panic c) a w := by exact fun _ _ _ h => h) (hg : Region.wanted oi (yielded ops a.tmps) = false := by kernel_rfl) : wpAnyH P md ops Q S (fuel + 1) listed a w :=
  wpAnyH_take hi hs hf hc hQ (Or.inr ⟨hg, rfl⟩) hS h
theorem wp_append_run {o : Oper} {a : Act} {K : Act → World → Prop} {Q : Exit → Act → World → Prop} {P : Program} {w : World} (s x : Operand) (t k : TypeId)
    (ho : o.op = .call { callee := .builtin .append, args := #[s, x], argTypes := #[t, k] }) (vs vx v' : Value) (w' : World) (hs : a.eval s = vs) (hx : a.eval x = vx)
    (hr : ∀ ty, (Builtin.append_ #[t, k] ty #[vs, vx]).run P w = .ok v' w') (h : K (a.put o.dst v') w') : Oper.wp P o a w K Q := by
  unfold Oper.wp execOp
  simp only [ho, resolve, invoke, builtin, Sem.run_bind, Sem.run_pure, Result.andThen_ok, List.map_toArray, List.map_cons, List.map_nil, hs, hx, hr]
  exact h

theorem exec_load_row {P : Program} {o : Oper} {ev : Operand → Value} {w : World} (ty : TypeId) (x : Operand) (ho : o.op = .load ty x) (g : Nat) (hx : ev x = .pointer (some ⟨g, 0, none⟩)) (t : TypeId) (cs : Array Value) (fr : Nat × Nat) (d : TypeDesc) (hg : w.heap[g]? = some (.cells cs t fr))
    (hu : P.underlying ty = some d) (hd : (match d with | .struct _ | .array _ _ => true | _ => false) = true) (hi : (P.info? ty).map (·.size) = some cs.size) : (execOp ev o).run P w = .ok (.value (.agg cs)) w := by
  unfold execOp
  simp only [ho, hx, Instr.loadAt, Instr.sureAddr, Sem.run_bind, Sem.run_pure, Result.andThen_ok, run_loadVar_row w g t ty cs fr d hg hu hd hi]
theorem results_two {P : Program} {fn : Func} {p q : Tmp} {ty ty2 : TypeId} (h : fn.results = #[.cell p ty, .cell q ty2]) (tmps : Array Value) (w : World) (g g2 : Nat) (t t2 : TypeId) (cs cs2 : Array Value) (fr fr2 : Nat × Nat) (d d2 : TypeDesc)
    (hp : tmps.getD p undef = .pointer (some ⟨g, 0, none⟩)) (hg : w.heap[g]? = some (.cells cs t fr))
    (hu : P.underlying ty = some d) (hd : (match d with | .struct _ | .array _ _ => true | _ => false) = true) (hi : (P.info? ty).map (·.size) = some cs.size)
    (hp2 : tmps.getD q undef = .pointer (some ⟨g2, 0, none⟩)) (hg2 : w.heap[g2]? = some (.cells cs2 t2 fr2))
    (hu2 : P.underlying ty2 = some d2) (hd2 : (match d2 with | .struct _ | .array _ _ => true | _ => false) = true) (hi2 : (P.info? ty2).map (·.size) = some cs2.size) :
    (results fn tmps).run P w = .ok (.tuple #[.agg cs, .agg cs2]) w := by
  have hp' : tmps[p]?.getD undef = .pointer (some ⟨g, 0, none⟩) := by simpa using hp
  have hp2' : tmps[q]?.getD undef = .pointer (some ⟨g2, 0, none⟩) := by simpa using hp2
  simp [results, h, hp', hp2', asAddr, run_loadVar_row w g t ty cs fr d hg hu hd hi, run_loadVar_row w g2 t2 ty2 cs2 fr2 d2 hg2 hu2 hd2 hi2]
theorem Tryz.size26 : (Tryz.prog.info? 26).map (·.size) = some 7 := by kernel_rfl
theorem Tryz.size36 : (Tryz.prog.info? 36).map (·.size) = some 6 := by kernel_rfl

def zCfg : List Value := [.int .i64 0, .int .i64 0, .int .i64 0, .int .i64 0, .slice none 0 0, .slice none 0 0, .slice none 0 0]
def zRoom : List Value := [.slice none 0 0, .slice none 0 0, .slice none 0 0, .slice none 0 0, .slice none 0 0, .slice none 0 0]
def roomV (O : Nat → Nat → ObG) : List Value := [(O 0 0).u, (O 0 1).u, (O 0 2).u, (O 0 3).u, (O 0 4).u, (O 0 5).u]
/-- While a configuration is laid with room behind its lists. -/
structure RI (w : World) (x : Cfg) (C A B R lo N : Nat) (O : Nat → Nat → ObG) (wr : World) : Prop where
  cfg : Blk wr C x.vs 26
  resA : Blk wr A zCfg 26
  resB : Blk wr B zRoom 36
  room : Blk wr R (roomV O) 36
  fam : FamO lo wr O
  keeps : Keeps (fun _ => False) w wr
  cin : x.In wr N
  nn : N ≤ w.heap.size
  ord : w.heap.size ≤ C ∧ C < A ∧ A < B ∧ B < R ∧ R < lo
section
variable {w : World} {x : Cfg} {C A B R lo N : Nat} {O O' : Nat → Nat → ObG} {wr W : World}
theorem RI.kept (h : RI w x C A B R lo N O wr) (hK : Keeps (fun _ => False) wr W) : RI w x C A B R lo N O W :=
  ⟨h.cfg.kept hK fun h => h, h.resA.kept hK fun h => h, h.resB.kept hK fun h => h, h.room.kept hK fun h => h, h.fam.kept hK fun _ _ _ _ h => h, h.keeps.trans hK fun _ _ h => h, h.cin.keeps (Nat.le_trans h.nn h.keeps.size) hK, h.nn, h.ord⟩
/-- A row that is in no cell of the room has changed. -/
theorem RI.inner (h : RI w x C A B R lo N O wr) (hF : FamO lo W O') (hK : Keeps (fun k => lo ≤ k) wr W) (hs : roomV O' = roomV O) : RI w x C A B R lo N O' W := by
  have ho := h.ord
  refine ⟨h.cfg.kept hK (by omega), h.resA.kept hK (by omega), h.resB.kept hK (by omega), by rw [hs]; exact h.room.kept hK (by omega), hF, h.keeps.trans hK fun b hb e => by omega, h.cin.below (hK.below (Nat.le_trans h.nn h.keeps.size) fun b e => by have := h.nn; omega), h.nn, h.ord⟩
/-- A row of the room has changed, and is stored. -/
theorem RI.put (h : RI w x C A B R lo N O wr) (hF : FamO lo W O') (hK : Keeps (fun k => lo ≤ k) wr W) (b : Nat) (v : Value) (hs : roomV O' = (roomV O).set b v) : RI w x C A B R lo N O' (W.setCell ⟨R, b, none⟩ v) := by
  have ho := h.ord
  have hK2 : Keeps (fun k => k = R) W (W.setCell ⟨R, b, none⟩ v) := (Keeps.refl _ W).setCell ⟨R, b, none⟩ v fun _ => rfl
  have hK3 : Keeps (fun k => k = R ∨ lo ≤ k) wr (W.setCell ⟨R, b, none⟩ v) := (hK.mono fun _ _ h => .inr h).trans hK2 fun _ _ h => .inl h
  have hR := (h.room.kept hK (by omega)).setCell b v
  rw [← hs] at hR
  refine ⟨h.cfg.kept hK3 (by omega), h.resA.kept hK3 (by omega), h.resB.kept hK3 (by omega), hR, hF.keptLo hK2 fun k e => by omega, h.keeps.trans hK3 fun b hb e => by omega, h.cin.below (hK3.below (Nat.le_trans h.nn h.keeps.size) fun b e => by have := h.nn; omega), h.nn, h.ord⟩
end
theorem Fam.form {ty : Nat → Nat → TypeId × Nat} {lo : Nat} {w : World} {O : Nat → Nat → ObG} (h : Fam ty lo w O) (a b : Nat) : ∃ d c, (O a b).u = .slice d (O a b).n c ∧ (O a b).n ≤ c ∧ c ≤ maxLen := by
  rcases (h.own a b).2 with ⟨e, h0⟩ | ⟨g, cap, cur, e, _, _, h1, h2, _⟩
  · exact ⟨none, 0, by rw [e, h0], by omega, Nat.zero_le _⟩
  · exact ⟨_, cap, e, h1, h2⟩
theorem keeps_lo {ty : Nat → Nat → TypeId × Nat} {lo : Nat} {w W : World} {O : Nat → Nat → ObG} (h : Fam ty lo w O) (a b : Nat) (hK : Keeps (fun k => some k = (O a b).u.ownBlock) w W) : Keeps (fun k => lo ≤ k) w W := hK.mono fun k _ e => h.low a b k e.symm
theorem RI.cells {w : World} {x : Cfg} {C A B R lo N : Nat} {O : Nat → Nat → ObG} {wr W : World} (h : RI w x C A B R lo N O wr) (b : Nat) (v : Value) (hv : (roomV O)[b]? = some v) (hK : Keeps (fun k => lo ≤ k) wr W) : wr.cell? ⟨R, b, none⟩ = some v ∧ W.cell? ⟨R, b, none⟩ = some v ∧ W.frozen? ⟨R, b, none⟩ = false := by
  have ho := h.ord
  have hB := h.room.kept hK (by omega)
  exact ⟨h.room.cell hv, hB.cell hv, hB.frozen b⟩
/-- append(u, ls...): a whole list behind one of the rows. -/
theorem Fam.appSeg {α : Type} {ty : Nat → Nat → TypeId × Nat} {lo : Nat} {w : World} {O : Nat → Nat → ObG} (h : Fam ty lo w O) (E : Elem α) (hE : Plain E) (a b : Nat) (hty : ty a b = (E.ety, E.k)) (t : TypeId) (z : Value) (bytes : Nat) (ht : Tryz.prog.underlying t = some (.slice E.ety)) (hinf : (Tryz.prog.info? E.ety).map (fun i => (i.zero, i.size, i.bytes)) = some (some z, E.k, bytes)) (hzs : z.cells.size = E.k) (hby : bytes ≤ 104)
    (ad : Option Addr) (ls : List α) (c : Nat) (hs : SegA E.vs E.k w ad ls) (hl : (O a b).n + ls.length ≤ 4294967296) :
    ∃ v' W', (∀ ty, (Builtin.append_ #[t, t] ty #[(O a b).u, .slice ad ls.length c]).run Tryz.prog w = .ok v' W') ∧ Fam ty lo W' (updG O a b ⟨v', (O a b).n + ls.length, (O a b).xs ++ ls.flatMap E.vs⟩) ∧ (v'.ownBlock = (O a b).u.ownBlock ∨ v'.ownBlock = none ∨ ∃ k, v'.ownBlock = some k ∧ w.heap.size ≤ k) ∧ Keeps (fun k => some k = (O a b).u.ownBlock) w W' := by
  obtain ⟨i, hi, hz, hsz, hb⟩ := info_parts hinf
  have hmul : ((O a b).n + ls.length) * bytes ≤ 4294967296 * 104 := Nat.mul_le_mul hl hby
  have hown := h.own a b
  rw [hty] at hown
  dsimp only at hown
  have fin : ∀ (v' : Value) (W' : World), W'.ownsRow 0 E.ety E.k v' ((O a b).n + ls.length) ((O a b).xs ++ ls.flatMap E.vs) → (v'.ownBlock = (O a b).u.ownBlock ∨ ∃ k, v'.ownBlock = some k ∧ w.heap.size ≤ k) → Keeps (fun k => some k = (O a b).u.ownBlock) w W' → Fam ty lo W' (updG O a b ⟨v', (O a b).n + ls.length, (O a b).xs ++ ls.flatMap E.vs⟩) ∧ (v'.ownBlock = (O a b).u.ownBlock ∨ v'.ownBlock = none ∨ ∃ k, v'.ownBlock = some k ∧ w.heap.size ≤ k) ∧ Keeps (fun k => some k = (O a b).u.ownBlock) w W' := fun v' W' h2 h3 h4 =>
    ⟨h.grow a b (by rw [hty]; exact h2) (h3.imp id .inr) h4, h3.imp id .inr, h4⟩
  cases ad with
  | none =>
    obtain rfl : ls = [] := by
      rcases hs with h | ⟨g, o, ha, _⟩
      · exact h
      · simp at ha
    refine ⟨(O a b).u, w, fun e => append_none t E.ety i E.k ht hi hsz E.pos (O a b).u (O a b).n c (O a b).xs hown e, fin _ _ (by simpa using hown) (.inl rfl) (Keeps.refl _ _)⟩
  | some x =>
    by_cases he : ls = []
    · subst he
      obtain ⟨v', W', h1, h2, h3, h4⟩ := append_many (w := w) t E.ety i z E.k bytes ht hi hz hsz hb hzs E.pos (O a b).u (O a b).n (O a b).xs hown x 0 c [] (by simp) (fun j u hj => by simp at hj) (fun u hu => by cases hu) (by unfold maxLen; simp at hl; omega) (by rw [List.length_nil, Nat.add_zero] at hmul; rw [Nat.add_zero]; omega)
      exact ⟨v', W', h1, fin v' W' (by simpa using h2) h3 h4⟩
    · obtain ⟨g, o, ha, hc⟩ : ∃ g o, some x = some (⟨g, o, none⟩ : Addr) ∧ ∀ j y, ls[j]? = some y → ∀ i v, (E.vs y)[i]? = some v → w.cell? ⟨g, o + j * E.k + i, none⟩ = some v := by
        rcases hs with h | h
        · exact (he h).elim
        · exact h
      cases ha
      obtain ⟨v', W', h1, h2, h3, h4⟩ := append_many (w := w) t E.ety i z E.k bytes ht hi hz hsz hb hzs E.pos (O a b).u (O a b).n (O a b).xs hown ⟨g, o, none⟩ ls.length c (ls.flatMap E.vs) (flat_len E ls) (fun j u hj => by rw [addr_add]; exact flat_cell E hc hj) (fun u hu => by
        obtain ⟨y, _, hy⟩ := List.mem_flatMap.1 hu
        exact hE y u hy) (by unfold maxLen; omega) (by omega)
      exact ⟨v', W', h1, fin v' W' h2 h3 h4⟩
theorem cut_slice (n m : Nat) (a : Option Addr) (c : Nat) : cut n (.slice a m c) = .slice a n c := rfl

theorem ty_1 (b : Nat) : tyO 1 b = (51, 3) := rfl
theorem ty_2 (b : Nat) : tyO 2 b = (53, 4) := rfl
theorem ty_3 (b : Nat) : tyO 3 b = (55, 2) := rfl
theorem ty_4 (b : Nat) : tyO 4 b = (51, 3) := rfl
theorem roomV_upd (O : Nat → Nat → ObG) (a b : Nat) (o : ObG) (ha : a ≠ 0) : roomV (updG O a b o) = roomV O := by
  unfold roomV
  rw [updG_ne O _ (by omega), updG_ne O _ (by omega), updG_ne O _ (by omega), updG_ne O _ (by omega), updG_ne O _ (by omega), updG_ne O _ (by omega)]
theorem roomV_set (O : Nat → Nat → ObG) (b : Nat) (o : ObG) (hb : b < 6) : roomV (updG O 0 b o) = (roomV O).set b o.u := by
  have : b = 0 ∨ b = 1 ∨ b = 2 ∨ b = 3 ∨ b = 4 ∨ b = 5 := by omega
  rcases this with rfl | rfl | rfl | rfl | rfl | rfl <;> simp [roomV, updG]

/-- A marked place more behind a core's windows. -/
theorem app_win {lo : Nat} {w : World} {O : Nat → Nat → ObG} (h : FamO lo w O) (a b : Nat) (hty : tyO a b = (51, 3)) (z : Int) (hn : (O a b).n ≤ 4294967296) : ∃ v' W', (∀ e, (Builtin.append_ #[43, 43] e #[(O a b).u, .slice (some ⟨w.heap.size, 0, none⟩) 1 1]).run Tryz.prog (w.alloc (.cells #[.int .i64 z, .int .i64 0, .int .i64 0] 51)) = .ok v' W') ∧
    FamO lo W' (updG O a b ⟨v', (O a b).n + 1, (O a b).xs ++ [.int .i64 z, .int .i64 0, .int .i64 0]⟩) ∧ (v'.ownBlock = (O a b).u.ownBlock ∨ v'.ownBlock = none ∨ ∃ k, v'.ownBlock = some k ∧ w.heap.size ≤ k) ∧ Keeps (fun k => some k = (O a b).u.ownBlock) w W' := by
  have := h.app1 a b 43 (.agg #[.int .i64 0, .int .i64 0, .int .i64 0]) 24 (by rw [hty]; exact Tryz.underlying43) (by rw [hty]; exact Tryz.inf40) (by rw [hty]; rfl) (by rw [hty]; decide) (by omega) #[.int .i64 z, .int .i64 0, .int .i64 0] (by rw [hty]; rfl) (by intro u hu; simp at hu; rcases hu with rfl | rfl | rfl <;> rfl) hn
  rw [hty] at this
  exact this
theorem app_rgn {lo : Nat} {w : World} {O : Nat → Nat → ObG} (h : FamO lo w O) (b : Nat) (z : Int) (hn : (O 2 b).n ≤ 4294967296) : ∃ v' W', (∀ e, (Builtin.append_ #[44, 44] e #[(O 2 b).u, .slice (some ⟨w.heap.size, 0, none⟩) 1 1]).run Tryz.prog (w.alloc (.cells #[.int .i64 z, .int .i64 0, .int .i64 0, .int .i64 0] 53)) = .ok v' W') ∧
    FamO lo W' (updG O 2 b ⟨v', (O 2 b).n + 1, (O 2 b).xs ++ [.int .i64 z, .int .i64 0, .int .i64 0, .int .i64 0]⟩) ∧ (v'.ownBlock = (O 2 b).u.ownBlock ∨ v'.ownBlock = none ∨ ∃ k, v'.ownBlock = some k ∧ w.heap.size ≤ k) ∧ Keeps (fun k => some k = (O 2 b).u.ownBlock) w W' :=
  h.app1 2 b 44 (.agg #[.int .i64 0, .int .i64 0, .int .i64 0, .int .i64 0]) 32 Tryz.underlying44 Tryz.inf78 rfl (by rw [ty_2]; decide) (by omega) #[.int .i64 z, .int .i64 0, .int .i64 0, .int .i64 0] rfl (by intro u hu; simp at hu; rcases hu with rfl | rfl | rfl | rfl <;> rfl) hn
theorem app_prt {lo : Nat} {w : World} {O : Nat → Nat → ObG} (h : FamO lo w O) (b : Nat) (z : Int) (hn : (O 3 b).n ≤ 4294967296) : ∃ v' W', (∀ e, (Builtin.append_ #[45, 45] e #[(O 3 b).u, .slice (some ⟨w.heap.size, 0, none⟩) 1 1]).run Tryz.prog (w.alloc (.cells #[.int .i64 z, .bool false] 55)) = .ok v' W') ∧
    FamO lo W' (updG O 3 b ⟨v', (O 3 b).n + 1, (O 3 b).xs ++ [.int .i64 z, .bool false]⟩) ∧ (v'.ownBlock = (O 3 b).u.ownBlock ∨ v'.ownBlock = none ∨ ∃ k, v'.ownBlock = some k ∧ w.heap.size ≤ k) ∧ Keeps (fun k => some k = (O 3 b).u.ownBlock) w W' :=
  h.app1 3 b 45 (.agg #[.int .i64 0, .bool false]) 16 Tryz.underlying45 Tryz.inf80 rfl (by rw [ty_3]; decide) (by omega) #[.int .i64 z, .bool false] rfl (by intro u hu; simp at hu; rcases hu with rfl | rfl <;> rfl) hn
theorem app_chn {lo : Nat} {w : World} {O : Nat → Nat → ObG} (h : FamO lo w O) (z : Int) (hn : (O 0 5).n ≤ 4294967296) : ∃ v' W', (∀ e, (Builtin.append_ #[24, 24] e #[(O 0 5).u, .slice (some ⟨w.heap.size, 0, none⟩) 1 1]).run Tryz.prog (w.alloc (.cells #[.int .i64 z, .int .i64 0, .int .i64 0] 57)) = .ok v' W') ∧
    FamO lo W' (updG O 0 5 ⟨v', (O 0 5).n + 1, (O 0 5).xs ++ [.int .i64 z, .int .i64 0, .int .i64 0]⟩) ∧ (v'.ownBlock = (O 0 5).u.ownBlock ∨ v'.ownBlock = none ∨ ∃ k, v'.ownBlock = some k ∧ w.heap.size ≤ k) ∧ Keeps (fun k => some k = (O 0 5).u.ownBlock) w W' :=
  h.app1 0 5 24 (.agg #[.int .i64 0, .int .i64 0, .int .i64 0]) 24 Tryz.underlying24 Tryz.inf82 rfl (by decide) (by omega) #[.int .i64 z, .int .i64 0, .int .i64 0] rfl (by intro u hu; simp at hu; rcases hu with rfl | rfl | rfl <;> rfl) hn
/-- A list more behind the lists of windows. -/
theorem app_row {lo : Nat} {w : World} {O : Nat → Nat → ObG} (h : FamO lo w O) (b : Nat) (hty : tyO 0 b = (43, 1)) (d : Option Addr) (m c : Nat) (hn : (O 0 b).n ≤ 4294967296) : ∃ v' W', (∀ e, (Builtin.append_ #[22, 22] e #[(O 0 b).u, .slice (some ⟨w.heap.size, 0, none⟩) 1 1]).run Tryz.prog (w.alloc (.cells #[.slice d m c] 43)) = .ok v' W') ∧
    FamO lo W' (updG O 0 b ⟨v', (O 0 b).n + 1, (O 0 b).xs ++ [.slice d m c]⟩) ∧ (v'.ownBlock = (O 0 b).u.ownBlock ∨ v'.ownBlock = none ∨ ∃ k, v'.ownBlock = some k ∧ w.heap.size ≤ k) ∧ Keeps (fun k => some k = (O 0 b).u.ownBlock) w W' := by
  have := h.app1 0 b 22 (.slice none 0 0) 24 (by rw [hty]; exact Tryz.underlying22) (by rw [hty]; exact Tryz.inf38) (by rw [hty]; rfl) (by rw [hty]; decide) (by omega) #[.slice d m c] (by rw [hty]; rfl) (by intro u hu; simp at hu; rw [hu]; rfl) hn
  rw [hty] at this
  exact this
theorem app_rows3 {lo : Nat} {w : World} {O : Nat → Nat → ObG} (h : FamO lo w O) (d : Option Addr) (m c : Nat) (hn : (O 0 3).n ≤ 4294967296) : ∃ v' W', (∀ e, (Builtin.append_ #[33, 33] e #[(O 0 3).u, .slice (some ⟨w.heap.size, 0, none⟩) 1 1]).run Tryz.prog (w.alloc (.cells #[.slice d m c] 44)) = .ok v' W') ∧
    FamO lo W' (updG O 0 3 ⟨v', (O 0 3).n + 1, (O 0 3).xs ++ [.slice d m c]⟩) ∧ (v'.ownBlock = (O 0 3).u.ownBlock ∨ v'.ownBlock = none ∨ ∃ k, v'.ownBlock = some k ∧ w.heap.size ≤ k) ∧ Keeps (fun k => some k = (O 0 3).u.ownBlock) w W' :=
  h.app1 0 3 33 (.slice none 0 0) 24 Tryz.underlying33 Tryz.inf64 rfl (by decide) (by omega) #[.slice d m c] rfl (by intro u hu; simp at hu; rw [hu]; rfl) hn
theorem app_rows4 {lo : Nat} {w : World} {O : Nat → Nat → ObG} (h : FamO lo w O) (d : Option Addr) (m c : Nat) (hn : (O 0 4).n ≤ 4294967296) : ∃ v' W', (∀ e, (Builtin.append_ #[34, 34] e #[(O 0 4).u, .slice (some ⟨w.heap.size, 0, none⟩) 1 1]).run Tryz.prog (w.alloc (.cells #[.slice d m c] 45)) = .ok v' W') ∧
    FamO lo W' (updG O 0 4 ⟨v', (O 0 4).n + 1, (O 0 4).xs ++ [.slice d m c]⟩) ∧ (v'.ownBlock = (O 0 4).u.ownBlock ∨ v'.ownBlock = none ∨ ∃ k, v'.ownBlock = some k ∧ w.heap.size ≤ k) ∧ Keeps (fun k => some k = (O 0 4).u.ownBlock) w W' :=
  h.app1 0 4 34 (.slice none 0 0) 24 Tryz.underlying34 Tryz.inf65 rfl (by decide) (by omega) #[.slice d m c] rfl (by intro u hu; simp at hu; rw [hu]; rfl) hn
theorem app_par {lo : Nat} {w : World} {O : Nat → Nat → ObG} (h : FamO lo w O) (nm : ByteArray) (a1 a2 a3 a4 a5 : Int) (d : Option Addr) (m c : Nat) (d2 : Option Addr) (m2 c2 : Nat) (hn : (O 0 2).n ≤ 4294967296) : ∃ v' W', (∀ e, (Builtin.append_ #[23, 23] e #[(O 0 2).u, .slice (some ⟨w.heap.size, 0, none⟩) 1 1]).run Tryz.prog (w.alloc (.cells #[.string nm, .int .i64 a1, .int .i64 a2, .int .i64 a3, .int .i64 a4, .int .i64 a5, .slice d m c, .slice d2 m2 c2] 47)) = .ok v' W') ∧
    FamO lo W' (updG O 0 2 ⟨v', (O 0 2).n + 1, (O 0 2).xs ++ [.string nm, .int .i64 a1, .int .i64 a2, .int .i64 a3, .int .i64 a4, .int .i64 a5, .slice d m c, .slice d2 m2 c2]⟩) ∧ (v'.ownBlock = (O 0 2).u.ownBlock ∨ v'.ownBlock = none ∨ ∃ k, v'.ownBlock = some k ∧ w.heap.size ≤ k) ∧ Keeps (fun k => some k = (O 0 2).u.ownBlock) w W' :=
  h.app1 0 2 23 _ 104 Tryz.underlying23 Tryz.inf67 rfl (by decide) (by omega) #[.string nm, .int .i64 a1, .int .i64 a2, .int .i64 a3, .int .i64 a4, .int .i64 a5, .slice d m c, .slice d2 m2 c2] rfl (by intro u hu; simp at hu; rcases hu with rfl | rfl | rfl | rfl | rfl | rfl | rfl | rfl <;> rfl) hn
end Go.Proofs.YtjadpbkhfclldaaGreat
