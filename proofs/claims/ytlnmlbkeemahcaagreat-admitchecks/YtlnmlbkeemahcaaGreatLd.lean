import Derived.Test.YtlnmlbkeemahcaaGreatLb
import Derived.Test.YtlnmlbkeemahcaaGreatCq
import Derived.Test.YtlnmlbkeemahcaaGreatCn
import Derived.Test.YtlnmlbkeemahcaaGreatQeWin
namespace Go.Proofs.YtlnmlbkeemahcaaGreat
open Go.RowKit
set_option linter.unusedVariables false
set_option linter.unusedSimpArgs false
set_option maxRecDepth 6000
def RetK (v : Value) (w : World) (e : Ending) (w' : World) : Prop := e = .returned v ∧ KF w w'
theorem chM_any (k : Nat) (hk : k ≤ 281474976710656) (w : World) : Calls Tryz.prog 9 #[.int .i64 k] w (RetK (.agg #[.int .i64 (k : Int), .int .i64 (-(k : Int)), .int .i64 (k : Int)]) w) := by
 have h1 : (k : Int) ≤ 281474976710656 := by omega
 clear hk
 go_enter Tryz.func9, Tryz.ntmps9
 go_wp2
 have hB := Blk.new w #[.int .i64 (k : Int), .int .i64 (-(k : Int)), .int .i64 (k : Int)] 48
 refine bodyPost_ret (results_cell_row rfl _ _ w.heap.size 48 _ (0, 0) _ rfl hB Tryz.underlying48 rfl (by kernel_rfl)) rfl ?_
 exact ⟨rfl, (Keeps.refl _ _).alloc _⟩
theorem wiM_any (k : Nat) (hk : k ≤ 281474976710656) (w : World) : Calls Tryz.prog 11 #[.int .i64 k] w (RetK (.agg #[.int .i64 (-(k : Int)), .int .i64 (k : Int), .int .i64 (-(k : Int))]) w) := by
 have h1 : (k : Int) ≤ 281474976710656 := by omega
 clear hk
 go_enter Tryz.func11, Tryz.ntmps11
 go_wp2
 have hB := Blk.new w #[.int .i64 (-(k : Int)), .int .i64 (k : Int), .int .i64 (-(k : Int))] 44
 refine bodyPost_ret (results_cell_row rfl _ _ w.heap.size 44 _ (0, 0) _ rfl hB Tryz.underlying44 rfl (by kernel_rfl)) rfl ?_
 exact ⟨rfl, (Keeps.refl _ _).alloc _⟩
theorem rgM_any (k : Nat) (hk : k ≤ 281474976710656) (w : World) : Calls Tryz.prog 13 #[.int .i64 k] w (RetK (.agg #[.int .i64 (-(k : Int)), .int .i64 (k : Int), .int .i64 (-(k : Int)), .int .i64 (k : Int)]) w) := by
 have h1 : (k : Int) ≤ 281474976710656 := by omega
 clear hk
 go_enter Tryz.func13, Tryz.ntmps13
 go_wp2
 have hB := Blk.new w #[.int .i64 (-(k : Int)), .int .i64 (k : Int), .int .i64 (-(k : Int)), .int .i64 (k : Int)] 54
 refine bodyPost_ret (results_cell_row rfl _ _ w.heap.size 54 _ (0, 0) _ rfl hB Tryz.underlying54 rfl (by kernel_rfl)) rfl ?_
 exact ⟨rfl, (Keeps.refl _ _).alloc _⟩
theorem poM_any (k : Nat) (hk : k ≤ 281474976710656) (w : World) : Calls Tryz.prog 14 #[.int .i64 k] w (RetK (.agg #[.int .i64 (-(k : Int)), .bool false]) w) := by
 have h1 : (k : Int) ≤ 281474976710656 := by omega
 clear hk
 go_enter Tryz.func14, Tryz.ntmps14
 go_wp2
 have hB := Blk.new w #[.int .i64 (-(k : Int)), .bool false] 57
 refine bodyPost_ret (results_cell_row rfl _ _ w.heap.size 57 _ (0, 0) _ rfl hB Tryz.underlying57 rfl (by kernel_rfl)) rfl ?_
 exact ⟨rfl, (Keeps.refl _ _).alloc _⟩
theorem paM_any (k : Nat) (hk : k ≤ 281474976710656) (w : World) : Calls Tryz.prog 12 #[.int .i64 k] w (RetK (.agg #[.string { data := #[] }, .int .i64 (-1000 - (k : Int)), .int .i64 0, .int .i64 0, .int .i64 0, .int .i64 0, .slice none 0 0, .slice none 0 0]) w) := by
 have h1 : (k : Int) ≤ 281474976710656 := by omega
 clear hk
 go_enter Tryz.func12, Tryz.ntmps12
 go_wp2
 have hB := Blk.new w #[.string { data := #[] }, .int .i64 (-1000 - (k : Int)), .int .i64 0, .int .i64 0, .int .i64 0, .int .i64 0, .slice none 0 0, .slice none 0 0] 41
 refine bodyPost_ret (results_cell_row rfl _ _ w.heap.size 41 _ (0, 0) _ rfl hB Tryz.underlying41 rfl (by kernel_rfl)) rfl ?_
 exact ⟨rfl, (Keeps.refl _ _).alloc _⟩
def CoM (k : Nat) (w : World) (e : Ending) (w' : World) : Prop := ∃ g, e = .returned (.slice (some ⟨g, 0, none⟩) 1 1) ∧ w.heap.size ≤ g ∧ Blk w' g (wM k) 44 ∧ KF w w'
theorem coM_any (k : Nat) (hk : k ≤ 281474976710656) (w : World) : Calls Tryz.prog 10 #[.int .i64 k] w (CoM k w) := by
 have h1 : (k : Int) ≤ 281474976710656 := by omega
 have HK : Hid (k ≤ 281474976710656) := hk
 clear hk
 go_enter Tryz.func10, Tryz.ntmps10
 go_wp2_with fail
 refine (wiM_any k HK.out _).mono ?_
 rintro e w1 ⟨rfl, hK⟩
 have HK1 : Hid (KF w w1) := hK
 clear hK
 go_wp2
 go_ret
 exact ⟨w1.heap.size, rfl, HK1.out.size, Blk.new w1 _ 44, HK1.out.alloc _⟩
theorem run_mk {t e : TypeId} {z : Value} {n b : Nat} (ht : Tryz.prog.underlying t = some (.slice e)) (hinf : (Tryz.prog.info? e).map (fun i => (i.zero, i.size, i.bytes)) = some (some z, n, b)) (hb : b ≤ 32) (w : World) (L : Nat) (hL : L * b ≤ 281474976710656) (hL2 : L ≤ 281474976710656) :
  ∃ l : List Value, l.length = L * n ∧ (Instr.makeSlice t (.int .i64 (L : Int)) (.int .i64 (L : Int))).run Tryz.prog w = .ok (.slice (some ⟨w.heap.size, 0, none⟩) L L) (w.alloc (.cells l.toArray e)) := by
 obtain ⟨i, hi, hz, hs, hby⟩ := info_parts hinf
 refine ⟨(madeCells z.cells (L * n)).toList, by rw [Array.length_toList, size_madeCells], ?_⟩
 have h := run_make (P := Tryz.prog) w t e i z ht hi hz .i64 .i64 L L (by omega) (by omega) (by rw [hby, ← Int.natCast_mul, Nat.mul_comm]; omega) (by omega)
 rw [Int.toNat_natCast, hs] at h
 rw [Array.toArray_toList]
 exact h
theorem run_copy_big {w : World} (dT ty elem : TypeId) (k : Nat) (hk : 0 < k) (g dLen dCap : Nat) (a : Option Addr) (sLen sCap : Nat) (cur : List Value) (t : TypeId) (cs : List Value)
  (hu : Tryz.prog.underlying dT = some (.slice elem)) (hs : (Tryz.prog.info? elem).map (·.size) = some k) (hg : Blk w g cur t) (hn : cs.length = sLen * k) (hle : sLen ≤ dLen)
  (hsrc : cs = [] ∨ ∃ b p, a = some ⟨b, p, none⟩ ∧ ∀ j v, cs[j]? = some v → w.cell? ⟨b, p + j, none⟩ = some v) (hfit : cs.length ≤ cur.length) (h1 : ∀ v ∈ cs, v.oneCell' = true) :
  (Builtin.copy_ #[dT, dT] ty #[.slice (some ⟨g, 0, none⟩) dLen dCap, .slice a sLen sCap]).run Tryz.prog w = .ok (goInt sLen) (w.setRow g (cs ++ cur.drop cs.length).toArray) := by
 have hmin : min sLen dLen = sLen := by omega
 have hst := run_storeCells_at Tryz.prog g 0 t cs 0 cur.toArray w hg (by simpa using hfit) h1
 simp only [Nat.zero_add, List.take_zero, List.nil_append, Nat.add_zero] at hst
 cases hq : Tryz.prog.info? elem with
 | none => simp [hq] at hs
 | some i =>
  have hi : i.size = k := by simpa [hq] using hs
  rcases hsrc with rfl | ⟨b, p, rfl, hc⟩
  ·
   have h0 : sLen = 0 := by
    have : sLen * k = 0 := by simpa using hn.symm
    rcases Nat.mul_eq_zero.1 this with h | h
    ·
     exact h
    ·
     omega
   subst h0
   cases a with
   | none => simp [Builtin.copy_, run_underlying hu, Builtin.lenOf, Builtin.firstCells, sizeOf, typeInfo, hq, hst]
   | some x => simp [Builtin.copy_, run_underlying hu, Builtin.lenOf, Builtin.firstCells, sizeOf, typeInfo, hq, hst, loadCells, loadCellsFrom]
  ·
   have hl := run_loadCells_list (P := Tryz.prog) w ⟨b, p, none⟩ cs (fun j v hj => by rw [addr_add]; exact hc j v hj)
   rw [hn] at hl
   simp [Builtin.copy_, run_underlying hu, Builtin.lenOf, Builtin.firstCells, sizeOf, typeInfo, hq, hi, hmin, hl, hst]
theorem seg_src {α : Type} (E : Elem α) {w : World} {a : Option Addr} {ls : List α} (h : SegA E.vs E.k w a ls) : ls.flatMap E.vs = [] ∨ ∃ b p, a = some ⟨b, p, none⟩ ∧ ∀ j v, (ls.flatMap E.vs)[j]? = some v → w.cell? ⟨b, p + j, none⟩ = some v := by
 rcases h with h | ⟨g, o, ha, hc⟩
 ·
  rw [h]; exact .inl rfl
 ·
  exact .inr ⟨g, o, ha, fun j v hj => flat_cell E hc hj⟩
theorem plain_one {α : Type} {E : Elem α} (hE : Plain E) (ls : List α) : ∀ v ∈ ls.flatMap E.vs, v.oneCell' = true := fun v hv => by
 obtain ⟨y, _, hy⟩ := List.mem_flatMap.1 hv
 exact hE.1 y v hy
theorem fl_copy {α : Type} (E : Elem α) (M : Nat → List Value) (ls : List α) (xs : List Value) (n : Nat) (u : Value) (hn : n = ls.length + 24) (h : ∀ k, k < ls.length + 24 → At xs E.k k (M k)) : Fl E M ls ⟨u, n, ls.flatMap E.vs ++ xs.drop (ls.flatMap E.vs).length⟩ := by
 refine ⟨hn, fun k y hy i v hv => ?_, fun k hk hk2 i v hv => ?_⟩
 ·
  have h1 := flat_get E ls k y i v hy hv
  dsimp only
  rw [List.getElem?_append_left (List.getElem?_eq_some_iff.1 h1).1]
  exact h1
 ·
  have h1 := h k hk2 i v hv
  have h2 : ls.length * E.k ≤ k * E.k := Nat.mul_le_mul_right _ hk
  dsimp only
  rw [List.getElem?_append_right (by rw [flat_len]; omega), List.getElem?_drop, flat_len, show ls.length * E.k + (k * E.k + i - ls.length * E.k) = k * E.k + i by omega]
  exact h1
def zLent : List Value := [.int .i64 0, .int .i64 0, .int .i64 0, .int .i64 0, .slice none 0 0, .slice none 0 0, .slice none 0 0, .slice none 0 0, .slice none 0 0, .slice none 0 0, .slice none 0 0, .slice none 0 0, .slice none 0 0]
def lentV (x : Cfg) (a b c : Value) (O : Nat → Nat → ObG) : List Value := [.int .i64 x.frames, .int .i64 x.major, .int .i64 x.kernel, .int .i64 x.room, a, b, c, (O 0 0).u, (O 0 1).u, (O 0 2).u, (O 0 3).u, (O 0 4).u, (O 0 5).u]
structure LeI (w : World) (x : Cfg) (C A R lo N : Nat) (a b c : Value) (O : Nat → Nat → ObG) (wr : World) : Prop where
 cfg : Blk wr C x.vs 26
 res : Blk wr A zLent 30
 room : Blk wr R (lentV x a b c O) 30
 fam : FamO lo wr O
 keeps : KF w wr
 cin : x.In wr N
 nn : N ≤ w.heap.size
 ord : w.heap.size ≤ C ∧ C < A ∧ A < R ∧ R < lo
section
variable {w : World} {x : Cfg} {C A R lo N : Nat} {a b c a' b' c' : Value} {O O' : Nat → Nat → ObG} {wr W : World}
theorem LeI.kept (h : LeI w x C A R lo N a b c O wr) (hK : KF wr W) : LeI w x C A R lo N a b c O W :=
 ⟨h.cfg.kept hK fun h => h, h.res.kept hK fun h => h, h.room.kept hK fun h => h, h.fam.kept hK fun _ _ _ _ h => h, h.keeps.trans hK fun _ _ h => h, h.cin.keeps (Nat.le_trans h.nn h.keeps.size) hK, h.nn, h.ord⟩
theorem LeI.inner (h : LeI w x C A R lo N a b c O wr) (hF : FamO lo W O') (hK : Keeps (fun k => lo ≤ k) wr W) (hs : lentV x a b c O' = lentV x a b c O) : LeI w x C A R lo N a b c O' W := by
 have ho := h.ord
 refine ⟨h.cfg.kept hK (by omega), h.res.kept hK (by omega), by rw [hs]; exact h.room.kept hK (by omega), hF, h.keeps.trans hK fun b hb e => by omega, h.cin.below (hK.below (Nat.le_trans h.nn h.keeps.size) fun b e => by have := h.nn; omega), h.nn, h.ord⟩
theorem LeI.put (h : LeI w x C A R lo N a b c O wr) (hF : FamO lo W O') (hK : Keeps (fun k => lo ≤ k) wr W) (i : Nat) (v : Value) (hs : lentV x a' b' c' O' = (lentV x a b c O).set i v) : LeI w x C A R lo N a' b' c' O' (W.setCell ⟨R, i, none⟩ v) := by
 have ho := h.ord
 have hK2 : Keeps (fun k => k = R) W (W.setCell ⟨R, i, none⟩ v) := (Keeps.refl _ W).setCell ⟨R, i, none⟩ v fun _ => rfl
 have hK3 : Keeps (fun k => k = R ∨ lo ≤ k) wr (W.setCell ⟨R, i, none⟩ v) := (hK.mono fun _ _ h => .inr h).trans hK2 fun _ _ h => .inl h
 have hR := (h.room.kept hK (by omega)).setCell i v
 rw [← hs] at hR
 refine ⟨h.cfg.kept hK3 (by omega), h.res.kept hK3 (by omega), hR, hF.keptLo hK2 fun k e => by omega, h.keeps.trans hK3 fun b hb e => by omega, h.cin.below (hK3.below (Nat.le_trans h.nn h.keeps.size) fun b e => by have := h.nn; omega), h.nn, h.ord⟩
end
theorem lentV_upd (x : Cfg) (a b c : Value) (O : Nat → Nat → ObG) (p q : Nat) (o : ObG) (ha : p ≠ 0) : lentV x a b c (updG O p q o) = lentV x a b c O := by
 unfold lentV
 rw [updG_ne O _ (by omega), updG_ne O _ (by omega), updG_ne O _ (by omega), updG_ne O _ (by omega), updG_ne O _ (by omega), updG_ne O _ (by omega)]
theorem lentV_set (x : Cfg) (a b c : Value) (O : Nat → Nat → ObG) (q : Nat) (o : ObG) (hb : q < 6) : lentV x a b c (updG O 0 q o) = (lentV x a b c O).set (7 + q) o.u := by
 have : q = 0 ∨ q = 1 ∨ q = 2 ∨ q = 3 ∨ q = 4 ∨ q = 5 := by omega
 rcases this with rfl | rfl | rfl | rfl | rfl | rfl <;> simp [lentV, updG]
theorem hk {P : Program} {md : Region.Mode} {ops : Array Oper} {Q : Exit → Act → World → Prop} {S : World → Prop} {oi : Oper} {fuel : Nat} {listed : Array Bool} {a : Act} {w : World} (i : Nat) (v : Value) (hS : S w) (h : wpAnyH P md ops Q S fuel (listed.setIfInBounds i true) (a.put oi.dst v) w)
  (hi : ops[i]? = some oi := by (simp only [List.getElem?_toArray, List.getElem?_cons_succ, List.getElem?_cons_zero]; exact rfl))
  (hs : Region.noSelect ops = true := by kernel_rfl) (hf : Region.free md ops listed i = true := by kernel_rfl) (hc : (Region.ready md ops listed).contains i = true := by kernel_rfl)
  (hQ : ∀ c a w, Q (.panic c) (a.put oi.dst v) w → Q (.panic c) a w := by exact fun _ _ _ h => h) (hg : Region.wanted oi (yielded ops a.tmps) = true := by kernel_rfl)
  (hr : ∀ w, S w → (execOp a.eval oi).run P w = .ok (.value v) w := by (intro w hSw; (try dsimp only at hSw); go_simp; try omega)) : wpAnyH P md ops Q S (fuel + 1) listed a w :=
 wpAnyH_take hi hs hf hc hQ (Or.inl ⟨hg, hr⟩) hS h
theorem hn {P : Program} {md : Region.Mode} {ops : Array Oper} {Q : Exit → Act → World → Prop} {S : World → Prop} {oi : Oper} {fuel : Nat} {listed : Array Bool} {a : Act} {w : World} (i : Nat) (hS : S w) (h : wpAnyH P md ops Q S fuel (listed.setIfInBounds i true) (a.put oi.dst undef) w)
  (hi : ops[i]? = some oi := by (simp only [List.getElem?_toArray, List.getElem?_cons_succ, List.getElem?_cons_zero]; exact rfl))
  (hs : Region.noSelect ops = true := by kernel_rfl) (hf : Region.free md ops listed i = true := by kernel_rfl) (hc : (Region.ready md ops listed).contains i = true := by kernel_rfl)
  (hQ : ∀ c a w, Q (.panic c) (a.put oi.dst undef) w → Q (.panic c) a w := by exact fun _ _ _ h => h) (hg : Region.wanted oi (yielded ops a.tmps) = false := by kernel_rfl) : wpAnyH P md ops Q S (fuel + 1) listed a w :=
 wpAnyH_take hi hs hf hc hQ (Or.inr ⟨hg, rfl⟩) hS h
theorem wp_append_run {o : Oper} {a : Act} {K : Act → World → Prop} {Q : Exit → Act → World → Prop} {P : Program} {w : World} (s x : Operand) (t k : TypeId)
  (ho : o.op = .call { callee := .builtin .append, args := #[s, x], argTypes := #[t, k] }) (vs vx v' : Value) (w' : World) (hs : a.eval s = vs) (hx : a.eval x = vx)
  (hr : ∀ ty, (Builtin.append_ #[t, k] ty #[vs, vx]).run P w = .ok v' w') (h : K (a.put o.dst v') w') : Oper.wp P o a w K Q := by
 unfold Oper.wp execOp
 simp only [ho, resolve, invoke, builtin, Sem.run_bind, Sem.run_pure, Result.andThen_ok, List.map_toArray, List.map_cons, List.map_nil, hs, hx, hr]
 exact h
theorem wpList_store_mid {P : Program} {ops : Array Oper} {rest : List Oper} {o : Oper} {a : Act} {w : World} {Q : Exit → Act → World → Prop} (hgd : o.guard = none) (ty : TypeId) (x y : Operand) (ho : o.op = .store ty x y)
  (g off : Nat) (cells : List Value) (hx : a.eval x = .pointer (some ⟨g, off, none⟩)) (hy : a.eval y = .agg cells.toArray)
  (t : TypeId) (old : List Value) (hg : Blk w g old t) (hi : (P.info? ty).map (·.size) = some cells.length) (hold : off + cells.length ≤ old.length) (h1 : ∀ v ∈ cells, v.oneCell' = true)
  (h : wpList P ops Q rest (a.put o.dst undef) (w.setRow g (old.take off ++ cells ++ old.drop (off + cells.length)).toArray)) : wpList P ops Q (o :: rest) a w :=
 wpList_plain hgd fun _ hK => wp_store_mid ty x y ho g off cells hx hy t old hg hi hold h1 (hK _ _ h)
theorem Tryz.sz44 : (Tryz.prog.info? 44).map (·.size) = some 3 := by kernel_rfl
theorem Tryz.sz54 : (Tryz.prog.info? 54).map (·.size) = some 4 := by kernel_rfl
theorem Tryz.sz57 : (Tryz.prog.info? 57).map (·.size) = some 2 := by kernel_rfl
theorem Tryz.sz48 : (Tryz.prog.info? 48).map (·.size) = some 3 := by kernel_rfl
theorem Fam.copy {α : Type} {ty : Nat → Nat → TypeId × Nat} {lo : Nat} {w : World} {O : Nat → Nat → ObG} (E : Elem α) (hE : Plain E) (h : Fam ty lo w O) (a b : Nat) (hty : ty a b = (E.ety, E.k)) (t : TypeId) (ht : Tryz.prog.underlying t = some (.slice E.ety)) (hsz : (Tryz.prog.info? E.ety).map (·.size) = some E.k)
  (ad : Option Addr) (ls : List α) (c : Nat) (hseg : SegA E.vs E.k w ad ls) (hle : ls.length ≤ (O a b).n) (hpos : 0 < (O a b).n) :
  ∃ W', (∀ e, (Builtin.copy_ #[t, t] e #[(O a b).u, .slice ad ls.length c]).run Tryz.prog w = .ok (goInt ls.length) W') ∧ Fam ty lo W' (updG O a b ⟨(O a b).u, (O a b).n, ls.flatMap E.vs ++ (O a b).xs.drop (ls.flatMap E.vs).length⟩) ∧ Keeps (fun k => some k = (O a b).u.ownBlock) w W' := by
 have hown := h.own a b
 have hlen := hown.1
 rcases hown.2 with ⟨e, h0⟩ | ⟨g, cap, cur, e, hb, hg, h3, h4, h5, h6⟩
 ·
  omega
 ·
  rw [hty] at h5 h6 hg hlen
  dsimp only at h5 h6 hg hlen
  have hB : Blk w g cur.toList E.ety := by unfold Blk; rw [Array.toArray_toList]; exact hg
  have hfl := flat_len E ls
  have h5x : cur.toList.length = cap * E.k := by rw [Array.length_toList]; exact h5
  have hm1 : ls.length * E.k ≤ (O a b).n * E.k := Nat.mul_le_mul_right _ hle
  have hm2 : (O a b).n * E.k ≤ cap * E.k := Nat.mul_le_mul_right _ h3
  have hK : Keeps (fun k => some k = (O a b).u.ownBlock) w (w.setRow g (ls.flatMap E.vs ++ cur.toList.drop (ls.flatMap E.vs).length).toArray) := (Keeps.refl _ w).setRow g _ fun _ => by rw [e]; rfl
  refine ⟨_, fun ty => by rw [e]; exact run_copy_big t ty E.ety E.k E.pos g _ cap ad ls.length c cur.toList E.ety (ls.flatMap E.vs) ht hsz hB hfl hle (seg_src E hseg) (by omega) (plain_one hE ls), ?_, hK⟩
  refine h.grow a b ?_ (.inl rfl) hK
  rw [hty]
  refine ⟨by simp only [List.length_append, List.length_drop]; omega, .inr ⟨g, cap, _, e, hb, hB.setRow _, h3, h4, ?_, ?_⟩⟩
  ·
   simp only [List.size_toArray, List.length_append, List.length_drop, Array.length_toList]; omega
  ·
   simp only
   rw [List.take_append, List.take_of_length_le (by omega), ← h6, List.drop_take]
theorem LeI.app {w : World} {x : Cfg} {C A R lo N : Nat} {a b c : Value} {O : Nat → Nat → ObG} {wr : World} (h : LeI w x C A R lo N a b c O wr) (q i : Nat) (hq : q < 6) (hi : i = 7 + q) (t : TypeId) (z : Value) (bytes : Nat) (ht : Tryz.prog.underlying t = some (.slice (tyO 0 q).1)) (hinf : (Tryz.prog.info? (tyO 0 q).1).map (fun i => (i.zero, i.size, i.bytes)) = some (some z, (tyO 0 q).2, bytes))
  (hzs : z.cells.size = (tyO 0 q).2) (h0 : 0 < (tyO 0 q).2) (xs : Array Value) (hl : xs.size = (tyO 0 q).2) (h1 : ∀ u ∈ xs.toList, u.oneCell' = true) {j : Nat} {d : Option Addr} {p : Nat} (hn : (O 0 q).n = j) (he : (O 0 q).u = .slice d j p) (hj : j ≤ 281474976710656) (hby : (j + 1) * bytes ≤ 140737488355328) :
  ∃ d2 p2 W', (∀ e, (Builtin.append_ #[t, t] e #[.slice d j p, .slice (some ⟨wr.heap.size, 0, none⟩) 1 1]).run Tryz.prog (wr.alloc (.cells xs (tyO 0 q).1)) = .ok (.slice d2 (j + 1) p2) W') ∧ W'.cell? ⟨R, i, none⟩ = some (.slice d j p) ∧ W'.frozen? ⟨R, i, none⟩ = false ∧
   LeI w x C A R lo N a b c (updG O 0 q ⟨.slice d2 (j + 1) p2, j + 1, (O 0 q).xs ++ xs.toList⟩) (W'.setCell ⟨R, i, none⟩ (.slice d2 (j + 1) p2)) ∧ (O 0 q).xs.length = j * (tyO 0 q).2 ∧
   ((Value.slice d2 (j + 1) p2).ownBlock = (O 0 q).u.ownBlock ∨ (Value.slice d2 (j + 1) p2).ownBlock = none ∨ ∃ k, (Value.slice d2 (j + 1) p2).ownBlock = some k ∧ wr.heap.size ≤ k) ∧ Keeps (fun k => some k = (O 0 q).u.ownBlock) wr W' := by
 obtain ⟨v', W', hr, hF, hfr, hK⟩ := h.fam.app1 0 q t z bytes ht hinf hzs h0 xs hl h1 (by rw [hn]; unfold maxLen; omega) (by rw [hn]; exact hby)
 have hlen := h.fam.len 0 q
 rw [hn] at hF hlen
 obtain ⟨d2, p2, e2, _, _⟩ := hF.form 0 q
 rw [updG_self] at e2
 dsimp only at e2
 subst e2
 have hB := h.room.kept (keeps_lo h.fam 0 q hK) (by have := h.ord; omega)
 have hc : (lentV x a b c O)[i]? = some (.slice d j p) := by
  rw [← he, hi]
  have : q = 0 ∨ q = 1 ∨ q = 2 ∨ q = 3 ∨ q = 4 ∨ q = 5 := by omega
  rcases this with rfl | rfl | rfl | rfl | rfl | rfl <;> rfl
 refine ⟨d2, p2, W', fun e => by rw [← he]; exact hr e, hB.cell hc, hB.frozen i, h.put hF (keeps_lo h.fam 0 q hK) i _ (by rw [hi]; exact lentV_set x a b c O q _ hq), hlen, hfr, hK⟩
end Go.Proofs.YtlnmlbkeemahcaaGreat
