import Derived.Test.YtjadpbkhfclldaaGreatRo
namespace Go.Proofs.YtjadpbkhfclldaaGreat
open Go.RowKit
set_option linter.unusedVariables false
set_option linter.unusedSimpArgs false
set_option maxRecDepth 6000

theorem cell_kept {S : Nat → Prop} {w w' : World} {a : Addr} {v : Value} (h : w.cell? a = some v) (hK : Keeps S w w') (hn : ¬ S a.block) : w'.cell? a = some v := by
  rw [World.cell?_of_block (w := w) (hK.block a.block (World.block_lt_of_cell? w a h) hn)]
  exact h

/-! ### A family of rows of one's own, each in a block of its own -/
structure ObG where
  u : Value
  n : Nat
  xs : List Value
def ObG.nil : ObG := ⟨.slice none 0 0, 0, []⟩
structure Fam (ty : Nat → Nat → TypeId × Nat) (lo : Nat) (w : World) (O : Nat → Nat → ObG) : Prop where
  own : ∀ a b, w.ownsRow 0 (ty a b).1 (ty a b).2 (O a b).u (O a b).n (O a b).xs
  dis : ∀ a b c d k, ¬ (a = c ∧ b = d) → (O a b).u.ownBlock = some k → (O c d).u.ownBlock ≠ some k
  low : ∀ a b k, (O a b).u.ownBlock = some k → lo ≤ k
  siz : lo ≤ w.heap.size
def updG (O : Nat → Nat → ObG) (a b : Nat) (o : ObG) : Nat → Nat → ObG := fun c d => if c = a ∧ d = b then o else O c d
theorem updG_self (O : Nat → Nat → ObG) (a b : Nat) (o : ObG) : updG O a b o a b = o := by unfold updG; rw [if_pos ⟨rfl, rfl⟩]
theorem updG_ne (O : Nat → Nat → ObG) {a b c d : Nat} (o : ObG) (h : ¬ (c = a ∧ d = b)) : updG O a b o c d = O c d := by unfold updG; rw [if_neg h]

theorem own_lt {w : World} {e : TypeId} {s n : Nat} {v : Value} {xs : List Value} (h : w.ownsRow 0 e s v n xs) {k : Nat} (hv : v.ownBlock = some k) : k < w.heap.size := by
  rcases h.2 with ⟨h2, _⟩ | ⟨g, cap, cur, h2, _, h3, _⟩
  · rw [h2] at hv; cases hv
  · rw [h2] at hv; cases hv
    exact (Array.getElem?_eq_some_iff.1 h3).1

section
variable {ty : Nat → Nat → TypeId × Nat} {lo : Nat} {w w' W : World} {O : Nat → Nat → ObG}
theorem Fam.start (ty : Nat → Nat → TypeId × Nat) (w : World) : Fam ty w.heap.size w (fun _ _ => ObG.nil) :=
  ⟨fun a b => World.ownsRow_nil w 0 _ _, fun a b c d k _ h => (by cases h), fun a b k h => (by cases h), Nat.le_refl _⟩
theorem Fam.kept {S : Nat → Prop} (h : Fam ty lo w O) (hK : Keeps S w w') (hS : ∀ a b k, (O a b).u.ownBlock = some k → ¬ S k) : Fam ty lo w' O :=
  ⟨fun a b => owns_kept (h.own a b) hK (hS a b), h.dis, h.low, Nat.le_trans h.siz hK.size⟩
theorem Fam.keptLo {S : Nat → Prop} (h : Fam ty lo w O) (hK : Keeps S w w') (hS : ∀ k, S k → k < lo) : Fam ty lo w' O :=
  h.kept hK fun a b k hk hs => by have := h.low a b k hk; have := hS k hs; omega
theorem Fam.lt (h : Fam ty lo w O) {a b k : Nat} (hk : (O a b).u.ownBlock = some k) : k < w.heap.size := own_lt (h.own a b) hk
/-- One of them has changed. -/
theorem Fam.grow (h : Fam ty lo w O) (a b : Nat) {v' : Value} {n' : Nat} {ys : List Value} (hown : W.ownsRow 0 (ty a b).1 (ty a b).2 v' n' ys)
    (hfr : v'.ownBlock = (O a b).u.ownBlock ∨ v'.ownBlock = none ∨ ∃ k, v'.ownBlock = some k ∧ w.heap.size ≤ k) (hK : Keeps (fun k => some k = (O a b).u.ownBlock) w W) : Fam ty lo W (updG O a b ⟨v', n', ys⟩) := by
  have hb : ∀ k, v'.ownBlock = some k → (O a b).u.ownBlock = some k ∨ w.heap.size ≤ k := by
    intro k hk
    rcases hfr with e | e | ⟨m, e, hm⟩
    · exact .inl (e ▸ hk)
    · rw [e] at hk; cases hk
    · rw [e] at hk; cases hk; exact .inr hm
  refine ⟨fun c d => ?_, fun c d p q k hne hk hk2 => ?_, fun c d k hk => ?_, Nat.le_trans h.siz hK.size⟩
  · by_cases e : c = a ∧ d = b
    · obtain ⟨rfl, rfl⟩ := e
      rw [updG_self]; exact hown
    · rw [updG_ne O _ e]
      exact owns_kept (h.own c d) hK fun k hk e2 => h.dis c d a b k e hk e2.symm
  · by_cases e : c = a ∧ d = b
    · obtain ⟨rfl, rfl⟩ := e
      rw [updG_self] at hk
      have e2 : ¬ (p = c ∧ q = d) := fun e3 => hne ⟨e3.1.symm, e3.2.symm⟩
      rw [updG_ne O _ e2] at hk2
      rcases hb k hk with h1 | h1
      · exact h.dis c d p q k hne h1 hk2
      · have := h.lt hk2; omega
    · rw [updG_ne O _ e] at hk
      by_cases e2 : p = a ∧ q = b
      · obtain ⟨rfl, rfl⟩ := e2
        rw [updG_self] at hk2
        rcases hb k hk2 with h1 | h1
        · exact h.dis c d p q k hne hk h1
        · have := h.lt hk; omega
      · rw [updG_ne O _ e2] at hk2
        exact h.dis c d p q k hne hk hk2
  · by_cases e : c = a ∧ d = b
    · obtain ⟨rfl, rfl⟩ := e
      rw [updG_self] at hk
      rcases hb k hk with h1 | h1
      · exact h.low c d k h1
      · exact Nat.le_trans h.siz h1
    · rw [updG_ne O _ e] at hk
      exact h.low c d k hk
/-- No row of the family lies in this block. -/
def Out (w : World) (O : Nat → Nat → ObG) (k : Nat) : Prop := k < w.heap.size ∧ ∀ a b, (O a b).u.ownBlock ≠ some k
theorem Fam.outLo (h : Fam ty lo w O) {k : Nat} (hk : k < lo) : Out w O k := ⟨Nat.lt_of_lt_of_le hk h.siz, fun a b e => by have := h.low a b k e; omega⟩
theorem Fam.outNew (h : Fam ty lo w O) (hK : Keeps (fun _ => False) w w') {k : Nat} (hk : w.heap.size ≤ k) (hk2 : k < w'.heap.size) : Out w' O k := ⟨hk2, fun a b e => by have := h.lt e; omega⟩
theorem Out.grow {k : Nat} (h : Out w O k) (a b : Nat) {v' : Value} {n' : Nat} {ys : List Value} (hfr : v'.ownBlock = (O a b).u.ownBlock ∨ v'.ownBlock = none ∨ ∃ k, v'.ownBlock = some k ∧ w.heap.size ≤ k) (hs : w.heap.size ≤ W.heap.size) : Out W (updG O a b ⟨v', n', ys⟩) k := by
  refine ⟨Nat.lt_of_lt_of_le h.1 hs, fun c d e => ?_⟩
  by_cases e1 : c = a ∧ d = b
  · obtain ⟨rfl, rfl⟩ := e1
    rw [updG_self] at e
    rcases hfr with e2 | e2 | ⟨m, e2, hm⟩
    · exact h.2 c d (e2 ▸ e)
    · rw [e2] at e; cases e
    · rw [e2] at e; cases e; have := h.1; omega
  · rw [updG_ne O _ e1] at e
    exact h.2 c d e
theorem Out.ge {k : Nat} (h : Out w O k) (hs : w.heap.size ≤ W.heap.size) : Out W O k := ⟨Nat.lt_of_lt_of_le h.1 hs, h.2⟩

/-- One more thing behind one of the rows. -/
theorem Fam.app1 (h : Fam ty lo w O) (a b : Nat) (t : TypeId) (z : Value) (bytes : Nat) (ht : Tryz.prog.underlying t = some (.slice (ty a b).1)) (hinf : (Tryz.prog.info? (ty a b).1).map (fun i => (i.zero, i.size, i.bytes)) = some (some z, (ty a b).2, bytes))
    (hzs : z.cells.size = (ty a b).2) (h0 : 0 < (ty a b).2) (hby : bytes ≤ 104) (xs : Array Value) (hl : xs.size = (ty a b).2) (h1 : ∀ u ∈ xs.toList, u.oneCell' = true) (hn : (O a b).n ≤ 4294967296) :
    ∃ v' W', (∀ e, (Builtin.append_ #[t, t] e #[(O a b).u, .slice (some ⟨w.heap.size, 0, none⟩) 1 1]).run Tryz.prog (w.alloc (.cells xs (ty a b).1)) = .ok v' W') ∧ Fam ty lo W' (updG O a b ⟨v', (O a b).n + 1, (O a b).xs ++ xs.toList⟩) ∧
      (v'.ownBlock = (O a b).u.ownBlock ∨ v'.ownBlock = none ∨ ∃ k, v'.ownBlock = some k ∧ w.heap.size ≤ k) ∧ Keeps (fun k => some k = (O a b).u.ownBlock) w W' := by
  obtain ⟨i, hi, hz, hs, hb⟩ := info_parts hinf
  have hmul : ((O a b).n + 1) * bytes ≤ 4294967297 * 104 := Nat.mul_le_mul (by omega) hby
  obtain ⟨v', W', hr, ho, hfr, hK⟩ := append_new t _ i z _ bytes ht hi hz hs hb hzs h0 (O a b).u (O a b).n (O a b).xs (h.own a b) xs hl h1 (by unfold maxLen; omega) (by omega)
  have hfr' : v'.ownBlock = (O a b).u.ownBlock ∨ v'.ownBlock = none ∨ ∃ k, v'.ownBlock = some k ∧ w.heap.size ≤ k := hfr.imp id .inr
  exact ⟨v', W', hr, h.grow a b ho hfr' hK, hfr', hK⟩
end

theorem flat_cell {α : Type} (E : Elem α) {w : World} {g o : Nat} {ls : List α} (hs : ∀ j x, ls[j]? = some x → ∀ i v, (E.vs x)[i]? = some v → w.cell? ⟨g, o + j * E.k + i, none⟩ = some v) {j : Nat} {u : Value} (hj : (ls.flatMap E.vs)[j]? = some u) : w.cell? ⟨g, o + j, none⟩ = some u := by
  have hlt := (List.getElem?_eq_some_iff.1 hj).1
  rw [flat_len] at hlt
  have hk := E.pos
  have hq : j / E.k < ls.length := (Nat.div_lt_iff_lt_mul hk).2 hlt
  have hr : j % E.k < E.k := Nat.mod_lt _ hk
  obtain ⟨x, hx⟩ : ∃ x, ls[j / E.k]? = some x := ⟨_, List.getElem?_eq_getElem hq⟩
  obtain ⟨v, hv⟩ : ∃ v, (E.vs x)[j % E.k]? = some v := ⟨_, List.getElem?_eq_getElem (by rw [E.len]; exact hr)⟩
  have h1 := flat_get E ls (j / E.k) x (j % E.k) v hx hv
  have e : j / E.k * E.k + j % E.k = j := by rw [Nat.mul_comm]; exact Nat.div_add_mod j E.k
  rw [e, hj] at h1
  cases h1
  have h2 := hs _ x hx _ _ hv
  rw [Nat.add_assoc, e] at h2
  exact h2

/-- Elements whose cells hold one value each. -/
def Plain {α : Type} (E : Elem α) : Prop := ∀ x, ∀ u ∈ E.vs x, u.oneCell' = true
theorem plainWin : Plain eWin := fun x u hu => by simp [eWin, Win.vs] at hu; rcases hu with rfl | rfl | rfl <;> rfl
theorem plainRgn : Plain eRgn := fun x u hu => by simp [eRgn, Rgn.vs] at hu; rcases hu with rfl | rfl | rfl | rfl <;> rfl
theorem plainPrt : Plain ePrt := fun x u hu => by simp [ePrt, Prt.vs] at hu; rcases hu with rfl | rfl <;> rfl
theorem plainChn : Plain eChn := fun x u hu => by simp [eChn, Chn.vs] at hu; rcases hu with rfl | rfl | rfl <;> rfl

/-- append(nil, ls...): the same list in a row of its own. -/
theorem copy_own {α : Type} (E : Elem α) (hE : Plain E) (t : TypeId) (z : Value) (bytes : Nat) (ht : Tryz.prog.underlying t = some (.slice E.ety)) (hinf : (Tryz.prog.info? E.ety).map (fun i => (i.zero, i.size, i.bytes)) = some (some z, E.k, bytes)) (hzs : z.cells.size = E.k) (hby : bytes ≤ 104)
    {w : World} (a : Option Addr) (ls : List α) (c : Nat) (hs : SegA E.vs E.k w a ls) (hl : ls.length ≤ 4294967296) :
    ∃ v' W', (∀ ty, (Builtin.append_ #[t, t] ty #[.slice none 0 0, .slice a ls.length c]).run Tryz.prog w = .ok v' W') ∧ W'.ownsRow 0 E.ety E.k v' ls.length (ls.flatMap E.vs) ∧ (v'.ownBlock = none ∨ ∃ k, v'.ownBlock = some k ∧ w.heap.size ≤ k) ∧ Keeps (fun _ => False) w W' := by
  obtain ⟨i, hi, hz, hsz, hb⟩ := info_parts hinf
  have hmul : ls.length * bytes ≤ 4294967296 * 104 := Nat.mul_le_mul hl hby
  cases a with
  | none =>
    obtain rfl : ls = [] := by
      rcases hs with h | ⟨g, o, ha, _⟩
      · exact h
      · simp at ha
    exact ⟨.slice none 0 0, w, fun ty => append_none t E.ety i E.k ht hi hsz E.pos (.slice none 0 0) 0 c [] (World.ownsRow_nil w 0 E.ety E.k) ty, World.ownsRow_nil w 0 E.ety E.k, .inl rfl, Keeps.refl _ _⟩
  | some x =>
    have fin : ∀ (v' : Value) (W' : World), (v'.ownBlock = (Value.slice none 0 0).ownBlock ∨ ∃ k, v'.ownBlock = some k ∧ w.heap.size ≤ k) → Keeps (fun k => some k = (Value.slice none 0 0).ownBlock) w W' → (v'.ownBlock = none ∨ ∃ k, v'.ownBlock = some k ∧ w.heap.size ≤ k) ∧ Keeps (fun _ => False) w W' := fun v' W' h3 h4 =>
      ⟨h3.imp (fun e => by rw [e]; rfl) id, h4.mono fun k hk e => by simp [Value.ownBlock] at e⟩
    by_cases he : ls = []
    · subst he
      obtain ⟨v', W', h1, h2, h3, h4⟩ := append_many (w := w) t E.ety i z E.k bytes ht hi hz hsz hb hzs E.pos (.slice none 0 0) 0 [] (World.ownsRow_nil w 0 E.ety E.k) x 0 c [] (by simp) (fun j u hj => by simp at hj) (fun u hu => by cases hu) (by unfold maxLen; omega) (by omega)
      exact ⟨v', W', h1, by simpa using h2, fin v' W' h3 h4⟩
    · obtain ⟨g, o, ha, hc⟩ : ∃ g o, some x = some (⟨g, o, none⟩ : Addr) ∧ ∀ j y, ls[j]? = some y → ∀ i v, (E.vs y)[i]? = some v → w.cell? ⟨g, o + j * E.k + i, none⟩ = some v := by
        rcases hs with h | h
        · exact (he h).elim
        · exact h
      cases ha
      obtain ⟨v', W', h1, h2, h3, h4⟩ := append_many (w := w) t E.ety i z E.k bytes ht hi hz hsz hb hzs E.pos (.slice none 0 0) 0 [] (World.ownsRow_nil w 0 E.ety E.k) ⟨g, o, none⟩ ls.length c (ls.flatMap E.vs) (flat_len E ls) (fun j u hj => by rw [addr_add]; exact flat_cell E hc hj) (fun u hu => by
        obtain ⟨y, _, hy⟩ := List.mem_flatMap.1 hu
        exact hE y u hy) (by unfold maxLen; omega) (by rw [Nat.zero_add]; omega)
      exact ⟨v', W', h1, by simpa using h2, fin v' W' h3 h4⟩

theorem Tryz.inf40 : (Tryz.prog.info? 51).map (fun i => (i.zero, i.size, i.bytes)) = some (some (.agg #[.int .i64 0, .int .i64 0, .int .i64 0]), 3, 24) := by kernel_rfl
theorem Tryz.inf78 : (Tryz.prog.info? 53).map (fun i => (i.zero, i.size, i.bytes)) = some (some (.agg #[.int .i64 0, .int .i64 0, .int .i64 0, .int .i64 0]), 4, 32) := by kernel_rfl
theorem Tryz.inf80 : (Tryz.prog.info? 55).map (fun i => (i.zero, i.size, i.bytes)) = some (some (.agg #[.int .i64 0, .bool false]), 2, 16) := by kernel_rfl
theorem Tryz.inf82 : (Tryz.prog.info? 57).map (fun i => (i.zero, i.size, i.bytes)) = some (some (.agg #[.int .i64 0, .int .i64 0, .int .i64 0]), 3, 24) := by kernel_rfl
theorem Tryz.inf38 : (Tryz.prog.info? 43).map (fun i => (i.zero, i.size, i.bytes)) = some (some (.slice none 0 0), 1, 24) := by kernel_rfl
theorem Tryz.inf64 : (Tryz.prog.info? 44).map (fun i => (i.zero, i.size, i.bytes)) = some (some (.slice none 0 0), 1, 24) := by kernel_rfl
theorem Tryz.inf65 : (Tryz.prog.info? 45).map (fun i => (i.zero, i.size, i.bytes)) = some (some (.slice none 0 0), 1, 24) := by kernel_rfl
theorem Tryz.inf67 : (Tryz.prog.info? 47).map (fun i => (i.zero, i.size, i.bytes)) = some (some (.agg #[.string { data := #[] }, .int .i64 0, .int .i64 0, .int .i64 0, .int .i64 0, .int .i64 0, .slice none 0 0, .slice none 0 0]), 8, 104) := by kernel_rfl

/-- The kinds of the rows: the lists of a configuration, and those in them. -/
def tyO (a b : Nat) : TypeId × Nat :=
  if a = 0 then (if b = 0 then (43, 1) else if b = 1 then (43, 1) else if b = 2 then (47, 8) else if b = 3 then (44, 1) else if b = 4 then (45, 1) else (57, 3))
  else if a = 2 then (53, 4) else if a = 3 then (55, 2) else (51, 3)
abbrev FamO (lo : Nat) (w : World) (O : Nat → Nat → ObG) : Prop := Fam tyO lo w O

/-- A slice cut short. -/
def cut (n : Nat) : Value → Value
  | .slice a _ c => .slice a n c
  | v => v
end Go.Proofs.YtjadpbkhfclldaaGreat
namespace Go.Proofs.YtjadpbkhfclldaaGreat
open Go.RowKit
set_option linter.unusedVariables false
set_option linter.unusedSimpArgs false
set_option maxRecDepth 6000

/-- k things, put behind one another. -/
def apN (f : Nat → List Value) (k : Nat) : List Value := (List.range k).flatMap f
theorem apN_zero (f : Nat → List Value) : apN f 0 = [] := rfl
theorem apN_succ (f : Nat → List Value) (k : Nat) : apN f (k + 1) = apN f k ++ f k := by unfold apN; rw [List.range_succ, List.flatMap_append]; simp
theorem apN_congr {f g : Nat → List Value} : ∀ {k : Nat}, (∀ i, i < k → f i = g i) → apN f k = apN g k
  | 0, _ => rfl
  | k + 1, h => by rw [apN_succ, apN_succ, apN_congr fun i hi => h i (by omega), h k (by omega)]
theorem apN_len {f : Nat → List Value} {s : Nat} : ∀ {k : Nat}, (∀ i, i < k → (f i).length = s) → (apN f k).length = k * s
  | 0, _ => by simp [apN]
  | k + 1, h => by rw [apN_succ, List.length_append, apN_len fun i hi => h i (by omega), h k (by omega), Nat.add_mul, Nat.one_mul]
theorem apN_get {f : Nat → List Value} {s : Nat} : ∀ {K : Nat}, (∀ i, i < K → (f i).length = s) → ∀ {k i : Nat}, k < K → i < s → (apN f K)[k * s + i]? = (f k)[i]?
  | 0, _, k, i, hk, _ => by omega
  | K + 1, h, k, i, hk, hi => by
    rw [apN_succ]
    have hK : (apN f K).length = K * s := apN_len fun i hi => h i (by omega)
    by_cases e : k = K
    · subst e
      rw [List.getElem?_append_right (by rw [hK]; omega), hK, Nat.add_sub_cancel_left]
    · have : (k + 1) * s ≤ K * s := Nat.mul_le_mul_right _ (by omega)
      rw [Nat.add_mul, Nat.one_mul] at this
      rw [List.getElem?_append_left (by rw [hK]; omega)]
      exact apN_get (fun i hi => h i (by omega)) (by omega) hi

/-! ### What stands in the lists of a configuration with room behind them -/
def wsO (y : Cfg) (i : Nat) : List Win := ((y.cs[i]?).map (·.ws)).getD []
def rsO (y : Cfg) (i : Nat) : List Rgn := ((y.ps[i]?).map (·.rs)).getD []
def psO (y : Cfg) (i : Nat) : List Prt := ((y.ps[i]?).map (·.ps)).getD []
theorem wsO_some {y : Cfg} {i : Nat} {X : Core} (h : y.cs[i]? = some X) : wsO y i = X.ws := by unfold wsO; rw [h]; rfl
theorem rsO_some {y : Cfg} {i : Nat} {P : Par} (h : y.ps[i]? = some P) : rsO y i = P.rs := by unfold rsO; rw [h]; rfl
theorem psO_some {y : Cfg} {i : Nat} {P : Par} (h : y.ps[i]? = some P) : psO y i = P.ps := by unfold psO; rw [h]; rfl
def mk7 (k : Nat) : Int := -70 - (k : Int)
def wMk (k : Nat) : List Value := [.int .i64 (mk7 k), .int .i64 0, .int .i64 0]
def rMk (k : Nat) : List Value := [.int .i64 (mk7 k), .int .i64 0, .int .i64 0, .int .i64 0]
def pMk (k : Nat) : List Value := [.int .i64 (mk7 k), .bool false]
def hMk (k : Nat) : List Value := [.int .i64 (mk7 k), .int .i64 0, .int .i64 0]
def qMk (k : Nat) : List Value := [.string { data := #[] }, .int .i64 (mk7 k), .int .i64 0, .int .i64 0, .int .i64 0, .int .i64 0, .slice none 0 0, .slice none 0 0]
def parV (P : Par) (r q : Value) : List Value := [.string P.name, .int .i64 P.entry, .int .i64 P.action, .int .i64 P.restarts, .int .i64 P.inputs, .int .i64 P.outputs, r, q]
def parC (y : Cfg) (i : Nat) (r q : Value) : List Value := match y.ps[i]? with | some P => parV P r q | none => []
theorem parC_some {y : Cfg} {i : Nat} {P : Par} (h : y.ps[i]? = some P) (r q : Value) : parC y i r q = parV P r q := by unfold parC; rw [h]

structure RP (y : Cfg) (j1 j2 : Nat) (hs : List Chn) (k : Nat) (O : Nat → Nat → ObG) : Prop where
  c0n : (O 0 0).n = j1 + k
  c0 : (O 0 0).xs = apN (fun i => [cut (wsO y i).length (O 1 i).u]) j1 ++ apN (fun i => [(O 4 i).u]) k
  c1n : (O 0 1).n = j1
  c1 : (O 0 1).xs = apN (fun i => [(O 1 i).u]) j1
  c2n : (O 0 2).n = j2 + k
  c2 : (O 0 2).xs = apN (fun i => parC y i (cut (rsO y i).length (O 2 i).u) (cut (psO y i).length (O 3 i).u)) j2 ++ apN qMk k
  c3n : (O 0 3).n = j2
  c3 : (O 0 3).xs = apN (fun i => [(O 2 i).u]) j2
  c4n : (O 0 4).n = j2
  c4 : (O 0 4).xs = apN (fun i => [(O 3 i).u]) j2
  c5n : (O 0 5).n = hs.length + k
  c5 : (O 0 5).xs = hs.flatMap Chn.vs ++ apN hMk k
  i1 : ∀ i, i < j1 → (O 1 i).n = (wsO y i).length + 12 ∧ (O 1 i).xs = (wsO y i).flatMap Win.vs ++ apN wMk 12
  i2 : ∀ i, i < j2 → (O 2 i).n = (rsO y i).length + 12 ∧ (O 2 i).xs = (rsO y i).flatMap Rgn.vs ++ apN rMk 12
  i3 : ∀ i, i < j2 → (O 3 i).n = (psO y i).length + 12 ∧ (O 3 i).xs = (psO y i).flatMap Prt.vs ++ apN pMk 12
  i4 : ∀ i, i < k → (O 4 i).n = 1 ∧ (O 4 i).xs = wMk i
  z1 : ∀ i, j1 ≤ i → O 1 i = ObG.nil
  z2 : ∀ i, j2 ≤ i → O 2 i = ObG.nil
  z3 : ∀ i, j2 ≤ i → O 3 i = ObG.nil
  z4 : ∀ i, k ≤ i → O 4 i = ObG.nil
theorem RP.start (y : Cfg) : RP y 0 0 [] 0 (fun _ _ => ObG.nil) :=
  ⟨rfl, rfl, rfl, rfl, rfl, rfl, rfl, rfl, rfl, rfl, rfl, rfl, fun i hi => by omega, fun i hi => by omega, fun i hi => by omega, fun i hi => by omega, fun _ _ => rfl, fun _ _ => rfl, fun _ _ => rfl, fun _ _ => rfl⟩

theorem upd01 (O : Nat → Nat → ObG) (j : Nat) (l : ObG) (b : Nat) : updG O 1 j l 0 b = O 0 b := updG_ne O _ (by omega)
theorem RP.core {y : Cfg} {j j2 : Nat} {hs : List Chn} {O : Nat → Nat → ObG} (h : RP y j j2 hs 0 O) {l : ObG} {uW uC : Value} (hn : l.n = (wsO y j).length + 12) (hx : l.xs = (wsO y j).flatMap Win.vs ++ apN wMk 12) :
    RP y (j + 1) j2 hs 0 (updG (updG (updG O 1 j l) 0 1 ⟨uW, (O 0 1).n + 1, (O 0 1).xs ++ [l.u]⟩) 0 0 ⟨uC, (O 0 0).n + 1, (O 0 0).xs ++ [cut (wsO y j).length l.u]⟩) := by
  obtain ⟨c0n, c0, c1n, c1, c2n, c2, c3n, c3, c4n, c4, c5n, c5, i1, i2, i3, i4, z1, z2, z3, z4⟩ := h
  have e1 : ∀ i, i < j → updG O 1 j l 1 i = O 1 i := fun i hi => updG_ne O _ (by omega)
  refine ⟨?_, ?_, ?_, ?_, ?_, ?_, ?_, ?_, ?_, ?_, ?_, ?_, fun i hi => ?_, fun i hi => ?_, fun i hi => ?_, fun i hi => ?_, fun i hi => ?_, fun i hi => ?_, fun i hi => ?_, fun i hi => ?_⟩
  all_goals simp only [updG, Nat.zero_ne_one, Nat.one_ne_zero, Nat.reduceEqDiff, false_and, and_false, and_true, true_and, if_false, if_true, Nat.succ_ne_zero, reduceIte]
  · omega
  · rw [c0]
    simp only [apN_zero, List.append_nil, apN_succ, if_pos rfl]
    congr 1
    exact apN_congr fun i hi => by rw [if_neg (by omega)]
  · omega
  · rw [c1, apN_succ, if_pos rfl]
    congr 1
    exact apN_congr fun i hi => by rw [if_neg (by omega)]
  · exact c2n
  · exact c2
  · exact c3n
  · exact c3
  · exact c4n
  · exact c4
  · exact c5n
  · exact c5
  · by_cases e : i = j
    · subst e
      rw [if_pos rfl]
      exact ⟨hn, hx⟩
    · rw [if_neg e]
      exact i1 i (by omega)
  · exact i2 i hi
  · exact i3 i hi
  · omega
  · rw [if_neg (by omega)]
    exact z1 i (by omega)
  · exact z2 i hi
  · exact z3 i hi
  · exact z4 i hi

theorem RP.par {y : Cfg} {j1 j : Nat} {hs : List Chn} {O : Nat → Nat → ObG} (h : RP y j1 j hs 0 O) {l q : ObG} {uR uQ uP : Value} (hn : l.n = (rsO y j).length + 12) (hx : l.xs = (rsO y j).flatMap Rgn.vs ++ apN rMk 12) (qn : q.n = (psO y j).length + 12) (qx : q.xs = (psO y j).flatMap Prt.vs ++ apN pMk 12) :
    RP y j1 (j + 1) hs 0 (updG (updG (updG (updG (updG O 2 j l) 3 j q) 0 3 ⟨uR, (O 0 3).n + 1, (O 0 3).xs ++ [l.u]⟩) 0 4 ⟨uQ, (O 0 4).n + 1, (O 0 4).xs ++ [q.u]⟩) 0 2 ⟨uP, (O 0 2).n + 1, (O 0 2).xs ++ parC y j (cut (rsO y j).length l.u) (cut (psO y j).length q.u)⟩) := by
  obtain ⟨c0n, c0, c1n, c1, c2n, c2, c3n, c3, c4n, c4, c5n, c5, i1, i2, i3, i4, z1, z2, z3, z4⟩ := h
  refine ⟨?_, ?_, ?_, ?_, ?_, ?_, ?_, ?_, ?_, ?_, ?_, ?_, fun i hi => ?_, fun i hi => ?_, fun i hi => ?_, fun i hi => ?_, fun i hi => ?_, fun i hi => ?_, fun i hi => ?_, fun i hi => ?_⟩
  all_goals simp only [updG, Nat.zero_ne_one, Nat.one_ne_zero, Nat.reduceEqDiff, false_and, and_false, and_true, true_and, if_false, if_true, Nat.succ_ne_zero, reduceIte]
  · exact c0n
  · exact c0
  · exact c1n
  · exact c1
  · omega
  · rw [c2]
    simp only [apN_zero, List.append_nil, apN_succ, if_pos rfl]
    congr 1
    exact apN_congr fun i hi => by rw [if_neg (by omega), if_neg (by omega)]
  · omega
  · rw [c3, apN_succ, if_pos rfl]
    congr 1
    exact apN_congr fun i hi => by rw [if_neg (by omega)]
  · omega
  · rw [c4, apN_succ, if_pos rfl]
    congr 1
    exact apN_congr fun i hi => by rw [if_neg (by omega)]
  · exact c5n
  · exact c5
  · exact i1 i hi
  · by_cases e : i = j
    · subst e
      rw [if_pos rfl]
      exact ⟨hn, hx⟩
    · rw [if_neg e]
      exact i2 i (by omega)
  · by_cases e : i = j
    · subst e
      rw [if_pos rfl]
      exact ⟨qn, qx⟩
    · rw [if_neg e]
      exact i3 i (by omega)
  · omega
  · exact z1 i hi
  · rw [if_neg (by omega)]
    exact z2 i (by omega)
  · rw [if_neg (by omega)]
    exact z3 i (by omega)
  · exact z4 i hi

theorem RP.chs {y : Cfg} {j1 j2 : Nat} {O : Nat → Nat → ObG} (h : RP y j1 j2 [] 0 O) (hs : List Chn) (u : Value) : RP y j1 j2 hs 0 (updG O 0 5 ⟨u, hs.length, hs.flatMap Chn.vs⟩) := by
  obtain ⟨c0n, c0, c1n, c1, c2n, c2, c3n, c3, c4n, c4, c5n, c5, i1, i2, i3, i4, z1, z2, z3, z4⟩ := h
  refine ⟨?_, ?_, ?_, ?_, ?_, ?_, ?_, ?_, ?_, ?_, ?_, ?_, fun i hi => ?_, fun i hi => ?_, fun i hi => ?_, fun i hi => ?_, fun i hi => ?_, fun i hi => ?_, fun i hi => ?_, fun i hi => ?_⟩
  all_goals simp only [updG, Nat.zero_ne_one, Nat.one_ne_zero, Nat.reduceEqDiff, false_and, and_false, and_true, true_and, if_false, if_true, Nat.succ_ne_zero, reduceIte, apN_zero, List.append_nil, Nat.add_zero]
  · exact c0n
  · simpa [apN_zero] using c0
  · exact c1n
  · exact c1
  · exact c2n
  · simpa [apN_zero] using c2
  · exact c3n
  · exact c3
  · exact c4n
  · exact c4
  · exact i1 i hi
  · exact i2 i hi
  · exact i3 i hi
  · omega
  · exact z1 i hi
  · exact z2 i hi
  · exact z3 i hi
  · exact z4 i hi

theorem RP.spare {y : Cfg} {j1 j2 k : Nat} {hs : List Chn} {O : Nat → Nat → ObG} (h : RP y j1 j2 hs k O) {s uC uP uH : Value} :
    RP y j1 j2 hs (k + 1) (updG (updG (updG (updG O 4 k ⟨s, 1, wMk k⟩) 0 0 ⟨uC, (O 0 0).n + 1, (O 0 0).xs ++ [s]⟩) 0 2 ⟨uP, (O 0 2).n + 1, (O 0 2).xs ++ qMk k⟩) 0 5 ⟨uH, (O 0 5).n + 1, (O 0 5).xs ++ hMk k⟩) := by
  obtain ⟨c0n, c0, c1n, c1, c2n, c2, c3n, c3, c4n, c4, c5n, c5, i1, i2, i3, i4, z1, z2, z3, z4⟩ := h
  refine ⟨?_, ?_, ?_, ?_, ?_, ?_, ?_, ?_, ?_, ?_, ?_, ?_, fun i hi => ?_, fun i hi => ?_, fun i hi => ?_, fun i hi => ?_, fun i hi => ?_, fun i hi => ?_, fun i hi => ?_, fun i hi => ?_⟩
  all_goals simp only [updG, Nat.zero_ne_one, Nat.one_ne_zero, Nat.reduceEqDiff, false_and, and_false, and_true, true_and, if_false, if_true, Nat.succ_ne_zero, reduceIte]
  · omega
  · rw [c0, apN_succ, if_pos rfl, List.append_assoc]
    congr 2
    exact apN_congr fun i hi => by rw [if_neg (by omega)]
  · exact c1n
  · exact c1
  · omega
  · rw [c2, apN_succ, List.append_assoc]
  · exact c3n
  · exact c3
  · exact c4n
  · exact c4
  · omega
  · rw [c5, apN_succ, List.append_assoc]
  · exact i1 i hi
  · exact i2 i hi
  · exact i3 i hi
  · by_cases e : i = k
    · subst e
      rw [if_pos rfl]
      exact ⟨rfl, rfl⟩
    · rw [if_neg e]
      exact i4 i (by omega)
  · exact z1 i hi
  · exact z2 i hi
  · exact z3 i hi
  · rw [if_neg (by omega)]
    exact z4 i (by omega)

/-- A new block of one thing is a row of one. -/
theorem own_new (w : World) (cs : Array Value) (e : TypeId) (s : Nat) (hs : cs.size = s) (h0 : 0 < s) : (w.alloc (.cells cs e)).ownsRow 0 e s (.slice (some ⟨w.heap.size, 0, none⟩) 1 1) 1 cs.toList := by
  refine ⟨by simp [hs], .inr ⟨w.heap.size, 1, cs, rfl, by simp, ?_, by omega, by unfold maxLen; omega, by omega, ?_⟩⟩
  · exact heap_alloc_new w _
  · rw [List.take_of_length_le (by simp [hs])]
end Go.Proofs.YtjadpbkhfclldaaGreat
namespace Go.Proofs.YtjadpbkhfclldaaGreat
open Go.RowKit
set_option linter.unusedVariables false
set_option maxRecDepth 6000

theorem Cfg.In.keeps {x : Cfg} {w w' : World} {N : Nat} (h : x.In w N) (hN : N ≤ w.heap.size) (hK : Keeps (fun _ => False) w w') : x.In w' N := h.below (hK.below hN fun _ h => h.elim)
theorem Cfg.In.core {x : Cfg} {w : World} {N : Nat} (h : x.In w N) {k : Nat} {X : Core} (hX : x.cs[k]? = some X) :
    ∃ g o, x.ca = some ⟨g, o, none⟩ ∧ w.cell? ⟨g, o + k, none⟩ = some X.v := by
  obtain ⟨g, o, ha, hc⟩ := h.cseg.at hX
  refine ⟨g, o, ha, ?_⟩
  have := hc 0 _ rfl
  rw [Nat.mul_one, Nat.add_zero] at this
  exact this
/-- A configuration laid into a block. -/
abbrev Cfg.laid (w : World) (x : Cfg) : World := w.alloc (.cells #[.int .i64 x.frames, .int .i64 x.major, .int .i64 x.kernel, .int .i64 x.room, .slice x.ca x.cs.length x.cc, .slice x.pa x.ps.length x.pc, .slice x.ha x.hs.length x.hc] 26)

/-- A configuration in a block of its own. -/
structure One (w : World) (x : Cfg) (C N : Nat) (w' : World) : Prop where
  cfg : Blk w' C x.vs 26
  keeps : Keeps (fun _ => False) w w'
  cin : x.In w' N
  lo : w.heap.size ≤ C
  n : N ≤ w.heap.size
theorem One.mk' {w : World} {x : Cfg} {N : Nat} (hi : x.In w N) (hN : N ≤ w.heap.size) : One w x w.heap.size N (x.laid w) :=
  ⟨Blk.new w _ _, (Keeps.refl _ _).alloc _, hi.keeps hN ((Keeps.refl _ _).alloc _), Nat.le_refl _, hN⟩
theorem One.kept {w : World} {x : Cfg} {C N : Nat} {w' w'' : World} (h : One w x C N w') (hK : Keeps (fun _ => False) w' w'') : One w x C N w'' :=
  ⟨h.cfg.kept hK fun h => h, h.keeps.trans hK fun _ _ h => h, h.cin.keeps (Nat.le_trans h.n h.keeps.size) hK, h.lo, h.n⟩
theorem One.nn {w : World} {x : Cfg} {C N : Nat} {w' : World} (h : One w x C N w') : N ≤ w'.heap.size := Nat.le_trans h.n h.keeps.size


theorem One.kept' {w : World} {x : Cfg} {C N : Nat} {w' w'' : World} {S : Nat → Prop} (h : One w x C N w') (hK : Keeps S w' w'') (hC : ¬ S C) (hN : ∀ k, S k → N ≤ k) (hw : ∀ k, S k → w.heap.size ≤ k) : One w x C N w'' :=
  ⟨h.cfg.kept hK hC, h.keeps.trans hK fun k hk e => absurd hk (by have := hw k e; omega), h.cin.below (hK.below h.nn hN), h.lo, h.n⟩
theorem Cfg.In.par {x : Cfg} {w : World} {N : Nat} (h : x.In w N) {k : Nat} {X : Par} (hX : x.ps[k]? = some X) :
    ∃ g o, x.pa = some ⟨g, o, none⟩ ∧ ∀ i v, X.vs[i]? = some v → w.cell? ⟨g, o + k * 8 + i, none⟩ = some v := h.pseg.at hX
theorem Cfg.In.chn {x : Cfg} {w : World} {N : Nat} (h : x.In w N) {k : Nat} {X : Chn} (hX : x.hs[k]? = some X) :
    ∃ g o, x.ha = some ⟨g, o, none⟩ ∧ ∀ i v, X.vs[i]? = some v → w.cell? ⟨g, o + k * 3 + i, none⟩ = some v := h.hseg.at hX
theorem One.cells {w : World} {x : Cfg} {C N : Nat} {w' : World} (h : One w x C N w') :
    w'.cell? ⟨C, 0, none⟩ = some (.int .i64 x.frames) ∧ w'.cell? ⟨C, 1, none⟩ = some (.int .i64 x.major) ∧ w'.cell? ⟨C, 2, none⟩ = some (.int .i64 x.kernel) ∧ w'.cell? ⟨C, 3, none⟩ = some (.int .i64 x.room) ∧
    w'.cell? ⟨C, 4, none⟩ = some (.slice x.ca x.cs.length x.cc) ∧ w'.cell? ⟨C, 5, none⟩ = some (.slice x.pa x.ps.length x.pc) ∧ w'.cell? ⟨C, 6, none⟩ = some (.slice x.ha x.hs.length x.hc) :=
  ⟨h.cfg.cell rfl, h.cfg.cell rfl, h.cfg.cell rfl, h.cfg.cell rfl, h.cfg.cell rfl, h.cfg.cell rfl, h.cfg.cell rfl⟩
end Go.Proofs.YtjadpbkhfclldaaGreat
