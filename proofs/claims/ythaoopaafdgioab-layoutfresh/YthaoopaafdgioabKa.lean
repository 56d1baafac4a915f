import Derived.Test.YthaoopaafdgioabRo
namespace Go.Proofs.Ythaoopaafdgioab
open Go.RowKit
set_option linter.unusedVariables false
set_option linter.unusedSimpArgs false
set_option maxRecDepth 6000

theorem cell_kept {S : Nat → Prop} {w w' : World} {a : Addr} {v : Value} (h : w.cell? a = some v) (hK : Keeps S w w') (hn : ¬ S a.block) : w'.cell? a = some v := by
  rw [World.cell?_of_block (w := w) (hK.block a.block (World.block_lt_of_cell? w a h) hn)]
  exact h

/-! ### A family of rows of one's own, each in a block of its own -/
structure ObG where
  u : Value
  n : Nat
  xs : List Value
def ObG.nil : ObG := ⟨.slice none 0 0, 0, []⟩
structure Fam (ty : Nat → Nat → TypeId × Nat) (lo : Nat) (w : World) (O : Nat → Nat → ObG) : Prop where
  own : ∀ a b, w.ownsRow 0 (ty a b).1 (ty a b).2 (O a b).u (O a b).n (O a b).xs
  dis : ∀ a b c d k, ¬ (a = c ∧ b = d) → (O a b).u.ownBlock = some k → (O c d).u.ownBlock ≠ some k
  low : ∀ a b k, (O a b).u.ownBlock = some k → lo ≤ k
  siz : lo ≤ w.heap.size
def updG (O : Nat → Nat → ObG) (a b : Nat) (o : ObG) : Nat → Nat → ObG := fun c d => if c = a ∧ d = b then o else O c d
theorem updG_self (O : Nat → Nat → ObG) (a b : Nat) (o : ObG) : updG O a b o a b = o := by unfold updG; rw [if_pos ⟨rfl, rfl⟩]
theorem updG_ne (O : Nat → Nat → ObG) {a b c d : Nat} (o : ObG) (h : ¬ (c = a ∧ d = b)) : updG O a b o c d = O c d := by unfold updG; rw [if_neg h]

theorem own_lt {w : World} {e : TypeId} {s n : Nat} {v : Value} {xs : List Value} (h : w.ownsRow 0 e s v n xs) {k : Nat} (hv : v.ownBlock = some k) : k < w.heap.size := by
  rcases h.2 with ⟨h2, _⟩ | ⟨g, cap, cur, h2, _, h3, _⟩
  · rw [h2] at hv; cases hv
  · rw [h2] at hv; cases hv
    exact (Array.getElem?_eq_some_iff.1 h3).1

section
variable {ty : Nat → Nat → TypeId × Nat} {lo : Nat} {w w' W : World} {O : Nat → Nat → ObG}
theorem Fam.start (ty : Nat → Nat → TypeId × Nat) (w : World) : Fam ty w.heap.size w (fun _ _ => ObG.nil) :=
  ⟨fun a b => World.ownsRow_nil w 0 _ _, fun a b c d k _ h => (by cases h), fun a b k h => (by cases h), Nat.le_refl _⟩
theorem Fam.kept {S : Nat → Prop} (h : Fam ty lo w O) (hK : Keeps S w w') (hS : ∀ a b k, (O a b).u.ownBlock = some k → ¬ S k) : Fam ty lo w' O :=
  ⟨fun a b => owns_kept (h.own a b) hK (hS a b), h.dis, h.low, Nat.le_trans h.siz hK.size⟩
theorem Fam.keptLo {S : Nat → Prop} (h : Fam ty lo w O) (hK : Keeps S w w') (hS : ∀ k, S k → k < lo) : Fam ty lo w' O :=
  h.kept hK fun a b k hk hs => by have := h.low a b k hk; have := hS k hs; omega
theorem Fam.lt (h : Fam ty lo w O) {a b k : Nat} (hk : (O a b).u.ownBlock = some k) : k < w.heap.size := own_lt (h.own a b) hk
/-- One of them has changed. -/
theorem Fam.grow (h : Fam ty lo w O) (a b : Nat) {v' : Value} {n' : Nat} {ys : List Value} (hown : W.ownsRow 0 (ty a b).1 (ty a b).2 v' n' ys)
    (hfr : v'.ownBlock = (O a b).u.ownBlock ∨ v'.ownBlock = none ∨ ∃ k, v'.ownBlock = some k ∧ w.heap.size ≤ k) (hK : Keeps (fun k => some k = (O a b).u.ownBlock) w W) : Fam ty lo W (updG O a b ⟨v', n', ys⟩) := by
  have hb : ∀ k, v'.ownBlock = some k → (O a b).u.ownBlock = some k ∨ w.heap.size ≤ k := by
    intro k hk
    rcases hfr with e | e | ⟨m, e, hm⟩
    · exact .inl (e ▸ hk)
    · rw [e] at hk; cases hk
    · rw [e] at hk; cases hk; exact .inr hm
  refine ⟨fun c d => ?_, fun c d p q k hne hk hk2 => ?_, fun c d k hk => ?_, Nat.le_trans h.siz hK.size⟩
  · by_cases e : c = a ∧ d = b
    · obtain ⟨rfl, rfl⟩ := e
      rw [updG_self]; exact hown
    · rw [updG_ne O _ e]
      exact owns_kept (h.own c d) hK fun k hk e2 => h.dis c d a b k e hk e2.symm
  · by_cases e : c = a ∧ d = b
    · obtain ⟨rfl, rfl⟩ := e
      rw [updG_self] at hk
      have e2 : ¬ (p = c ∧ q = d) := fun e3 => hne ⟨e3.1.symm, e3.2.symm⟩
      rw [updG_ne O _ e2] at hk2
      rcases hb k hk with h1 | h1
      · exact h.dis c d p q k hne h1 hk2
      · have := h.lt hk2; omega
    · rw [updG_ne O _ e] at hk
      by_cases e2 : p = a ∧ q = b
      · obtain ⟨rfl, rfl⟩ := e2
        rw [updG_self] at hk2
        rcases hb k hk2 with h1 | h1
        · exact h.dis c d p q k hne hk h1
        · have := h.lt hk; omega
      · rw [updG_ne O _ e2] at hk2
        exact h.dis c d p q k hne hk hk2
  · by_cases e : c = a ∧ d = b
    · obtain ⟨rfl, rfl⟩ := e
      rw [updG_self] at hk
      rcases hb k hk with h1 | h1
      · exact h.low c d k h1
      · exact Nat.le_trans h.siz h1
    · rw [updG_ne O _ e] at hk
      exact h.low c d k hk
/-- No row of the family lies in this block. -/
def Out (w : World) (O : Nat → Nat → ObG) (k : Nat) : Prop := k < w.heap.size ∧ ∀ a b, (O a b).u.ownBlock ≠ some k
theorem Fam.outLo (h : Fam ty lo w O) {k : Nat} (hk : k < lo) : Out w O k := ⟨Nat.lt_of_lt_of_le hk h.siz, fun a b e => by have := h.low a b k e; omega⟩
theorem Fam.outNew (h : Fam ty lo w O) (hK : Keeps (fun _ => False) w w') {k : Nat} (hk : w.heap.size ≤ k) (hk2 : k < w'.heap.size) : Out w' O k := ⟨hk2, fun a b e => by have := h.lt e; omega⟩
theorem Out.grow {k : Nat} (h : Out w O k) (a b : Nat) {v' : Value} {n' : Nat} {ys : List Value} (hfr : v'.ownBlock = (O a b).u.ownBlock ∨ v'.ownBlock = none ∨ ∃ k, v'.ownBlock = some k ∧ w.heap.size ≤ k) (hs : w.heap.size ≤ W.heap.size) : Out W (updG O a b ⟨v', n', ys⟩) k := by
  refine ⟨Nat.lt_of_lt_of_le h.1 hs, fun c d e => ?_⟩
  by_cases e1 : c = a ∧ d = b
  · obtain ⟨rfl, rfl⟩ := e1
    rw [updG_self] at e
    rcases hfr with e2 | e2 | ⟨m, e2, hm⟩
    · exact h.2 c d (e2 ▸ e)
    · rw [e2] at e; cases e
    · rw [e2] at e; cases e; have := h.1; omega
  · rw [updG_ne O _ e1] at e
    exact h.2 c d e
theorem Out.ge {k : Nat} (h : Out w O k) (hs : w.heap.size ≤ W.heap.size) : Out W O k := ⟨Nat.lt_of_lt_of_le h.1 hs, h.2⟩

/-- One more thing behind one of the rows. -/
theorem Fam.app1 (h : Fam ty lo w O) (a b : Nat) (t : TypeId) (z : Value) (bytes : Nat) (ht : Try.prog.underlying t = some (.slice (ty a b).1)) (hinf : (Try.prog.info? (ty a b).1).map (fun i => (i.zero, i.size, i.bytes)) = some (some z, (ty a b).2, bytes))
    (hzs : z.cells.size = (ty a b).2) (h0 : 0 < (ty a b).2) (hby : bytes ≤ 104) (xs : Array Value) (hl : xs.size = (ty a b).2) (h1 : ∀ u ∈ xs.toList, u.oneCell' = true) (hn : (O a b).n ≤ 4294967296) :
    ∃ v' W', (∀ e, (Builtin.append_ #[t, t] e #[(O a b).u, .slice (some ⟨w.heap.size, 0, none⟩) 1 1]).run Try.prog (w.alloc (.cells xs (ty a b).1)) = .ok v' W') ∧ Fam ty lo W' (updG O a b ⟨v', (O a b).n + 1, (O a b).xs ++ xs.toList⟩) ∧
      (v'.ownBlock = (O a b).u.ownBlock ∨ v'.ownBlock = none ∨ ∃ k, v'.ownBlock = some k ∧ w.heap.size ≤ k) ∧ Keeps (fun k => some k = (O a b).u.ownBlock) w W' := by
  obtain ⟨i, hi, hz, hs, hb⟩ := info_parts hinf
  have hmul : ((O a b).n + 1) * bytes ≤ 4294967297 * 104 := Nat.mul_le_mul (by omega) hby
  obtain ⟨v', W', hr, ho, hfr, hK⟩ := append_new t _ i z _ bytes ht hi hz hs hb hzs h0 (O a b).u (O a b).n (O a b).xs (h.own a b) xs hl h1 (by unfold maxLen; omega) (by omega)
  have hfr' : v'.ownBlock = (O a b).u.ownBlock ∨ v'.ownBlock = none ∨ ∃ k, v'.ownBlock = some k ∧ w.heap.size ≤ k := hfr.imp id .inr
  exact ⟨v', W', hr, h.grow a b ho hfr' hK, hfr', hK⟩
end

theorem flat_cell {α : Type} (E : Elem α) {w : World} {g o : Nat} {ls : List α} (hs : ∀ j x, ls[j]? = some x → ∀ i v, (E.vs x)[i]? = some v → w.cell? ⟨g, o + j * E.k + i, none⟩ = some v) {j : Nat} {u : Value} (hj : (ls.flatMap E.vs)[j]? = some u) : w.cell? ⟨g, o + j, none⟩ = some u := by
  have hlt := (List.getElem?_eq_some_iff.1 hj).1
  rw [flat_len] at hlt
  have hk := E.pos
  have hq : j / E.k < ls.length := (Nat.div_lt_iff_lt_mul hk).2 hlt
  have hr : j % E.k < E.k := Nat.mod_lt _ hk
  obtain ⟨x, hx⟩ : ∃ x, ls[j / E.k]? = some x := ⟨_, List.getElem?_eq_getElem hq⟩
  obtain ⟨v, hv⟩ : ∃ v, (E.vs x)[j % E.k]? = some v := ⟨_, List.getElem?_eq_getElem (by rw [E.len]; exact hr)⟩
  have h1 := flat_get E ls (j / E.k) x (j % E.k) v hx hv
  have e : j / E.k * E.k + j % E.k = j := by rw [Nat.mul_comm]; exact Nat.div_add_mod j E.k
  rw [e, hj] at h1
  cases h1
  have h2 := hs _ x hx _ _ hv
  rw [Nat.add_assoc, e] at h2
  exact h2

/-- Elements whose cells hold one value each. -/
def Plain {α : Type} (E : Elem α) : Prop := ∀ x, ∀ u ∈ E.vs x, u.oneCell' = true
theorem plainWin : Plain eWin := fun x u hu => by simp [eWin, Win.vs] at hu; rcases hu with rfl | rfl | rfl <;> rfl
theorem plainRgn : Plain eRgn := fun x u hu => by simp [eRgn, Rgn.vs] at hu; rcases hu with rfl | rfl | rfl | rfl <;> rfl
theorem plainPrt : Plain ePrt := fun x u hu => by simp [ePrt, Prt.vs] at hu; rcases hu with rfl | rfl <;> rfl
theorem plainChn : Plain eChn := fun x u hu => by simp [eChn, Chn.vs] at hu; rcases hu with rfl | rfl | rfl <;> rfl

/-- append(nil, ls...): the same list in a row of its own. -/
theorem copy_own {α : Type} (E : Elem α) (hE : Plain E) (t : TypeId) (z : Value) (bytes : Nat) (ht : Try.prog.underlying t = some (.slice E.ety)) (hinf : (Try.prog.info? E.ety).map (fun i => (i.zero, i.size, i.bytes)) = some (some z, E.k, bytes)) (hzs : z.cells.size = E.k) (hby : bytes ≤ 104)
    {w : World} (a : Option Addr) (ls : List α) (c : Nat) (hs : SegA E.vs E.k w a ls) (hl : ls.length ≤ 4294967296) :
    ∃ v' W', (∀ ty, (Builtin.append_ #[t, t] ty #[.slice none 0 0, .slice a ls.length c]).run Try.prog w = .ok v' W') ∧ W'.ownsRow 0 E.ety E.k v' ls.length (ls.flatMap E.vs) ∧ (v'.ownBlock = none ∨ ∃ k, v'.ownBlock = some k ∧ w.heap.size ≤ k) ∧ Keeps (fun _ => False) w W' := by
  obtain ⟨i, hi, hz, hsz, hb⟩ := info_parts hinf
  have hmul : ls.length * bytes ≤ 4294967296 * 104 := Nat.mul_le_mul hl hby
  cases a with
  | none =>
    obtain rfl : ls = [] := by
      rcases hs with h | ⟨g, o, ha, _⟩
      · exact h
      · simp at ha
    exact ⟨.slice none 0 0, w, fun ty => append_none t E.ety i E.k ht hi hsz E.pos (.slice none 0 0) 0 c [] (World.ownsRow_nil w 0 E.ety E.k) ty, World.ownsRow_nil w 0 E.ety E.k, .inl rfl, Keeps.refl _ _⟩
  | some x =>
    have fin : ∀ (v' : Value) (W' : World), (v'.ownBlock = (Value.slice none 0 0).ownBlock ∨ ∃ k, v'.ownBlock = some k ∧ w.heap.size ≤ k) → Keeps (fun k => some k = (Value.slice none 0 0).ownBlock) w W' → (v'.ownBlock = none ∨ ∃ k, v'.ownBlock = some k ∧ w.heap.size ≤ k) ∧ Keeps (fun _ => False) w W' := fun v' W' h3 h4 =>
      ⟨h3.imp (fun e => by rw [e]; rfl) id, h4.mono fun k hk e => by simp [Value.ownBlock] at e⟩
    by_cases he : ls = []
    · subst he
      obtain ⟨v', W', h1, h2, h3, h4⟩ := append_many (w := w) t E.ety i z E.k bytes ht hi hz hsz hb hzs E.pos (.slice none 0 0) 0 [] (World.ownsRow_nil w 0 E.ety E.k) x 0 c [] (by simp) (fun j u hj => by simp at hj) (fun u hu => by cases hu) (by unfold maxLen; omega) (by omega)
      exact ⟨v', W', h1, by simpa using h2, fin v' W' h3 h4⟩
    · obtain ⟨g, o, ha, hc⟩ : ∃ g o, some x = some (⟨g, o, none⟩ : Addr) ∧ ∀ j y, ls[j]? = some y → ∀ i v, (E.vs y)[i]? = some v → w.cell? ⟨g, o + j * E.k + i, none⟩ = some v := by
        rcases hs with h | h
        · exact (he h).elim
        · exact h
      cases ha
      obtain ⟨v', W', h1, h2, h3, h4⟩ := append_many (w := w) t E.ety i z E.k bytes ht hi hz hsz hb hzs E.pos (.slice none 0 0) 0 [] (World.ownsRow_nil w 0 E.ety E.k) ⟨g, o, none⟩ ls.length c (ls.flatMap E.vs) (flat_len E ls) (fun j u hj => by rw [addr_add]; exact flat_cell E hc hj) (fun u hu => by
        obtain ⟨y, _, hy⟩ := List.mem_flatMap.1 hu
        exact hE y u hy) (by unfold maxLen; omega) (by rw [Nat.zero_add]; omega)
      exact ⟨v', W', h1, by simpa using h2, fin v' W' h3 h4⟩

theorem Try.inf40 : (Try.prog.info? 74).map (fun i => (i.zero, i.size, i.bytes)) = some (some (.agg #[.int .i64 0, .int .i64 0, .int .i64 0]), 3, 24) := by kernel_rfl
theorem Try.inf78 : (Try.prog.info? 54).map (fun i => (i.zero, i.size, i.bytes)) = some (some (.agg #[.int .i64 0, .int .i64 0, .int .i64 0, .int .i64 0]), 4, 32) := by kernel_rfl
theorem Try.inf80 : (Try.prog.info? 76).map (fun i => (i.zero, i.size, i.bytes)) = some (some (.agg #[.int .i64 0, .bool false]), 2, 16) := by kernel_rfl
theorem Try.inf82 : (Try.prog.info? 78).map (fun i => (i.zero, i.size, i.bytes)) = some (some (.agg #[.int .i64 0, .int .i64 0, .int .i64 0]), 3, 24) := by kernel_rfl
theorem Try.inf38 : (Try.prog.info? 58).map (fun i => (i.zero, i.size, i.bytes)) = some (some (.slice none 0 0), 1, 24) := by kernel_rfl
theorem Try.inf64 : (Try.prog.info? 49).map (fun i => (i.zero, i.size, i.bytes)) = some (some (.slice none 0 0), 1, 24) := by kernel_rfl
theorem Try.inf65 : (Try.prog.info? 50).map (fun i => (i.zero, i.size, i.bytes)) = some (some (.slice none 0 0), 1, 24) := by kernel_rfl
theorem Try.inf67 : (Try.prog.info? 52).map (fun i => (i.zero, i.size, i.bytes)) = some (some (.agg #[.string { data := #[] }, .int .i64 0, .int .i64 0, .int .i64 0, .int .i64 0, .int .i64 0, .slice none 0 0, .slice none 0 0]), 8, 104) := by kernel_rfl

/-- The kinds of the rows: the lists of a configuration, and those in them. -/
def tyO (a b : Nat) : TypeId × Nat :=
  if a = 0 then (if b = 0 then (58, 1) else if b = 1 then (58, 1) else if b = 2 then (52, 8) else if b = 3 then (49, 1) else if b = 4 then (50, 1) else (78, 3))
  else if a = 2 then (54, 4) else if a = 3 then (76, 2) else (74, 3)
abbrev FamO (lo : Nat) (w : World) (O : Nat → Nat → ObG) : Prop := Fam tyO lo w O

/-- A slice cut short. -/
def cut (n : Nat) : Value → Value
  | .slice a _ c => .slice a n c
  | v => v
end Go.Proofs.Ythaoopaafdgioab
