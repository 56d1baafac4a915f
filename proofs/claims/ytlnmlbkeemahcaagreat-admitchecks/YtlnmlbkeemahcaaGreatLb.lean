import Derived.Test.YtlnmlbkeemahcaaGreatAp
import Derived.Test.YtlnmlbkeemahcaaGreatRo
namespace Go.Proofs.YtlnmlbkeemahcaaGreat
open Go.RowKit
set_option linter.unusedVariables false
set_option linter.unusedSimpArgs false
set_option maxRecDepth 6000
theorem cell_kept {S : Nat → Prop} {w w' : World} {a : Addr} {v : Value} (h : w.cell? a = some v) (hK : Keeps S w w') (hn : ¬ S a.block) : w'.cell? a = some v := by
 rw [World.cell?_of_block (w := w) (hK.block a.block (World.block_lt_of_cell? w a h) hn)]
 exact h
structure ObG where
 u : Value
 n : Nat
 xs : List Value
def ObG.nil : ObG := ⟨.slice none 0 0, 0, []⟩
structure Fam (ty : Nat → Nat → TypeId × Nat) (lo : Nat) (w : World) (O : Nat → Nat → ObG) : Prop where
 own : ∀ a b, w.ownsRow 0 (ty a b).1 (ty a b).2 (O a b).u (O a b).n (O a b).xs
 dis : ∀ a b c d k, ¬ (a = c ∧ b = d) → (O a b).u.ownBlock = some k → (O c d).u.ownBlock ≠ some k
 low : ∀ a b k, (O a b).u.ownBlock = some k → lo ≤ k
 siz : lo ≤ w.heap.size
def updG (O : Nat → Nat → ObG) (a b : Nat) (o : ObG) : Nat → Nat → ObG := fun c d => if c = a ∧ d = b then o else O c d
theorem updG_self (O : Nat → Nat → ObG) (a b : Nat) (o : ObG) : updG O a b o a b = o := by unfold updG; rw [if_pos ⟨rfl, rfl⟩]
theorem updG_ne (O : Nat → Nat → ObG) {a b c d : Nat} (o : ObG) (h : ¬ (c = a ∧ d = b)) : updG O a b o c d = O c d := by unfold updG; rw [if_neg h]
theorem own_lt {w : World} {e : TypeId} {s n : Nat} {v : Value} {xs : List Value} (h : w.ownsRow 0 e s v n xs) {k : Nat} (hv : v.ownBlock = some k) : k < w.heap.size := by
 rcases h.2 with ⟨h2, _⟩ | ⟨g, cap, cur, h2, _, h3, _⟩
 ·
  rw [h2] at hv; cases hv
 ·
  rw [h2] at hv; cases hv
  exact (Array.getElem?_eq_some_iff.1 h3).1
section
variable {ty : Nat → Nat → TypeId × Nat} {lo : Nat} {w w' W : World} {O : Nat → Nat → ObG}
theorem Fam.start (ty : Nat → Nat → TypeId × Nat) (w : World) : Fam ty w.heap.size w (fun _ _ => ObG.nil) :=
 ⟨fun a b => World.ownsRow_nil w 0 _ _, fun a b c d k _ h => (by cases h), fun a b k h => (by cases h), Nat.le_refl _⟩
theorem Fam.kept {S : Nat → Prop} (h : Fam ty lo w O) (hK : Keeps S w w') (hS : ∀ a b k, (O a b).u.ownBlock = some k → ¬ S k) : Fam ty lo w' O :=
 ⟨fun a b => owns_kept (h.own a b) hK (hS a b), h.dis, h.low, Nat.le_trans h.siz hK.size⟩
theorem Fam.keptLo {S : Nat → Prop} (h : Fam ty lo w O) (hK : Keeps S w w') (hS : ∀ k, S k → k < lo) : Fam ty lo w' O :=
 h.kept hK fun a b k hk hs => by have := h.low a b k hk; have := hS k hs; omega
theorem Fam.lt (h : Fam ty lo w O) {a b k : Nat} (hk : (O a b).u.ownBlock = some k) : k < w.heap.size := own_lt (h.own a b) hk
theorem Fam.grow (h : Fam ty lo w O) (a b : Nat) {v' : Value} {n' : Nat} {ys : List Value} (hown : W.ownsRow 0 (ty a b).1 (ty a b).2 v' n' ys)
  (hfr : v'.ownBlock = (O a b).u.ownBlock ∨ v'.ownBlock = none ∨ ∃ k, v'.ownBlock = some k ∧ w.heap.size ≤ k) (hK : Keeps (fun k => some k = (O a b).u.ownBlock) w W) : Fam ty lo W (updG O a b ⟨v', n', ys⟩) := by
 have hb : ∀ k, v'.ownBlock = some k → (O a b).u.ownBlock = some k ∨ w.heap.size ≤ k := by
  intro k hk
  rcases hfr with e | e | ⟨m, e, hm⟩
  ·
   exact .inl (e ▸ hk)
  ·
   rw [e] at hk; cases hk
  ·
   rw [e] at hk; cases hk; exact .inr hm
 refine ⟨fun c d => ?_, fun c d p q k hne hk hk2 => ?_, fun c d k hk => ?_, Nat.le_trans h.siz hK.size⟩
 ·
  by_cases e : c = a ∧ d = b
  ·
   obtain ⟨rfl, rfl⟩ := e
   rw [updG_self]; exact hown
  ·
   rw [updG_ne O _ e]
   exact owns_kept (h.own c d) hK fun k hk e2 => h.dis c d a b k e hk e2.symm
 ·
  by_cases e : c = a ∧ d = b
  ·
   obtain ⟨rfl, rfl⟩ := e
   rw [updG_self] at hk
   have e2 : ¬ (p = c ∧ q = d) := fun e3 => hne ⟨e3.1.symm, e3.2.symm⟩
   rw [updG_ne O _ e2] at hk2
   rcases hb k hk with h1 | h1
   ·
    exact h.dis c d p q k hne h1 hk2
   ·
    have := h.lt hk2; omega
  ·
   rw [updG_ne O _ e] at hk
   by_cases e2 : p = a ∧ q = b
   ·
    obtain ⟨rfl, rfl⟩ := e2
    rw [updG_self] at hk2
    rcases hb k hk2 with h1 | h1
    ·
     exact h.dis c d p q k hne hk h1
    ·
     have := h.lt hk; omega
   ·
    rw [updG_ne O _ e2] at hk2
    exact h.dis c d p q k hne hk hk2
 ·
  by_cases e : c = a ∧ d = b
  ·
   obtain ⟨rfl, rfl⟩ := e
   rw [updG_self] at hk
   rcases hb k hk with h1 | h1
   ·
    exact h.low c d k h1
   ·
    exact Nat.le_trans h.siz h1
  ·
   rw [updG_ne O _ e] at hk
   exact h.low c d k hk
def Out (w : World) (O : Nat → Nat → ObG) (k : Nat) : Prop := k < w.heap.size ∧ ∀ a b, (O a b).u.ownBlock ≠ some k
theorem Fam.outNew (h : Fam ty lo w O) (hK : KF w w') {k : Nat} (hk : w.heap.size ≤ k) (hk2 : k < w'.heap.size) : Out w' O k := ⟨hk2, fun a b e => by have := h.lt e; omega⟩
theorem Out.grow {k : Nat} (h : Out w O k) (a b : Nat) {v' : Value} {n' : Nat} {ys : List Value} (hfr : v'.ownBlock = (O a b).u.ownBlock ∨ v'.ownBlock = none ∨ ∃ k, v'.ownBlock = some k ∧ w.heap.size ≤ k) (hs : w.heap.size ≤ W.heap.size) : Out W (updG O a b ⟨v', n', ys⟩) k := by
 refine ⟨Nat.lt_of_lt_of_le h.1 hs, fun c d e => ?_⟩
 by_cases e1 : c = a ∧ d = b
 ·
  obtain ⟨rfl, rfl⟩ := e1
  rw [updG_self] at e
  rcases hfr with e2 | e2 | ⟨m, e2, hm⟩
  ·
   exact h.2 c d (e2 ▸ e)
  ·
   rw [e2] at e; cases e
  ·
   rw [e2] at e; cases e; have := h.1; omega
 ·
  rw [updG_ne O _ e1] at e
  exact h.2 c d e
theorem Out.ge {k : Nat} (h : Out w O k) (hs : w.heap.size ≤ W.heap.size) : Out W O k := ⟨Nat.lt_of_lt_of_le h.1 hs, h.2⟩
theorem Fam.app1 (h : Fam ty lo w O) (a b : Nat) (t : TypeId) (z : Value) (bytes : Nat) (ht : Tryz.prog.underlying t = some (.slice (ty a b).1)) (hinf : (Tryz.prog.info? (ty a b).1).map (fun i => (i.zero, i.size, i.bytes)) = some (some z, (ty a b).2, bytes))
  (hzs : z.cells.size = (ty a b).2) (h0 : 0 < (ty a b).2) (xs : Array Value) (hl : xs.size = (ty a b).2) (h1 : ∀ u ∈ xs.toList, u.oneCell' = true) (hn : (O a b).n + 1 ≤ maxLen) (hby : ((O a b).n + 1) * bytes ≤ 140737488355328) :
  ∃ v' W', (∀ e, (Builtin.append_ #[t, t] e #[(O a b).u, .slice (some ⟨w.heap.size, 0, none⟩) 1 1]).run Tryz.prog (w.alloc (.cells xs (ty a b).1)) = .ok v' W') ∧ Fam ty lo W' (updG O a b ⟨v', (O a b).n + 1, (O a b).xs ++ xs.toList⟩) ∧
   (v'.ownBlock = (O a b).u.ownBlock ∨ v'.ownBlock = none ∨ ∃ k, v'.ownBlock = some k ∧ w.heap.size ≤ k) ∧ Keeps (fun k => some k = (O a b).u.ownBlock) w W' := by
 obtain ⟨i, hi, hz, hs, hb⟩ := info_parts hinf
 obtain ⟨v', W', hr, ho, hfr, hK⟩ := append_new t _ i z _ bytes ht hi hz hs hb hzs h0 (O a b).u (O a b).n (O a b).xs (h.own a b) xs hl h1 hn hby
 have hfr' : v'.ownBlock = (O a b).u.ownBlock ∨ v'.ownBlock = none ∨ ∃ k, v'.ownBlock = some k ∧ w.heap.size ≤ k := hfr.imp id .inr
 exact ⟨v', W', hr, h.grow a b ho hfr' hK, hfr', hK⟩
theorem Fam.form (h : Fam ty lo w O) (a b : Nat) : ∃ d c, (O a b).u = .slice d (O a b).n c ∧ (O a b).n ≤ c ∧ c ≤ maxLen := by
 rcases (h.own a b).2 with ⟨e, h0⟩ | ⟨g, cap, cur, e, _, _, h1, h2, _⟩
 ·
  exact ⟨none, 0, by rw [e, h0], by omega, Nat.zero_le _⟩
 ·
  exact ⟨_, cap, e, h1, h2⟩
theorem Fam.len (h : Fam ty lo w O) (a b : Nat) : (O a b).xs.length = (O a b).n * (ty a b).2 := (h.own a b).1
theorem keeps_lo (h : Fam ty lo w O) (a b : Nat) (hK : Keeps (fun k => some k = (O a b).u.ownBlock) w W) : Keeps (fun k => lo ≤ k) w W := hK.mono fun k _ e => h.low a b k e.symm
end
theorem Tryz.inf38 : (Tryz.prog.info? 38).map (fun i => (i.zero, i.size, i.bytes)) = some (some (.slice none 0 0), 1, 24) := by kernel_rfl
theorem Tryz.inf39r : (Tryz.prog.info? 39).map (fun i => (i.zero, i.size, i.bytes)) = some (some (.slice none 0 0), 1, 24) := by kernel_rfl
def tyO (a b : Nat) : TypeId × Nat :=
 if a = 0 then (if b = 0 then (48, 3) else if b = 1 then (42, 1) else if b = 2 then (42, 1) else if b = 3 then (41, 8) else if b = 4 then (38, 1) else (39, 1))
 else if a = 2 then (54, 4) else if a = 3 then (57, 2) else (44, 3)
abbrev FamO (lo : Nat) (w : World) (O : Nat → Nat → ObG) : Prop := Fam tyO lo w O
theorem ty_1 (b : Nat) : tyO 1 b = (44, 3) := rfl
theorem ty_2 (b : Nat) : tyO 2 b = (54, 4) := rfl
theorem ty_3 (b : Nat) : tyO 3 b = (57, 2) := rfl
theorem ty_4 (b : Nat) : tyO 4 b = (44, 3) := rfl
def cut (n : Nat) : Value → Value
 | .slice a _ c => .slice a n c
 | v => v
def At (xs : List Value) (s i : Nat) (cs : List Value) : Prop := ∀ k v, cs[k]? = some v → xs[i * s + k]? = some v
theorem At.app {xs : List Value} {s i : Nat} {cs : List Value} (h : At xs s i cs) (ys : List Value) : At (xs ++ ys) s i cs := fun k v hv => by
 have h1 := h k v hv
 rw [List.getElem?_append_left (List.getElem?_eq_some_iff.1 h1).1]; exact h1
theorem At.new {xs : List Value} {s i : Nat} (hl : xs.length = i * s) (cs : List Value) : At (xs ++ cs) s i cs := fun k v hv => by
 rw [List.getElem?_append_right (by omega), hl, Nat.add_sub_cancel_left]; exact hv
theorem at_cell {w : World} {e : TypeId} {s n i : Nat} {u : Value} {xs cs : List Value} (hown : w.ownsRow 0 e s u n xs) (h : At xs s i cs) {ad : Option Addr} {c : Nat} (hu : u = .slice ad n c) (hne : cs ≠ []) : ∃ g, ad = some ⟨g, 0, none⟩ ∧ u.ownBlock = some g ∧ (∀ k v, cs[k]? = some v → w.cell? ⟨g, i * s + k, none⟩ = some v) := by
 obtain ⟨v0, hv0⟩ : ∃ v, cs[0]? = some v := ⟨_, List.getElem?_eq_getElem (by cases cs; exact (hne rfl).elim; simp)⟩
 have hx := h 0 v0 hv0
 have hlt := (List.getElem?_eq_some_iff.1 hx).1
 have hl := hown.1
 rcases hown.2 with ⟨h2, h3⟩ | ⟨g, cap, cur, h2, _, hg, h3, h4, h5, h6⟩
 ·
  rw [h3, Nat.zero_mul] at hl; omega
 ·
  rw [h2] at hu
  cases hu
  refine ⟨g, rfl, by rw [h2]; rfl, fun k v hv => ?_⟩
  have hxk := h k v hv
  rw [← h6, List.getElem?_take] at hxk
  split at hxk
  ·
   have hB : Blk w g cur.toList e := by unfold Blk; rw [Array.toArray_toList]; exact hg
   exact hB.cell hxk
  ·
   cases hxk
theorem seg_own {α : Type} (E : Elem α) {w : World} {u : Value} {n c : Nat} {xs : List Value} {ls : List α} (hown : w.ownsRow 0 E.ety E.k u n xs) (h : ∀ k y, ls[k]? = some y → At xs E.k k (E.vs y)) {ad : Option Addr} (hu : u = .slice ad n c) : SegA E.vs E.k w ad ls := by
 by_cases he : ls = []
 ·
  exact .inl he
 ·
  obtain ⟨y, hy⟩ : ∃ y, ls[0]? = some y := ⟨_, List.getElem?_eq_getElem (by cases ls; exact (he rfl).elim; simp)⟩
  have hv : ∀ y, E.vs y ≠ [] := fun y e => by have := E.len y; rw [e] at this; have := E.pos; simp at *; omega
  obtain ⟨g, hg, _, _⟩ := at_cell hown (h 0 y hy) hu (hv y)
  refine .inr ⟨g, 0, hg, fun j x hj i v hiv => ?_⟩
  obtain ⟨g2, hg2, _, hc⟩ := at_cell hown (h j x hj) hu (hv x)
  rw [hg] at hg2
  cases hg2
  rw [Nat.zero_add]
  exact hc i v hiv
theorem own_blk {w : World} {g n s : Nat} {l : List Value} {t : TypeId} (h : Blk w g l t) (hl : l.length = n * s) (h0 : 0 < s) (hn : n ≤ maxLen) : w.ownsRow 0 t s (.slice (some ⟨g, 0, none⟩) n n) n l := by
 refine ⟨hl, .inr ⟨g, n, l.toArray, rfl, by omega, h, Nat.le_refl _, hn, by simpa using hl, ?_⟩⟩
 rw [List.take_of_length_le (by simp [hl])]
theorem at_put {l cs ds : List Value} {s i j : Nat} (hc : cs.length = s) (hd : ds.length = s) (hj : j * s + s ≤ l.length) (hne : i ≠ j) (h : At l s i ds) : At (l.take (j * s) ++ cs ++ l.drop (j * s + cs.length)) s i ds := fun k v hv => by
 have h1 := h k v hv
 have hk : k < s := by have := (List.getElem?_eq_some_iff.1 hv).1; omega
 have hlen : (l.take (j * s)).length = j * s := by simp; omega
 rcases Nat.lt_or_gt_of_ne hne with h2 | h2
 ·
  have h3 : (i + 1) * s ≤ j * s := Nat.mul_le_mul_right _ (by omega)
  rw [Nat.add_mul, Nat.one_mul] at h3
  rw [List.append_assoc, List.getElem?_append_left (by omega), List.getElem?_take, if_pos (by omega)]
  exact h1
 ·
  have h3 : (j + 1) * s ≤ i * s := Nat.mul_le_mul_right _ (by omega)
  rw [Nat.add_mul, Nat.one_mul] at h3
  rw [List.getElem?_append_right (by simp only [List.length_append, hlen]; omega), List.getElem?_drop, List.length_append, hlen]
  rw [show j * s + cs.length + (i * s + k - (j * s + cs.length)) = i * s + k by omega]
  exact h1
theorem at_self {l cs : List Value} {s j : Nat} (hc : cs.length = s) (hj : j * s + s ≤ l.length) : At (l.take (j * s) ++ cs ++ l.drop (j * s + cs.length)) s j cs := fun k v hv => by
 have hk : k < s := by have := (List.getElem?_eq_some_iff.1 hv).1; omega
 have hlen : (l.take (j * s)).length = j * s := by simp; omega
 rw [List.getElem?_append_left (by simp only [List.length_append, hlen]; omega), List.getElem?_append_right (by omega), hlen, Nat.add_sub_cancel_left]
 exact hv
theorem put_len {l cs : List Value} {s j : Nat} (hc : cs.length = s) (hj : j * s + s ≤ l.length) : (l.take (j * s) ++ cs ++ l.drop (j * s + cs.length)).length = l.length := by
 simp; omega
end Go.Proofs.YtlnmlbkeemahcaaGreat
namespace Go.Proofs.YtlnmlbkeemahcaaGreat
open Go.RowKit
set_option linter.unusedVariables false
set_option linter.unusedSimpArgs false
set_option maxRecDepth 6000
def hM (k : Nat) : List Value := [.int .i64 (k : Int), .int .i64 (-(k : Int)), .int .i64 (k : Int)]
def wM (k : Nat) : List Value := [.int .i64 (-(k : Int)), .int .i64 (k : Int), .int .i64 (-(k : Int))]
def rM (k : Nat) : List Value := [.int .i64 (-(k : Int)), .int .i64 (k : Int), .int .i64 (-(k : Int)), .int .i64 (k : Int)]
def pM (k : Nat) : List Value := [.int .i64 (-(k : Int)), .bool false]
def qM (k : Nat) : List Value := [.string { data := #[] }, .int .i64 (-1000 - (k : Int)), .int .i64 0, .int .i64 0, .int .i64 0, .int .i64 0, .slice none 0 0, .slice none 0 0]
def parV (P : Par) (r q : Value) : List Value := [.string P.name, .int .i64 P.entry, .int .i64 P.action, .int .i64 P.restarts, .int .i64 P.inputs, .int .i64 P.outputs, r, q]
def Fl {α : Type} (E : Elem α) (M : Nat → List Value) (ls : List α) (o : ObG) : Prop := o.n = ls.length + 24 ∧ (∀ k y, ls[k]? = some y → At o.xs E.k k (E.vs y)) ∧ (∀ k, ls.length ≤ k → k < ls.length + 24 → At o.xs E.k k (M k))
structure LP (x : Cfg) (j1 j2 : Nat) (O : Nat → Nat → ObG) : Prop where
 n1 : (O 0 1).n = j1
 n2 : (O 0 2).n = min j1 x.cs.length
 n3 : (O 0 3).n = j2
 n4 : (O 0 4).n = min j2 x.ps.length
 n5 : (O 0 5).n = min j2 x.ps.length
 c1 : ∀ i X, i < j1 → x.cs[i]? = some X → At (O 0 1).xs 1 i [cut X.ws.length (O 1 i).u] ∧ At (O 0 2).xs 1 i [(O 1 i).u] ∧ Fl eWin wM X.ws (O 1 i)
 d1 : ∀ i, i < j1 → x.cs.length ≤ i → At (O 0 1).xs 1 i [(O 4 i).u] ∧ (O 4 i).n = 1 ∧ At (O 4 i).xs 3 0 (wM i)
 c3 : ∀ i P, i < j2 → x.ps[i]? = some P → At (O 0 3).xs 8 i (parV P (cut P.rs.length (O 2 i).u) (cut P.ps.length (O 3 i).u)) ∧ At (O 0 4).xs 1 i [(O 2 i).u] ∧ At (O 0 5).xs 1 i [(O 3 i).u] ∧ Fl eRgn rM P.rs (O 2 i) ∧ Fl ePrt pM P.ps (O 3 i)
 d3 : ∀ i, i < j2 → x.ps.length ≤ i → At (O 0 3).xs 8 i (qM i)
section
variable {x : Cfg} {j1 j2 j : Nat} {O : Nat → Nat → ObG}
theorem LP.start (x : Cfg) : LP x 0 0 (fun _ _ => ObG.nil) :=
 ⟨rfl, by simp [ObG.nil], rfl, by simp [ObG.nil], by simp [ObG.nil], fun i X h => by omega, fun i h => by omega, fun i P h => by omega, fun i h => by omega⟩
theorem LP.chs (h : LP x j1 j2 O) (o : ObG) : LP x j1 j2 (updG O 0 0 o) := by
 have e : ∀ a b, ¬ (a = 0 ∧ b = 0) → updG O 0 0 o a b = O a b := fun a b h => updG_ne O _ h
 obtain ⟨n1, n2, n3, n4, n5, c1, d1, c3, d3⟩ := h
 refine ⟨?_, ?_, ?_, ?_, ?_, fun i X hi hX => ?_, fun i hi hX => ?_, fun i X hi hX => ?_, fun i hi hX => ?_⟩
 all_goals simp only [e 0 1 (by omega), e 0 2 (by omega), e 0 3 (by omega), e 0 4 (by omega), e 0 5 (by omega), e 1 _ (by omega), e 2 _ (by omega), e 3 _ (by omega), e 4 _ (by omega)]
 ·
  exact n1
 ·
  exact n2
 ·
  exact n3
 ·
  exact n4
 ·
  exact n5
 ·
  exact c1 i X hi hX
 ·
  exact d1 i hi hX
 ·
  exact c3 i X hi hX
 ·
  exact d3 i hi hX
theorem LP.core (h : LP x j j2 O) {l : ObG} {X : Core} {u2 u1 : Value} (hX : x.cs[j]? = some X) (hl : Fl eWin wM X.ws l) (hl1 : (O 0 1).xs.length = j * 1) (hl2 : (O 0 2).xs.length = j * 1) :
  LP x (j + 1) j2 (updG (updG (updG O 1 j l) 0 2 ⟨u2, j + 1, (O 0 2).xs ++ [l.u]⟩) 0 1 ⟨u1, j + 1, (O 0 1).xs ++ [cut X.ws.length l.u]⟩) := by
 have hlt := (List.getElem?_eq_some_iff.1 hX).1
 obtain ⟨O', hO'⟩ : ∃ O', O' = updG (updG (updG O 1 j l) 0 2 ⟨u2, j + 1, (O 0 2).xs ++ [l.u]⟩) 0 1 ⟨u1, j + 1, (O 0 1).xs ++ [cut X.ws.length l.u]⟩ := ⟨_, rfl⟩
 rw [← hO']
 have e1 : O' 0 1 = ⟨u1, j + 1, (O 0 1).xs ++ [cut X.ws.length l.u]⟩ := by rw [hO', updG_self]
 have e2 : O' 0 2 = ⟨u2, j + 1, (O 0 2).xs ++ [l.u]⟩ := by rw [hO', updG_ne _ _ (by omega), updG_self]
 have e3 : O' 1 j = l := by rw [hO', updG_ne _ _ (by omega), updG_ne _ _ (by omega), updG_self]
 have e4 : ∀ a b, ¬ (a = 1 ∧ b = j) → ¬ (a = 0 ∧ b = 1) → ¬ (a = 0 ∧ b = 2) → O' a b = O a b := fun a b h1 h2 h3 => by rw [hO', updG_ne _ _ h2, updG_ne _ _ h3, updG_ne _ _ h1]
 obtain ⟨n1, n2, n3, n4, n5, c1, d1, c3, d3⟩ := h
 refine ⟨by rw [e1], by rw [e2]; dsimp only; omega, by rw [e4 0 3 (by omega) (by omega) (by omega)]; exact n3, by rw [e4 0 4 (by omega) (by omega) (by omega)]; exact n4, by rw [e4 0 5 (by omega) (by omega) (by omega)]; exact n5, fun i Y hi hY => ?_, fun i hi hX => by omega, fun i P hi hP => ?_, fun i hi hP => ?_⟩
 ·
  rw [e1, e2]
  dsimp only
  by_cases e : i = j
  ·
   subst e
   rw [hX] at hY
   cases hY
   rw [e3]
   exact ⟨At.new hl1 _, At.new hl2 _, hl⟩
  ·
   rw [e4 1 i (by omega) (by omega) (by omega)]
   obtain ⟨a1, a2, a3⟩ := c1 i Y (by omega) hY
   exact ⟨a1.app _, a2.app _, a3⟩
 ·
  rw [e4 0 3 (by omega) (by omega) (by omega), e4 0 4 (by omega) (by omega) (by omega), e4 0 5 (by omega) (by omega) (by omega), e4 2 i (by omega) (by omega) (by omega), e4 3 i (by omega) (by omega) (by omega)]
  exact c3 i P hi hP
 ·
  rw [e4 0 3 (by omega) (by omega) (by omega)]
  exact d3 i hi hP
theorem LP.spareC (h : LP x j j2 O) {l : ObG} {u1 : Value} (hj : x.cs.length ≤ j) (hl : l.n = 1 ∧ At l.xs 3 0 (wM j)) (hl1 : (O 0 1).xs.length = j * 1) :
  LP x (j + 1) j2 (updG (updG O 4 j l) 0 1 ⟨u1, j + 1, (O 0 1).xs ++ [l.u]⟩) := by
 obtain ⟨O', hO'⟩ : ∃ O', O' = updG (updG O 4 j l) 0 1 ⟨u1, j + 1, (O 0 1).xs ++ [l.u]⟩ := ⟨_, rfl⟩
 rw [← hO']
 have e1 : O' 0 1 = ⟨u1, j + 1, (O 0 1).xs ++ [l.u]⟩ := by rw [hO', updG_self]
 have e3 : O' 4 j = l := by rw [hO', updG_ne _ _ (by omega), updG_self]
 have e4 : ∀ a b, ¬ (a = 4 ∧ b = j) → ¬ (a = 0 ∧ b = 1) → O' a b = O a b := fun a b h1 h2 => by rw [hO', updG_ne _ _ h2, updG_ne _ _ h1]
 obtain ⟨n1, n2, n3, n4, n5, c1, d1, c3, d3⟩ := h
 refine ⟨by rw [e1], by rw [e4 0 2 (by omega) (by omega)]; omega, by rw [e4 0 3 (by omega) (by omega)]; exact n3, by rw [e4 0 4 (by omega) (by omega)]; exact n4, by rw [e4 0 5 (by omega) (by omega)]; exact n5, fun i Y hi hY => ?_, fun i hi hX => ?_, fun i P hi hP => ?_, fun i hi hP => ?_⟩
 ·
  have hlt := (List.getElem?_eq_some_iff.1 hY).1
  rw [e1, e4 0 2 (by omega) (by omega), e4 1 i (by omega) (by omega)]
  obtain ⟨a1, a2, a3⟩ := c1 i Y (by omega) hY
  exact ⟨a1.app _, a2, a3⟩
 ·
  rw [e1]
  by_cases e : i = j
  ·
   subst e
   rw [e3]
   exact ⟨At.new hl1 _, hl.1, hl.2⟩
  ·
   rw [e4 4 i (by omega) (by omega)]
   obtain ⟨a1, a2⟩ := d1 i (by omega) hX
   exact ⟨a1.app _, a2⟩
 ·
  rw [e4 0 3 (by omega) (by omega), e4 0 4 (by omega) (by omega), e4 0 5 (by omega) (by omega), e4 2 i (by omega) (by omega), e4 3 i (by omega) (by omega)]
  exact c3 i P hi hP
 ·
  rw [e4 0 3 (by omega) (by omega)]
  exact d3 i hi hP
theorem LP.par (h : LP x j1 j O) {l q : ObG} {P : Par} {u3 u4 u5 : Value} (hP : x.ps[j]? = some P) (hl : Fl eRgn rM P.rs l) (hq : Fl ePrt pM P.ps q) (hl3 : (O 0 3).xs.length = j * 8) (hl4 : (O 0 4).xs.length = j * 1) (hl5 : (O 0 5).xs.length = j * 1) :
  LP x j1 (j + 1) (updG (updG (updG (updG (updG O 2 j l) 3 j q) 0 4 ⟨u4, j + 1, (O 0 4).xs ++ [l.u]⟩) 0 5 ⟨u5, j + 1, (O 0 5).xs ++ [q.u]⟩) 0 3 ⟨u3, j + 1, (O 0 3).xs ++ parV P (cut P.rs.length l.u) (cut P.ps.length q.u)⟩) := by
 have hlt := (List.getElem?_eq_some_iff.1 hP).1
 obtain ⟨O', hO'⟩ : ∃ O', O' = updG (updG (updG (updG (updG O 2 j l) 3 j q) 0 4 ⟨u4, j + 1, (O 0 4).xs ++ [l.u]⟩) 0 5 ⟨u5, j + 1, (O 0 5).xs ++ [q.u]⟩) 0 3 ⟨u3, j + 1, (O 0 3).xs ++ parV P (cut P.rs.length l.u) (cut P.ps.length q.u)⟩ := ⟨_, rfl⟩
 rw [← hO']
 have e1 : O' 0 3 = ⟨u3, j + 1, (O 0 3).xs ++ parV P (cut P.rs.length l.u) (cut P.ps.length q.u)⟩ := by rw [hO', updG_self]
 have e2 : O' 0 5 = ⟨u5, j + 1, (O 0 5).xs ++ [q.u]⟩ := by rw [hO', updG_ne _ _ (by omega), updG_self]
 have e3 : O' 0 4 = ⟨u4, j + 1, (O 0 4).xs ++ [l.u]⟩ := by rw [hO', updG_ne _ _ (by omega), updG_ne _ _ (by omega), updG_self]
 have e5 : O' 3 j = q := by rw [hO', updG_ne _ _ (by omega), updG_ne _ _ (by omega), updG_ne _ _ (by omega), updG_self]
 have e6 : O' 2 j = l := by rw [hO', updG_ne _ _ (by omega), updG_ne _ _ (by omega), updG_ne _ _ (by omega), updG_ne _ _ (by omega), updG_self]
 have e4 : ∀ a b, ¬ (a = 2 ∧ b = j) → ¬ (a = 3 ∧ b = j) → ¬ (a = 0 ∧ b = 3) → ¬ (a = 0 ∧ b = 4) → ¬ (a = 0 ∧ b = 5) → O' a b = O a b := fun a b h1 h2 h3 h4 h5 => by rw [hO', updG_ne _ _ h3, updG_ne _ _ h5, updG_ne _ _ h4, updG_ne _ _ h2, updG_ne _ _ h1]
 obtain ⟨n1, n2, n3, n4, n5, c1, d1, c3, d3⟩ := h
 refine ⟨by rw [e4 0 1 (by omega) (by omega) (by omega) (by omega) (by omega)]; exact n1, by rw [e4 0 2 (by omega) (by omega) (by omega) (by omega) (by omega)]; exact n2, by rw [e1], by rw [e3]; dsimp only; omega, by rw [e2]; dsimp only; omega, fun i Y hi hY => ?_, fun i hi hX => ?_, fun i Q hi hQ => ?_, fun i hi hQ => by omega⟩
 ·
  rw [e4 0 1 (by omega) (by omega) (by omega) (by omega) (by omega), e4 0 2 (by omega) (by omega) (by omega) (by omega) (by omega), e4 1 i (by omega) (by omega) (by omega) (by omega) (by omega)]
  exact c1 i Y hi hY
 ·
  rw [e4 0 1 (by omega) (by omega) (by omega) (by omega) (by omega), e4 4 i (by omega) (by omega) (by omega) (by omega) (by omega)]
  exact d1 i hi hX
 ·
  rw [e1, e2, e3]
  dsimp only
  by_cases e : i = j
  ·
   subst e
   rw [hP] at hQ
   cases hQ
   rw [e5, e6]
   exact ⟨At.new hl3 _, At.new hl4 _, At.new hl5 _, hl, hq⟩
  ·
   rw [e4 2 i (by omega) (by omega) (by omega) (by omega) (by omega), e4 3 i (by omega) (by omega) (by omega) (by omega) (by omega)]
   obtain ⟨a1, a2, a3, a4, a5⟩ := c3 i Q (by omega) hQ
   exact ⟨a1.app _, a2.app _, a3.app _, a4, a5⟩
theorem LP.spareP (h : LP x j1 j O) {u3 : Value} (hj : x.ps.length ≤ j) (hl3 : (O 0 3).xs.length = j * 8) :
  LP x j1 (j + 1) (updG O 0 3 ⟨u3, j + 1, (O 0 3).xs ++ qM j⟩) := by
 obtain ⟨O', hO'⟩ : ∃ O', O' = updG O 0 3 ⟨u3, j + 1, (O 0 3).xs ++ qM j⟩ := ⟨_, rfl⟩
 rw [← hO']
 have e1 : O' 0 3 = ⟨u3, j + 1, (O 0 3).xs ++ qM j⟩ := by rw [hO', updG_self]
 have e4 : ∀ a b, ¬ (a = 0 ∧ b = 3) → O' a b = O a b := fun a b h1 => by rw [hO', updG_ne _ _ h1]
 obtain ⟨n1, n2, n3, n4, n5, c1, d1, c3, d3⟩ := h
 refine ⟨by rw [e4 0 1 (by omega)]; exact n1, by rw [e4 0 2 (by omega)]; exact n2, by rw [e1], by rw [e4 0 4 (by omega)]; omega, by rw [e4 0 5 (by omega)]; omega, fun i Y hi hY => ?_, fun i hi hX => ?_, fun i Q hi hQ => ?_, fun i hi hQ => ?_⟩
 ·
  rw [e4 0 1 (by omega), e4 0 2 (by omega), e4 1 i (by omega)]
  exact c1 i Y hi hY
 ·
  rw [e4 0 1 (by omega), e4 4 i (by omega)]
  exact d1 i hi hX
 ·
  have hlt := (List.getElem?_eq_some_iff.1 hQ).1
  rw [e1, e4 0 4 (by omega), e4 0 5 (by omega), e4 2 i (by omega), e4 3 i (by omega)]
  obtain ⟨a1, a2⟩ := c3 i Q (by omega) hQ
  exact ⟨a1.app _, a2⟩
 ·
  rw [e1]
  by_cases e : i = j
  ·
   subst e
   exact At.new hl3 _
  ·
   exact (d3 i (by omega) hQ).app _
end
end Go.Proofs.YtlnmlbkeemahcaaGreat
