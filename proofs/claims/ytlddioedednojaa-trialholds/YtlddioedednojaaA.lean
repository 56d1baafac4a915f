import Derived.Test.YtlddioedednojaaMem
import Derived.Test.YtlddioedednojaaProg
import Derived.DeepKeys2
import Derived.DeepKeys3
import Derived.Deep.MidRow
import Derived.KernelRfl
namespace Go.Proofs.Ytlddioedednojaa
open Go.RowKit
set_option linter.unusedVariables false
set_option maxRecDepth 6000

def wvs (ws : List UInt32) : List Value := ws.map fun x => .int .u32 (x.toNat : Int)
theorem wvs_length (ws : List UInt32) : (wvs ws).length = ws.length := by simp [wvs]
theorem wvs_get (ws : List UInt32) (i : Nat) (h : i < ws.length) : (wvs ws)[i]? = some (.int .u32 (ws[i].toNat : Int)) := by simp [wvs, h]
theorem wvs_take (xs : List UInt32) (n : Nat) : wvs (xs.take n) = (wvs xs).take n := by simp [wvs, List.map_take]
theorem wvs_one (xs : List UInt32) : ∀ v ∈ wvs xs, v.oneCell' = true := by
  intro v hv
  obtain ⟨x, _, rfl⟩ := List.mem_map.1 hv
  rfl
theorem wvs_inj {xs ys : List UInt32} (h : wvs xs = wvs ys) : xs = ys := by
  unfold wvs at h
  refine (List.map_inj_right (f := fun x : UInt32 => Value.int .u32 (x.toNat : Int)) ?_).1 h
  intro a b e
  have e2 : (a.toNat : Int) = b.toNat := by simpa using e
  exact UInt32.toNat_inj.1 (by omega)

def I64 (n : Int) : Prop := -9223372036854775808 ≤ n ∧ n ≤ 9223372036854775807

/-- What has been seen: one thing. -/
structure Sn where
  p : Int
  e : Int
  c : Int
  pc : UInt32
  wd : UInt32
  tr : Int
  rd : Bool
  ad : UInt32
  va : UInt32
  af : List UInt32
deriving DecidableEq
instance : Inhabited Sn := ⟨⟨0, 0, 0, 0, 0, 0, false, 0, 0, []⟩⟩
def Sn.vs (s : Sn) : List Value :=
  [.int .i64 s.p, .int .i64 s.e, .int .i64 s.c, .int .u32 (s.pc.toNat : Int), .int .u32 (s.wd.toNat : Int), .int .i64 s.tr, .bool s.rd, .int .u32 (s.ad.toNat : Int), .int .u32 (s.va.toNat : Int)] ++ wvs s.af
def Sn.v (s : Sn) : Value := .agg s.vs.toArray
structure Sn.Fine (s : Sn) : Prop where
  p : I64 s.p
  e : I64 s.e
  c : I64 s.c
  tr : I64 s.tr
  len : s.af.length = 17
theorem Sn.vs_length {s : Sn} (h : s.Fine) : s.vs.length = 26 := by
  unfold Sn.vs
  rw [List.length_append, wvs_length, h.len]; rfl
theorem Sn.vs_inj {s t : Sn} (h : s.vs = t.vs) : s = t := by
  obtain ⟨p, e, c, pc, wd, tr, rd, ad, va, af⟩ := s
  obtain ⟨p', e', c', pc', wd', tr', rd', ad', va', af'⟩ := t
  simp only [Sn.vs, List.cons_append, List.nil_append, List.cons.injEq, Value.int.injEq, Value.bool.injEq, true_and] at h
  obtain ⟨h1, h2, h3, h4, h5, h6, h7, h8, h9, h10⟩ := h
  have e4 := UInt32.toNat_inj.1 (show pc.toNat = pc'.toNat by omega)
  have e5 := UInt32.toNat_inj.1 (show wd.toNat = wd'.toNat by omega)
  have e8 := UInt32.toNat_inj.1 (show ad.toNat = ad'.toNat by omega)
  have e9 := UInt32.toNat_inj.1 (show va.toNat = va'.toNat by omega)
  rw [h1, h2, h3, e4, e5, h6, h7, e8, e9, wvs_inj h10]
theorem Sn.one (s : Sn) : ∀ v ∈ s.vs, v.oneCell' = true := by
  intro v hv
  unfold Sn.vs at hv
  rcases List.mem_append.1 hv with h | h
  · simp only [List.mem_cons, List.not_mem_nil, or_false] at h
    rcases h with rfl | rfl | rfl | rfl | rfl | rfl | rfl | rfl | rfl <;> rfl
  · exact wvs_one _ _ h

/-! ### Its key: so that two of them can be held against each other -/
theorem wf_u32n (n : Nat) (h : n < 4294967296) : (Lit.int .u32 (n : Int)).wf = true := by
  have h1 : IntKind.u32.min = 0 := rfl
  have h2 : IntKind.u32.max = 4294967295 := rfl
  simp only [Lit.wf, h1, h2, Bool.and_eq_true, decide_eq_true_eq]
  omega
theorem wf_i64n {n : Int} (h : I64 n) : (Lit.int .i64 n).wf = true := by
  have h1 : IntKind.i64.min = -9223372036854775808 := rfl
  have h2 : IntKind.i64.max = 9223372036854775807 := rfl
  unfold I64 at h
  simp only [Lit.wf, h1, h2, Bool.and_eq_true, decide_eq_true_eq]
  omega
theorem lit_u32 (d n : Nat) (h : n < 4294967296) : (Try.prog.keyLits (d + 1) 28 [.int .u32 (n : Int)]).isSome = true := by
  unfold Program.keyLits
  rw [show Try.prog.underlying 28 = some (.int .u32) from Try.underlying28]
  simp [wf_u32n n h]
theorem lit_int (d : Nat) {n : Int} (h : I64 n) : (Try.prog.keyLits (d + 1) 3 [.int .i64 n]).isSome = true := by
  unfold Program.keyLits
  rw [show Try.prog.underlying 3 = some (.int .i64) from Try.underlying3]
  simp [wf_i64n h]
theorem lit_bool (d : Nat) (b : Bool) : (Try.prog.keyLits (d + 1) 4 [.bool b]).isSome = true := by
  unfold Program.keyLits
  rw [show Try.prog.underlying 4 = some .bool from Try.underlying4]
  simp
theorem mapM_isSome {α β : Type} {f : α → Option β} : ∀ {l : List α}, (∀ a ∈ l, (f a).isSome = true) → (l.mapM f).isSome = true
  | [], _ => by simp
  | a :: l, h => by
    obtain ⟨b, hb⟩ := Option.isSome_iff_exists.1 (h a (by simp))
    obtain ⟨bs, hbs⟩ := Option.isSome_iff_exists.1 (mapM_isSome (l := l) fun x hx => h x (by simp [hx]))
    simp [hb, hbs]
theorem lits_arr (d : Nat) (rg : List UInt32) (h : rg.length = 16) : (Try.prog.keyLits (d + 2) 29 (wvs rg)).isSome = true := by
  unfold Program.keyLits
  rw [Try.underlying29]
  have hc : Try.prog.cellsOf 29 = 16 := by kernel_rfl
  have hc1 : Try.prog.cellsOf 28 = 1 := by kernel_rfl
  dsimp only
  rw [if_pos (by rw [hc, wvs_length, h]), Option.isSome_map]
  refine mapM_isSome fun i hi => ?_
  have hi' : i < rg.length := by rw [h]; simpa using hi
  rw [hc1, Nat.mul_one, show ((wvs rg).drop i).take 1 = [.int .u32 (rg[i].toNat : Int)] from ?_]
  · exact lit_u32 d _ (rg[i].toNat_lt)
  · rw [List.take_one, List.head?_drop, wvs_get rg i hi']; rfl
theorem lits_ctx (d : Nat) (ys : List UInt32) (h : ys.length = 17) : (Try.prog.keyLits (d + 3) 31 (wvs ys)).isSome = true := by
  unfold Program.keyLits
  rw [Try.underlying31]
  have hc : Try.prog.cellsOf 31 = 17 := by kernel_rfl
  have hc38 : Try.prog.cellsOf 29 = 16 := by kernel_rfl
  have hc37 : Try.prog.cellsOf 28 = 1 := by kernel_rfl
  dsimp only
  rw [if_pos ⟨by rw [hc, wvs_length, h], by kernel_rfl⟩, Option.isSome_map]
  refine mapM_isSome fun f hf => ?_
  simp only [List.mem_cons, List.not_mem_nil, or_false] at hf
  rcases hf with rfl | rfl
  · dsimp only
    rw [hc38, List.drop_zero, ← wvs_take]
    exact lits_arr d (ys.take 16) (by simp; omega)
  · dsimp only
    rw [hc37, show ((wvs ys).drop 16).take 1 = [.int .u32 ((ys[16]'(by omega)).toNat : Int)] from ?_]
    · exact lit_u32 (d + 1) _ ((ys[16]'(by omega)).toNat_lt)
    · rw [List.take_one, List.head?_drop, wvs_get ys 16 (by omega)]; rfl
theorem key_seen {s : Sn} (h : s.Fine) : ∃ l, keyOf Try.prog 33 s.v = some l := by
  refine Option.isSome_iff_exists.1 ?_
  unfold keyOf
  rw [Try.underlying33]
  have hc : Try.prog.cellsOf 33 = 26 := by kernel_rfl
  dsimp only
  rw [if_pos]
  · rw [Option.isSome_map]
    unfold Program.keyLits
    rw [Try.underlying33]
    dsimp only
    rw [if_pos ⟨by show s.vs.length = _; rw [hc, s.vs_length h], by kernel_rfl⟩, Option.isSome_map]
    refine mapM_isSome fun f hf => ?_
    have c3 : Try.prog.cellsOf 3 = 1 := by kernel_rfl
    have c4 : Try.prog.cellsOf 4 = 1 := by kernel_rfl
    have c28 : Try.prog.cellsOf 28 = 1 := by kernel_rfl
    have c31 : Try.prog.cellsOf 31 = 17 := by kernel_rfl
    have hsz : Try.prog.types.size = 49 + 3 := by kernel_rfl
    have hcs : s.v.cells.toList = s.vs := rfl
    rw [hcs, hsz]
    simp only [List.mem_cons, List.not_mem_nil, or_false] at hf
    rcases hf with rfl | rfl | rfl | rfl | rfl | rfl | rfl | rfl | rfl | rfl
    · dsimp only; rw [c3]; exact lit_int _ h.p
    · dsimp only; rw [c3]; exact lit_int _ h.e
    · dsimp only; rw [c3]; exact lit_int _ h.c
    · dsimp only; rw [c28]; exact lit_u32 _ _ s.pc.toNat_lt
    · dsimp only; rw [c28]; exact lit_u32 _ _ s.wd.toNat_lt
    · dsimp only; rw [c3]; exact lit_int _ h.tr
    · dsimp only; rw [c4]; exact lit_bool _ _
    · dsimp only; rw [c28]; exact lit_u32 _ _ s.ad.toNat_lt
    · dsimp only; rw [c28]; exact lit_u32 _ _ s.va.toNat_lt
    · dsimp only
      rw [c31, show (s.vs.drop 9).take 17 = wvs s.af from ?_]
      · exact lits_ctx 49 _ h.len
      · show (wvs s.af).take 17 = wvs s.af
        exact List.take_of_length_le (by rw [wvs_length, h.len]; exact Nat.le_refl _)
  · rw [show Try.prog.keyType 33 = true by kernel_rfl, Bool.true_and]
    unfold Value.formed Sn.v
    rw [Try.underlying33]
    show (s.vs.toArray.size == Try.prog.cellsOf 33) = true
    rw [hc, List.size_toArray, s.vs_length h]; rfl
theorem eq_seen {s t : Sn} (hs : s.Fine) (ht : t.Fine) (w : World) : (Op.equal 33 s.v t.v).run Try.prog w = .ok (decide (s = t)) w := by
  obtain ⟨l, hl⟩ := key_seen hs
  obtain ⟨m, hm⟩ := key_seen ht
  obtain ⟨r, h1, h2⟩ := run_equal_deep (P := Try.prog) w (m := 5) (by omega) (k := 33) (by kernel_rfl) (by kernel_rfl) hl hm
  rw [h1]
  congr 1
  by_cases e : s = t
  · subst e
    rw [decide_eq_true rfl, h2.2 (Option.some.inj (hl.symm.trans hm))]
  · rw [decide_eq_false e]
    cases r with
    | false => rfl
    | true =>
      refine absurd ?_ e
      have e2 := h2.1 rfl
      subst e2
      have e3 := keyOf_inj_deep (P := Try.prog) (m := 5) (k := 33) (by kernel_rfl) (by kernel_rfl) hl hm
      exact Sn.vs_inj (by simpa [Sn.v] using e3)
theorem neq_seen {s t : Sn} (hs : s.Fine) (ht : t.Fine) (w : World) : (binOp .neq 33 (.agg s.vs.toArray) (.agg t.vs.toArray)).run Try.prog w = .ok (.bool (!decide (s = t))) w := by
  have h := eq_seen hs ht w
  unfold Sn.v at h
  simp only [binOp]
  simp [h]
theorem eql_seen {s t : Sn} (hs : s.Fine) (ht : t.Fine) (w : World) : (binOp .eql 33 (.agg s.vs.toArray) (.agg t.vs.toArray)).run Try.prog w = .ok (.bool (decide (s = t))) w := by
  have h := eq_seen hs ht w
  unfold Sn.v at h
  simp only [binOp]
  simp [h]

/-! ### Lists of them -/
def flatS (ls : List Sn) : List Value := ls.flatMap Sn.vs
theorem flatS_length {ls : List Sn} (h : ∀ s ∈ ls, s.Fine) : (flatS ls).length = ls.length * 26 := by
  unfold flatS
  induction ls with
  | nil => rfl
  | cons a r ih =>
    rw [List.flatMap_cons, List.length_append, ih fun s hs => h s (List.mem_cons_of_mem _ hs), Sn.vs_length (h a (List.mem_cons_self ..)), List.length_cons]
    omega
theorem flatS_get {ls : List Sn} (h : ∀ s ∈ ls, s.Fine) {j : Nat} {s : Sn} (hj : ls[j]? = some s) {i : Nat} {v : Value} (hi : s.vs[i]? = some v) : (flatS ls)[j * 26 + i]? = some v := by
  unfold flatS
  induction ls generalizing j with
  | nil => simp at hj
  | cons a r ih =>
    have ha := Sn.vs_length (h a (List.mem_cons_self ..))
    rw [List.flatMap_cons]
    cases j with
    | zero =>
      simp at hj
      subst hj
      rw [List.getElem?_append_left (by have := (List.getElem?_eq_some_iff.1 hi).1; omega), Nat.zero_mul, Nat.zero_add]
      exact hi
    | succ j =>
      rw [List.getElem?_append_right (by omega), ha, show (j + 1) * 26 + i - 26 = j * 26 + i by omega]
      exact ih (fun s hs => h s (List.mem_cons_of_mem _ hs)) (by simpa using hj)
/-- These can be read at this address. -/
def SegS (w : World) (a : Option Addr) (ls : List Sn) : Prop :=
  ls = [] ∨ ∃ g o, a = some ⟨g, o, none⟩ ∧ ∀ j s, ls[j]? = some s → w.rangeAt g (o + j * 26) s.vs
theorem range_kept {S : Nat → Prop} {w w' : World} {g o : Nat} {cs : List Value} (h : w.rangeAt g o cs) (hK : Keeps S w w') (hn : ¬ S g) : w'.rangeAt g o cs := fun j v hv => by
  have h1 := h j v hv
  have hlt : g < w.heap.size := World.block_lt_of_cell? w _ h1
  rw [World.cell?_of_block (w := w) (hK.block g hlt hn)]
  exact h1
theorem SegS.kept {S : Nat → Prop} {w w' : World} {a : Option Addr} {ls : List Sn} (h : SegS w a ls) (hK : Keeps S w w') (hn : ∀ x, a = some x → ¬ S x.block) : SegS w' a ls := by
  rcases h with h | ⟨g, o, ha, hc⟩
  · exact .inl h
  · exact .inr ⟨g, o, ha, fun j l hj => range_kept (hc j l hj) hK (hn _ ha)⟩
theorem SegS.at {w : World} {a : Option Addr} {ls : List Sn} (h : SegS w a ls) {j : Nat} {s : Sn} (hj : ls[j]? = some s) : ∃ g o, a = some ⟨g, o, none⟩ ∧ w.rangeAt g (o + j * 26) s.vs := by
  rcases h with h | ⟨g, o, ha, hc⟩
  · rw [h] at hj; simp at hj
  · exact ⟨g, o, ha, hc j s hj⟩

/-! ### How long two lists go together -/
def cp : List Sn → List Sn → Nat
  | a :: r, b :: t => if a = b then cp r t + 1 else 0
  | _, _ => 0
theorem cp_comm (a b : List Sn) : cp a b = cp b a := by
  induction a generalizing b with
  | nil => cases b <;> rfl
  | cons x r ih =>
    cases b with
    | nil => rfl
    | cons y t =>
      unfold cp
      by_cases e : x = y
      · rw [if_pos e, if_pos e.symm, ih]
      · rw [if_neg e, if_neg fun h => e h.symm]
theorem cp_le (a b : List Sn) : cp a b ≤ a.length ∧ cp a b ≤ b.length := by
  induction a generalizing b with
  | nil => cases b <;> simp [cp]
  | cons x r ih =>
    cases b with
    | nil => simp [cp]
    | cons y t =>
      have := ih t
      unfold cp
      by_cases e : x = y
      · rw [if_pos e, List.length_cons, List.length_cons]; omega
      · rw [if_neg e]; omega
/-- Up to there they are the same, and there they are not (or one is at its end). -/
theorem cp_eq {a b : List Sn} {k : Nat} (h : ∀ j, j < k → a[j]? = b[j]?) (ha : k ≤ a.length) (hb : k ≤ b.length) (hk : k < a.length → k < b.length → a[k]? ≠ b[k]?) : cp a b = k := by
  induction a generalizing b k with
  | nil => 
    have : k = 0 := by simpa using ha
    subst this
    cases b <;> rfl
  | cons x r ih =>
    cases b with
    | nil =>
      have : k = 0 := by simpa using hb
      subst this
      rfl
    | cons y t =>
      unfold cp
      cases k with
      | zero =>
        have := hk (by simp) (by simp)
        rw [if_neg (by simpa using this)]
      | succ k =>
        have h0 := h 0 (by omega)
        rw [if_pos (by simpa using h0)]
        congr 1
        refine ih (k := k) (fun j hj => by have := h (j + 1) (by omega); simpa using this) (by simpa using ha) (by simpa using hb) fun h1 h2 => ?_
        have := hk (by simpa using h1) (by simpa using h2)
        simpa using this
theorem cp_before (a b : List Sn) : ∀ j, j < cp a b → a[j]? = b[j]? := by
  induction a generalizing b with
  | nil => intro j hj; cases b <;> simp [cp] at hj
  | cons x r ih =>
    cases b with
    | nil => intro j hj; simp [cp] at hj
    | cons y t =>
      intro j hj
      unfold cp at hj
      by_cases e : x = y
      · rw [if_pos e] at hj
        cases j with
        | zero => simp [e]
        | succ j => simpa using ih t j (by omega)
      · rw [if_neg e] at hj; omega
end Go.Proofs.Ytlddioedednojaa
