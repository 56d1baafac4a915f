import Derived.Test.YtlnmlbkeemahcaaGreatCn
import Derived.Test.YtlnmlbkeemahcaaGreatMem
import Derived.WalkKit
namespace Go.Proofs.YtlnmlbkeemahcaaGreat
open Go.RowKit
set_option linter.unusedVariables false
theorem Keeps.of_grown {w w' : World} {row : Option Nat} (h : w.grownBy w' row) : Keeps (fun k => some k = row) w w' :=
 ⟨h.os, h.tape, h.output, h.size, fun k hk hn => h.block k hk hn⟩
theorem owns_kept {S : Nat → Prop} {w w' : World} {e : TypeId} {size n : Nat} {v : Value} {vs : List Value} (h : w.ownsRow 0 e size v n vs) (hK : Keeps S w w') (hn : ∀ k, v.ownBlock = some k → ¬ S k) : w'.ownsRow 0 e size v n vs := by
 refine ⟨h.1, ?_⟩
 rcases h.2 with h2 | ⟨g, cap, cur, rfl, hb, hg, h3⟩
 ·
  exact .inl h2
 ·
  refine .inr ⟨g, cap, cur, rfl, hb, ?_, h3⟩
  rw [hK.block g (Array.getElem?_eq_some_iff.1 hg).1 (hn g rfl)]
  exact hg
theorem append_many {w : World} (t e : TypeId) (i : TypeInfo) (z : Value) (size bytes : Nat) (ht : Tryz.prog.underlying t = some (.slice e)) (hi : Tryz.prog.info? e = some i) (hz : i.zero = some z)
  (hs : i.size = size) (hb : i.bytes = bytes) (hzs : z.cells.size = size) (h0 : 0 < size) (v : Value) (n : Nat) (vs : List Value) (hown : w.ownsRow 0 e size v n vs)
  (a : Addr) (m c : Nat) (news : List Value) (hl : news.length = m * size) (hnews : ∀ j u, news[j]? = some u → w.cell? (a.add j) = some u) (h1 : ∀ u ∈ news, u.oneCell' = true)
  (hm : n + m ≤ maxLen) (hbytes : (n + m) * bytes ≤ 140737488355328) :
  ∃ v' W', (∀ ty, (Builtin.append_ #[t, t] ty #[v, .slice (some a) m c]).run Tryz.prog w = .ok v' W') ∧ W'.ownsRow 0 e size v' (n + m) (vs ++ news) ∧
   (v'.ownBlock = v.ownBlock ∨ ∃ k, v'.ownBlock = some k ∧ w.heap.size ≤ k) ∧ Keeps (fun k => some k = v.ownBlock) w W' := by
 obtain ⟨v', W', hr, ho, hg, hnil⟩ := run_append_own (P := Tryz.prog) w 0 t 0 e i z size bytes ht hi hz hs hb hzs h0 v n vs hown a m c news hl hnews h1 hm hbytes (Nat.zero_le _)
 refine ⟨v', W', fun ty => hr, ho, ?_, Keeps.of_grown hg⟩
 have hbig : n + m ≤ 9223372036854775807 := by unfold maxLen at hm; omega
 rcases hown.2 with ⟨rfl, rfl⟩ | ⟨g, cap, cur, rfl, _, hg1, hnc, hcm, hcs, htake⟩
 ·
  by_cases hm0 : m = 0
  ·
   left; rw [hnil.2 ⟨rfl, hm0⟩]
  ·
   have h2 := run_append_nil (P := Tryz.prog) w t 0 e i z ht hi hz a m c news (by rw [hs]; exact hl) hnews (by omega) (by omega) (by
    rw [hb]
    rw [Nat.zero_add] at hbytes
    omega)
   rw [hr] at h2
   have e1 : v' = _ := (Result.ok.inj h2).1
   right
   rw [e1]
   exact ⟨_, rfl, by simp⟩
 ·
  by_cases hroom : n + m ≤ cap
  ·
   have h2 := run_append_room (P := Tryz.prog) w t 0 e i ht hi g n cap cur hg1 a m c news (by rw [hs]; exact hl) hnews h1 hroom (by
    rw [hs, hcs, hl, ← Nat.add_mul]; exact Nat.mul_le_mul_right _ hroom)
   rw [hr] at h2
   have e1 : v' = _ := (Result.ok.inj h2).1
   left
   rw [e1]
   rfl
  ·
   have h2 := run_append_grow (P := Tryz.prog) w t 0 e i z ht hi hz ⟨g, 0, none⟩ n cap vs (by rw [hs]; exact hown.1) (hown.cells rfl) a m c news (by rw [hs]; exact hl) hnews (by omega) (by omega) (by
    rw [hb]; exact growslice_fits (by omega) hbytes)
   rw [hr] at h2
   have e1 : v' = _ := (Result.ok.inj h2).1
   right
   rw [e1]
   exact ⟨_, rfl, by simp⟩
theorem append_none {w : World} (t e : TypeId) (i : TypeInfo) (size : Nat) (ht : Tryz.prog.underlying t = some (.slice e)) (hi : Tryz.prog.info? e = some i)
  (hs : i.size = size) (h0 : 0 < size) (v : Value) (n c : Nat) (vs : List Value) (hown : w.ownsRow 0 e size v n vs) (ty : TypeId) :
  (Builtin.append_ #[t, t] ty #[v, .slice none 0 c]).run Tryz.prog w = .ok v w := by
 rcases hown.2 with ⟨rfl, rfl⟩ | ⟨g, cap, cur, rfl, _, hg1, hnc, hcm, hcs, htake⟩
 ·
  simp [Builtin.append_, run_underlying ht, sizeOf, typeInfo, hi, Builtin.lenOf, run_firstCells_none]
 ·
  simp [Builtin.append_, run_underlying ht, sizeOf, typeInfo, hi, Builtin.lenOf, hnc, run_firstCells_none, storeCells]
theorem append_new {w : World} (t e : TypeId) (i : TypeInfo) (z : Value) (size bytes : Nat) (ht : Tryz.prog.underlying t = some (.slice e)) (hi : Tryz.prog.info? e = some i) (hz : i.zero = some z)
  (hs : i.size = size) (hb : i.bytes = bytes) (hzs : z.cells.size = size) (h0 : 0 < size) (v : Value) (n : Nat) (vs : List Value) (hown : w.ownsRow 0 e size v n vs)
  (xs : Array Value) (hl : xs.size = size) (h1 : ∀ u ∈ xs.toList, u.oneCell' = true)
  (hm : n + 1 ≤ maxLen) (hbytes : (n + 1) * bytes ≤ 140737488355328) :
  ∃ v' W', (∀ ty, (Builtin.append_ #[t, t] ty #[v, .slice (some ⟨w.heap.size, 0, none⟩) 1 1]).run Tryz.prog (w.alloc (.cells xs e)) = .ok v' W') ∧ W'.ownsRow 0 e size v' (n + 1) (vs ++ xs.toList) ∧
   (v'.ownBlock = v.ownBlock ∨ ∃ k, v'.ownBlock = some k ∧ w.heap.size ≤ k) ∧ Keeps (fun k => some k = v.ownBlock) w W' := by
 have hW : KF w (w.alloc (.cells xs e)) := (Keeps.refl _ w).alloc _
 have hown1 : (w.alloc (.cells xs e)).ownsRow 0 e size v n vs := owns_kept hown hW (fun _ _ h => h)
 obtain ⟨v', W', hr, ho, hfr, hK⟩ := append_many t e i z size bytes ht hi hz hs hb hzs h0 v n vs hown1 ⟨w.heap.size, 0, none⟩ 1 1 xs.toList (by simpa using hl) (by
  intro j u hj
  have hB := Blk.new w xs e
  rw [addr_add]
  exact hB.cell (by rw [Nat.zero_add]; exact hj)) h1 hm hbytes
 refine ⟨v', W', hr, ho, ?_, (hW.mono fun _ _ h => h.elim).trans hK fun _ _ h => h⟩
 rcases hfr with h | ⟨k, h, h2⟩
 ·
  exact .inl h
 ·
  exact .inr ⟨k, h, by simp at h2; omega⟩
structure Grew (w : World) (v : Value) (w' : World) (v' : Value) : Prop where
 fresh : v'.ownBlock = v.ownBlock ∨ ∃ k, v'.ownBlock = some k ∧ w.heap.size ≤ k
 keeps : Keeps (fun k => some k = v.ownBlock) w w'
set_option maxRecDepth 6000
variable {α : Type} {E : Elem α}
structure Row (E : Elem α) (w : World) (lo : Nat) (u : Value) (xs : List α) : Prop where
 own : w.ownsRow 0 E.ety E.k u xs.length (xs.flatMap E.vs)
 low : ∀ k, u.ownBlock = some k → lo ≤ k
 ok : ∀ x ∈ xs, E.Ok w x
 bl : ∀ x ∈ xs, ∀ k ∈ E.bl x, lo ≤ k ∧ k < w.heap.size ∧ u.ownBlock ≠ some k
theorem Row.nil (w : World) (lo : Nat) : Row E w lo (.slice none 0 0) [] := ⟨⟨by simp, .inl ⟨rfl, rfl⟩⟩, fun k h => (by cases h), fun x h => (by simp at h), fun x h => (by simp at h)⟩
theorem Row.kept {S : Nat → Prop} {w w' : World} {lo : Nat} {u : Value} {xs : List α} (h : Row E w lo u xs) (hK : Keeps S w w') (hS : ∀ k, S k → k < lo) : Row E w' lo u xs :=
 ⟨owns_kept h.own hK fun k hk hs => by have := h.low k hk; have := hS k hs; omega, h.low, fun x hx => E.kept (h.ok x hx) hK fun k hk hs => by have := (h.bl x hx k hk).1; have := hS k hs; omega,
  fun x hx k hk => ⟨(h.bl x hx k hk).1, Nat.lt_of_lt_of_le (h.bl x hx k hk).2.1 hK.size, (h.bl x hx k hk).2.2⟩⟩
theorem Row.push {w W : World} {lo : Nat} {u v' : Value} {xs : List α} {x : α} (h : Row E w lo u xs) (hx : E.Ok w x) (hb : ∀ k ∈ E.bl x, lo ≤ k ∧ k < w.heap.size ∧ u.ownBlock ≠ some k) (hlo : lo ≤ w.heap.size)
  (hown : W.ownsRow 0 E.ety E.k v' (xs.length + 1) (xs.flatMap E.vs ++ E.vs x)) (hfr : v'.ownBlock = u.ownBlock ∨ ∃ k, v'.ownBlock = some k ∧ w.heap.size ≤ k) (hK : Keeps (fun k => some k = u.ownBlock) w W) : Row E W lo v' (xs ++ [x]) := by
 have hne : ∀ k, lo ≤ k ∧ k < w.heap.size ∧ u.ownBlock ≠ some k → lo ≤ k ∧ k < W.heap.size ∧ v'.ownBlock ≠ some k := by
  rintro k ⟨h1, h2, h3⟩
  refine ⟨h1, Nat.lt_of_lt_of_le h2 hK.size, ?_⟩
  rcases hfr with e | ⟨m, e, hm⟩
  ·
   rw [e]; exact h3
  ·
   rw [e]; intro e'; cases e'; omega
 have hall : ∀ y ∈ xs ++ [x], E.Ok w y ∧ ∀ k ∈ E.bl y, lo ≤ k ∧ k < w.heap.size ∧ u.ownBlock ≠ some k := by
  intro y hy
  rcases List.mem_append.1 hy with hy | hy
  ·
   exact ⟨h.ok y hy, h.bl y hy⟩
  ·
   have : y = x := by simpa using hy
   rw [this]; exact ⟨hx, hb⟩
 refine ⟨?_, ?_, fun y hy => E.kept (hall y hy).1 hK fun k hk e => ((hall y hy).2 k hk).2.2 e.symm, fun y hy k hk => hne k ((hall y hy).2 k hk)⟩
 ·
  rw [List.length_append, List.flatMap_append]; simpa using hown
 ·
  intro k hk
  rcases hfr with e | ⟨m, e, hm⟩
  ·
   exact h.low k (e ▸ hk)
  ·
   rw [e] at hk; cases hk; omega
structure Lst (E : Elem α) (w : World) (lo : Nat) (ad : Option Addr) (cp : Nat) (l : List α) : Prop where
 seg : SegA E.vs E.k w ad l
 len : l.length ≤ cp ∧ cp ≤ maxLen
 low : l ≠ [] → ∀ y, ad = some y → lo ≤ y.block
 ok : ∀ x ∈ l, E.Ok w x
 bl : ∀ x ∈ l, ∀ k ∈ E.bl x, lo ≤ k ∧ k < w.heap.size
theorem Row.lst {w : World} {lo : Nat} {u : Value} {xs : List α} (h : Row E w lo u xs) : ∃ ad cp, u = .slice ad xs.length cp ∧ Lst E w lo ad cp xs := by
 have hb := fun x hx k hk => (⟨(h.bl x hx k hk).1, (h.bl x hx k hk).2.1⟩ : lo ≤ k ∧ k < w.heap.size)
 rcases h.own.2 with ⟨rfl, h0⟩ | ⟨g, cap, cur, rfl, _, hg, h1, h2, h3, h4⟩
 ·
  have : xs = [] := List.length_eq_zero_iff.1 h0
  subst this
  exact ⟨none, 0, rfl, .inl rfl, ⟨by simp, by unfold maxLen; omega⟩, fun e => (e rfl).elim, h.ok, hb⟩
 ·
  refine ⟨some ⟨g, 0, none⟩, cap, rfl, .inr ⟨g, 0, rfl, fun j x hj i v hv => ?_⟩, ⟨h1, h2⟩, fun _ y hy => by cases hy; exact h.low g rfl, h.ok, hb⟩
  have hget := flat_get E xs j x i v hj hv
  have : cur.toList[j * E.k + i]? = some v := by
   have h5 : (cur.toList.take (xs.length * E.k))[j * E.k + i]? = some v := by rw [h4]; exact hget
   rw [List.getElem?_take] at h5
   split at h5
   ·
    exact h5
   ·
    cases h5
  rw [Nat.zero_add]
  have hB : Blk w g cur.toList E.ety := by unfold Blk; rw [Array.toArray_toList]; exact hg
  exact hB.cell this
end Go.Proofs.YtlnmlbkeemahcaaGreat
namespace Go.Proofs.YtlnmlbkeemahcaaGreat
open Go.RowKit
set_option linter.unusedVariables false
set_option maxRecDepth 6000
def Chn.sized (h : Chn) : Bool := decide (1 ≤ h.words) && decide (h.words ≤ 16) && (h.kind == 1 || (h.kind == 2 && decide (1 ≤ h.depth) && decide (h.depth ≤ 8)))
def Chn.plc (h : Chn) : Int := if h.kind = 2 then h.depth * (1 + h.words) else 1 + h.words
def Chn.stg (h : Chn) : Int := 1 + h.plc
def Chn.prt (h : Chn) : Int := if h.kind = 2 then 3 + h.plc else 2 + h.plc
theorem Chn.sized_iff {h : Chn} : h.sized = true ↔ (1 ≤ h.words ∧ h.words ≤ 16 ∧ (h.kind = 1 ∨ (h.kind = 2 ∧ 1 ≤ h.depth ∧ h.depth ≤ 8))) := by
 unfold Chn.sized; simp [and_assoc]
theorem Chn.plc_bd {h : Chn} (hs : h.sized = true) : 2 ≤ h.plc ∧ h.plc ≤ 136 := by
 have h1 := Chn.sized_iff.1 hs
 unfold Chn.plc
 split
 ·
  rename_i e
  have h2 : 1 ≤ h.depth ∧ h.depth ≤ 8 := by rcases h1.2.2 with h3 | h3 <;> omega
  obtain ⟨k, n, d⟩ := h
  dsimp only at *
  have h3 : d = 1 ∨ d = 2 ∨ d = 3 ∨ d = 4 ∨ d = 5 ∨ d = 6 ∨ d = 7 ∨ d = 8 := by omega
  rcases h3 with h3 | h3 | h3 | h3 | h3 | h3 | h3 | h3 <;> subst h3 <;> omega
 ·
  omega
theorem Chn.sized_no {k n d : Int} (h : ¬ (1 ≤ n ∧ n ≤ 16 ∧ (k = 1 ∨ (k = 2 ∧ 1 ≤ d ∧ d ≤ 8)))) : Hid (Chn.sized ⟨k, n, d⟩ = false) := by
 show Chn.sized ⟨k, n, d⟩ = false
 rw [Bool.eq_false_iff, Ne, Chn.sized_iff]; exact h
theorem Chn.sized_yes {k n d : Int} (h : (1 ≤ n ∧ n ≤ 16 ∧ (k = 1 ∨ (k = 2 ∧ 1 ≤ d ∧ d ≤ 8)))) : Hid (Chn.sized ⟨k, n, d⟩ = true) := by
 show Chn.sized ⟨k, n, d⟩ = true
 rw [Chn.sized_iff]; exact h
set_option maxHeartbeats 1000000 in
theorem sized_any (h : Chn) (w : World) : Calls Tryz.prog 138 #[h.v] w fun e w' => e = .returned (.bool h.sized) ∧ KF w w' := by
 obtain ⟨k, n, d⟩ := h
 go_enter Tryz.func138, Tryz.ntmps138
 by_cases h1 : n < 1
 ·
  have e1 : decide (n < 1) = true := by simp [h1]
  have HS := Chn.sized_no (k := k) (n := n) (d := d) (by omega)
  go_wp2
  go_ret
  exact ⟨by rw [HS.out]; rfl, (Keeps.refl _ _).alloc _⟩
 have e1 : decide (n < 1) = false := by simp [h1]
 by_cases h2 : 16 < n
 ·
  have e2 : decide (16 < n) = true := by simp [h2]
  have HS := Chn.sized_no (k := k) (n := n) (d := d) (by omega)
  go_wp2
  go_ret
  exact ⟨by rw [HS.out]; rfl, (Keeps.refl _ _).alloc _⟩
 have e2 : decide (16 < n) = false := by simp [h2]
 by_cases h3 : k = 1
 ·
  have HS := Chn.sized_yes (k := k) (n := n) (d := d) (by omega)
  subst h3
  go_wp2
  go_ret
  exact ⟨by rw [HS.out]; rfl, (Keeps.refl _ _).alloc _⟩
 have e3 : (k == 1) = false := by simp [h3]
 by_cases h4 : k = 2
 ·
  subst h4
  by_cases h5 : 1 ≤ d
  ·
   have e5 : decide (1 ≤ d) = true := by simp [h5]
   by_cases h6 : d ≤ 8
   ·
    have e6 : decide (d ≤ 8) = true := by simp [h6]
    have HS := Chn.sized_yes (k := 2) (n := n) (d := d) (by omega)
    go_wp2
    go_ret
    exact ⟨by rw [HS.out]; rfl, (Keeps.refl _ _).alloc _⟩
   ·
    have e6 : decide (d ≤ 8) = false := by simp [h6]
    have HS := Chn.sized_no (k := 2) (n := n) (d := d) (by omega)
    go_wp2
    go_ret
    exact ⟨by rw [HS.out]; rfl, (Keeps.refl _ _).alloc _⟩
  ·
   have e5 : decide (1 ≤ d) = false := by simp [h5]
   have HS := Chn.sized_no (k := 2) (n := n) (d := d) (by omega)
   go_wp2
   go_ret
   exact ⟨by rw [HS.out]; rfl, (Keeps.refl _ _).alloc _⟩
 ·
  have e4 : (k == 2) = false := by simp [h4]
  have HS := Chn.sized_no (k := k) (n := n) (d := d) (by omega)
  go_wp2
  go_ret
  exact ⟨by rw [HS.out]; rfl, (Keeps.refl _ _).alloc _⟩
set_option maxHeartbeats 1000000 in
theorem places_any (h : Chn) (hs : h.sized = true) (w : World) : Calls Tryz.prog 144 #[h.v] w fun e w' => e = .returned (.int .i64 h.plc) ∧ KF w w' := by
 have hb := Chn.plc_bd hs
 have hs1 := Chn.sized_iff.1 hs
 obtain ⟨k, n, d⟩ := h
 dsimp only at hs1
 have q1 : IntKind.i64.wrap (1 + n) = 1 + n := by rw [IntKind.wrap_i64]; omega
 by_cases h4 : k = 2
 ·
  subst h4
  have hp : Chn.plc ⟨2, n, d⟩ = d * (1 + n) := rfl
  rw [hp] at hb ⊢
  have q2 : IntKind.i64.wrap (d * (1 + n)) = d * (1 + n) := by rw [IntKind.wrap_i64]; omega
  clear hs hs1 hp hb
  go_enter Tryz.func144, Tryz.ntmps144
  go_wp2
  go_ret
  exact ⟨rfl, (Keeps.refl _ _).alloc _⟩
 ·
  have hp : Chn.plc ⟨k, n, d⟩ = 1 + n := by unfold Chn.plc; rw [if_neg h4]
  rw [hp]
  have e4 : (k == 2) = false := by simp [h4]
  clear hs hs1 hp hb
  go_enter Tryz.func144, Tryz.ntmps144
  go_wp2
  go_ret
  exact ⟨rfl, (Keeps.refl _ _).alloc _⟩
theorem stage_any (h : Chn) (hs : h.sized = true) (w : World) : Calls Tryz.prog 140 #[h.v] w fun e w' => e = .returned (.int .i64 h.stg) ∧ KF w w' := by
 have hb := Chn.plc_bd hs
 unfold Chn.stg
 have HC : Hid (∀ w, Calls Tryz.prog 144 #[h.v] w fun e w' => e = .returned (.int .i64 h.plc) ∧ KF w w') := places_any h hs
 obtain ⟨P, hP⟩ : ∃ P, P = h.plc := ⟨_, rfl⟩
 rw [← hP] at hb HC ⊢
 clear hP hs
 have q1 : IntKind.i64.wrap (1 + P) = 1 + P := by rw [IntKind.wrap_i64]; omega
 go_enter Tryz.func140, Tryz.ntmps140
 go_wp2_with fail
 refine (HC.out _).mono ?_
 rintro e w1 ⟨rfl, hK⟩
 have HK : Hid (KF w w1) := ((Keeps.refl _ w).alloc _).trans hK fun _ _ h => h
 clear hK
 go_wp2
 go_ret
 exact ⟨rfl, HK.out⟩
theorem port_any (h : Chn) (hs : h.sized = true) (w : World) : Calls Tryz.prog 141 #[h.v] w fun e w' => e = .returned (.int .i64 h.prt) ∧ KF w w' := by
 have hb := Chn.plc_bd hs
 have HC : Hid (∀ w, Calls Tryz.prog 144 #[h.v] w fun e w' => e = .returned (.int .i64 h.plc) ∧ KF w w') := places_any h hs
 unfold Chn.prt
 obtain ⟨P, hP⟩ : ∃ P, P = h.plc := ⟨_, rfl⟩
 rw [← hP] at hb HC ⊢
 clear hP hs
 obtain ⟨k, n, d⟩ := h
 obtain ⟨W, hW⟩ : ∃ W, W = w.alloc (.cells #[.int .i64 k, .int .i64 n, .int .i64 d] 141) := ⟨_, rfl⟩
 have HW : Hid (KF w W) := by rw [hW]; exact (Keeps.refl _ _).alloc _
 have q1 : IntKind.i64.wrap (3 + P) = 3 + P := by rw [IntKind.wrap_i64]; omega
 have q2 : IntKind.i64.wrap (2 + P) = 2 + P := by rw [IntKind.wrap_i64]; omega
 by_cases h4 : k = 2
 ·
  subst h4
  go_enter Tryz.func141, Tryz.ntmps141
  go_wp2_with fail
  rw [← hW]
  clear hW
  refine (HC.out _).mono ?_
  rintro e w1 ⟨rfl, hK⟩
  have HK : Hid (KF w w1) := HW.out.trans hK fun _ _ h => h
  clear hK
  go_wp2
  go_ret
  exact ⟨rfl, HK.out⟩
 ·
  have e4 : (k == 2) = false := by simp [h4]
  dsimp only
  rw [if_neg h4]
  go_enter Tryz.func141, Tryz.ntmps141
  go_wp2_with fail
  rw [← hW]
  clear hW
  refine (HC.out _).mono ?_
  rintro e w1 ⟨rfl, hK⟩
  have HK : Hid (KF w w1) := HW.out.trans hK fun _ _ h => h
  clear hK
  go_wp2
  go_ret
  exact ⟨rfl, HK.out⟩
theorem Hid.mk' {p : Prop} (h : p) : Hid p := h
def Chn.stgO (h : Chn) : Int := if h.sized then h.stg else 0
def Chn.prtO (h : Chn) : Int := if h.sized then h.prt else 0
def Chn.bod (h : Chn) : Int := if h.sized then (if h.kind = 2 then h.plc else h.words) else 0
theorem Chn.stgO_no {h : Chn} (hs : h.sized = false) : h.stgO = 0 := by unfold Chn.stgO; rw [hs]; rfl
theorem Chn.stgO_yes {h : Chn} (hs : h.sized = true) : h.stgO = h.stg := by unfold Chn.stgO; rw [hs]; rfl
theorem Chn.prtO_no {h : Chn} (hs : h.sized = false) : h.prtO = 0 := by unfold Chn.prtO; rw [hs]; rfl
theorem Chn.prtO_yes {h : Chn} (hs : h.sized = true) : h.prtO = h.prt := by unfold Chn.prtO; rw [hs]; rfl
theorem call_enter {P : Program} {F : FuncId} {fn : Func} (hf : P.funcs[F]? = some fn) (hn : (fn.name == "runtime.NumGoroutine") = false) (hb : fn.body.isNone = false) (args : Array Value) (w : World) :
  (callFunc F args).run P w = .ok (.enter F args) w := by
 have hn' : ¬ fn.name = "runtime.NumGoroutine" := by simpa using hn
 have hb' : ¬ fn.body = none := fun e => by rw [e] at hb; cases hb
 simp [callFunc, go_sem, hf, hn', hb']
set_option maxHeartbeats 1000000 in
theorem Chn.bod_pos {h : Chn} (hs : h.sized = true) : 1 ≤ h.bod ∧ h.bod ≤ 136 := by
 have h1 := Chn.plc_bd hs
 have h2 := Chn.sized_iff.1 hs
 unfold Chn.bod
 rw [hs]
 simp only [if_true]
 split <;> omega
theorem Chn.bod_no {h : Chn} (hs : h.sized = false) : h.bod = 0 := by unfold Chn.bod; rw [hs]; rfl
end Go.Proofs.YtlnmlbkeemahcaaGreat
