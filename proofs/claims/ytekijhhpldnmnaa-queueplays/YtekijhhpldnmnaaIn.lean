import Derived.Test.YtekijhhpldnmnaaAa
import Derived.ProofKit
import Derived.OpenShut
import Derived.ChangeOld
import Derived.ChangeSlices
import Derived.Deep.Slices
import Derived.Deep.Strs
import Derived.SizedLaws
namespace Go.Proofs.Ytekijhhpldnmnaa
open Go.ChangeShapes Go.WideShapes Go.ChangeAt Go.RowKit Go.Deep
set_option linter.unusedVariables false
set_option linter.unusedSimpArgs false

theorem own : ownKnob Try.prog.godebug = none := by kernel_rfl
theorem laidOut : laidOutB Try.prog = true := by kernel_rfl
theorem wf_u32 {n : Int} (h : (Lit.int .u32 n).wf = true) : 0 ≤ n ∧ n < 4294967296 := by
  have : 0 ≤ n ∧ n ≤ 4294967295 := by simpa [Lit.wf, IntKind.min, IntKind.max, IntKind.signed, IntKind.bits] using h
  omega
theorem wf_i64 {n : Int} (h : (Lit.int .i64 n).wf = true) : -9223372036854775808 ≤ n ∧ n ≤ 9223372036854775807 := by
  simpa [Lit.wf, IntKind.min, IntKind.max, IntKind.signed, IntKind.bits] using h
theorem cells3 : Try.prog.cellsOf 3 = 1 := by kernel_rfl
theorem cells22 : Try.prog.cellsOf 22 = 1 := by kernel_rfl
theorem cells23 : Try.prog.cellsOf 23 = 1 := by kernel_rfl
theorem cells25 : Try.prog.cellsOf 25 = 4 := by kernel_rfl
theorem cells33 : Try.prog.cellsOf 33 = 1 := by kernel_rfl
theorem cells35 : Try.prog.cellsOf 35 = 6 := by kernel_rfl
theorem cells41 : Try.prog.cellsOf 41 = 1 := by kernel_rfl
theorem cells45 : Try.prog.cellsOf 45 = 2 := by kernel_rfl
theorem cells52 : Try.prog.cellsOf 52 = 1 := by kernel_rfl
theorem bytes3 : Try.prog.bytesOf 3 = 8 := by kernel_rfl
theorem bytes52 : Try.prog.bytesOf 52 = 4 := by kernel_rfl
theorem weights_mem {H : Type} {P : Program} {e : TypeId} {d : DataW H} {q : Nat} : ∀ {ds : List (DataW H)}, d ∈ ds → q ∈ d.weights P e → q ∈ DataW.weightsAll P e ds
  | [], h, _ => by cases h
  | x :: r, h, hq => by
    simp only [DataW.weightsAll, List.mem_append]
    rcases List.mem_cons.1 h with rfl | h
    · exact .inl hq
    · exact .inr (weights_mem h hq)
theorem lits_length (k : IntKind) (zs : List Int) {H : Type} : (lits (H := H) k zs).length = zs.length := by simp [lits]

/-- A list of ints, by its cell. -/
theorem ints_cell {H : Type} {enc : TypeId × Value → H} {W : World} {cs : List Value} {x : DataW H × List MemPlace} {fuel : Nat}
    (h : DataW.trod enc Try.prog W 0 (fun _ => true) true fuel 33 cs = some x) : ∃ a zs c, cs = [.slice a (List.length (α := Int) zs) c] ∧ (zs.length ≤ c ∧ c ≤ maxLen) ∧ SegI W a zs ∧ (∀ z ∈ zs, -9223372036854775808 ≤ z ∧ z ≤ 9223372036854775807) ∧ ((∀ q ∈ DataW.weights Try.prog 33 x.1, q ≤ reachBytes) → zs.length ≤ 17592186044416) := by
  rcases open_ints Try.underlying33 Try.underlying3 (by kernel_rfl) h with ⟨hcs, _⟩ | ⟨x, len, cap, zs, hcs, _, hl, hm, hz, hx, hcell, hwz⟩
  · exact ⟨none, [], 0, hcs, ⟨Nat.zero_le _, Nat.zero_le _⟩, .inl rfl, (fun z hz => by cases hz), fun _ => Nat.zero_le _⟩
  · have hz' : zs.length = cap := by simpa using hz
    have hlen : (zs.take len).length = len := by simp; omega
    refine ⟨some x, zs.take len, cap, by rw [hlen]; exact hcs, by rw [hlen]; omega, ?_, (fun z hz => wf_i64 (hwz z (List.mem_of_mem_take hz))), fun hq => ?_⟩
    rotate_left
    · rw [hx] at hq
      have h1 := hq (((lits (H := H) .i64 (zs.take len)).length + (lits (H := H) .i64 (zs.drop len)).length) * Try.prog.bytesOf 3) (by simp [DataW.weights, Try.underlying33])
      rw [bytes3, lits_length, lits_length] at h1
      have h2 : reachBytes = 140737488351232 := rfl
      rw [h2] at h1
      rw [hlen]
      simp at h1
      omega
    by_cases h0 : len = 0
    · exact .inl (List.eq_nil_of_length_eq_zero (by rw [hlen]; exact h0))
    · obtain ⟨b, off, spot⟩ := x
      have hc := hcell 0 (by omega)
      have hspot : spot = none := by simpa [Addr.add] using World.cell?_spot hc
      subst hspot
      refine .inr ⟨b, off, rfl, fun j hj => ?_⟩
      rw [hlen] at hj
      have h1 := hcell j (by omega)
      rw [addr_add] at h1
      rw [h1]
      have hj' : j < zs.length := by omega
      have e1 : zs.getD j 0 = zs[j] := by simp [List.getD, hj']
      have e2 : (zs.take len)[j]'(by rw [hlen]; exact hj) = zs[j] := by simp
      rw [e1, e2]

/-- A list of words, by its cell. -/
theorem words_cell {H : Type} {enc : TypeId × Value → H} {W : World} {cs : List Value} {x : DataW H × List MemPlace} {fuel : Nat}
    (h : DataW.trod enc Try.prog W 0 (fun _ => true) true fuel 22 cs = some x) : ∃ a ws c, cs = [.slice a (List.length (α := UInt32) ws) c] ∧ (ws.length ≤ c ∧ c ≤ maxLen) ∧ SegW W a ws ∧ ((∀ q ∈ DataW.weights Try.prog 22 x.1, q ≤ reachBytes) → ws.length ≤ 35184372087808) := by
  rcases open_ints Try.underlying22 Try.underlying52 (by kernel_rfl) h with ⟨hcs, _⟩ | ⟨x, len, cap, zs, hcs, _, hl, hm, hz, hx, hcell, hwz⟩
  · exact ⟨none, [], 0, hcs, ⟨Nat.zero_le _, Nat.zero_le _⟩, .inl rfl, fun _ => Nat.zero_le _⟩
  · have hz' : zs.length = cap := by simpa using hz
    have hlen : ((zs.take len).map fun z => UInt32.ofNat z.toNat).length = len := by simp; omega
    refine ⟨some x, (zs.take len).map fun z => UInt32.ofNat z.toNat, cap, by rw [hlen]; exact hcs, by rw [hlen]; omega, ?_, fun hq => ?_⟩
    rotate_left
    · rw [hx] at hq
      have h1 := hq (((lits (H := H) .u32 (zs.take len)).length + (lits (H := H) .u32 (zs.drop len)).length) * Try.prog.bytesOf 52) (by simp [DataW.weights, Try.underlying22])
      rw [bytes52, lits_length, lits_length] at h1
      have h2 : reachBytes = 140737488351232 := rfl
      rw [h2] at h1
      rw [hlen]
      simp at h1
      omega
    by_cases h0 : len = 0
    · exact .inl (List.eq_nil_of_length_eq_zero (by rw [hlen]; exact h0))
    · obtain ⟨b, off, spot⟩ := x
      have hc := hcell 0 (by omega)
      have hspot : spot = none := by simpa [Addr.add] using World.cell?_spot hc
      subst hspot
      refine .inr ⟨b, off, rfl, fun j hj => ?_⟩
      rw [hlen] at hj
      have h1 := hcell j (by omega)
      rw [addr_add] at h1
      rw [h1]
      have hj' : j < zs.length := by omega
      have h2 := wf_u32 (hwz zs[j] (List.getElem_mem _))
      have e1 : zs.getD j 0 = zs[j] := by simp [List.getD, hj']
      have e2 : ((zs.take len).map fun z => UInt32.ofNat z.toNat)[j]'(by rw [hlen]; exact hj) = UInt32.ofNat zs[j].toNat := by simp
      rw [e1, e2, UInt32.toNat_ofNat']
      congr 2
      omega

/-- A call with its lists. -/
structure Opn where
  k : Int
  p : Int
  n : Int
  d : Int
  pa : Option Addr
  pc : Nat
  ps : List Int
  ma : Option Addr
  mc : Nat
  ms : List UInt32
instance : Inhabited Opn := ⟨⟨0, 0, 0, 0, none, 0, [], none, 0, []⟩⟩
def Opn.vs (o : Opn) : List Value := [.int .i64 o.k, .int .i64 o.p, .int .i64 o.n, .int .i64 o.d, .slice o.pa o.ps.length o.pc, .slice o.ma o.ms.length o.mc]
abbrev Opn.v (o : Opn) : Value := .agg #[.int .i64 o.k, .int .i64 o.p, .int .i64 o.n, .int .i64 o.d, .slice o.pa o.ps.length o.pc, .slice o.ma o.ms.length o.mc]
structure Opn.Ok (o : Opn) (w : World) : Prop where
  p : -9223372036854775808 ≤ o.p ∧ o.p ≤ 9223372036854775807
  n : -9223372036854775808 ≤ o.n ∧ o.n ≤ 9223372036854775807
  d : -9223372036854775808 ≤ o.d ∧ o.d ≤ 9223372036854775807
  pl : o.ps.length ≤ o.pc ∧ o.pc ≤ maxLen
  ps : SegI w o.pa o.ps
  pt : ∀ z ∈ o.ps, -9223372036854775808 ≤ z ∧ z ≤ 9223372036854775807
  ml : o.ms.length ≤ o.mc ∧ o.mc ≤ maxLen
  ms : SegW w o.ma o.ms
theorem Opn.Ok.grown {x : Opn} {w w' : World} (h : x.Ok w) (k : Keeps (fun _ => False) w w') : x.Ok w' := ⟨h.p, h.n, h.d, h.pl, h.ps.kept k fun _ _ e => e, h.pt, h.ml, h.ms.kept k fun _ _ e => e⟩
def Opn.Sz (o : Opn) : Prop := o.ps.length ≤ 17592186044416 ∧ o.ms.length ≤ 35184372087808

/-- A message that is put, a frame's end, or a message that is taken. -/
structure Ac where
  k : Int
  ma : Option Addr
  mc : Nat
  ms : List UInt32
instance : Inhabited Ac := ⟨⟨0, none, 0, []⟩⟩
def Ac.vs (o : Ac) : List Value := [.int .i64 o.k, .slice o.ma o.ms.length o.mc]
structure Ac.Ok (o : Ac) (w : World) : Prop where
  ml : o.ms.length ≤ o.mc ∧ o.mc ≤ maxLen
  ms : SegW w o.ma o.ms
def Ac.Sz (o : Ac) : Prop := o.ms.length ≤ 35184372087808
theorem Ac.Ok.grown {x : Ac} {w w' : World} (h : x.Ok w) (k : Keeps (fun _ => False) w w') : x.Ok w' := ⟨h.ml, h.ms.kept k fun _ _ e => e⟩

def OpnAt (w : World) (g o : Nat) (x : Opn) : Prop := ∀ i v, x.vs[i]? = some v → w.cell? ⟨g, o + i, none⟩ = some v
theorem OpnAt.kept {S : Nat → Prop} {w w' : World} {g o : Nat} {x : Opn} (h : OpnAt w g o x) (k : Keeps S w w') (hn : ¬ S g) : OpnAt w' g o x := by
  intro i v hv
  exact cell_kept (h i v hv) k hn
/-- These can be read at this address. -/
def SegOpn (w : World) (a : Option Addr) (xs : List Opn) : Prop :=
  xs = [] ∨ ∃ g o, a = some ⟨g, o, none⟩ ∧ ∀ j x, xs[j]? = some x → OpnAt w g (o + j * 6) x
theorem SegOpn.grown {w w' : World} {a : Option Addr} {xs : List Opn} (h : SegOpn w a xs) (k : Keeps (fun _ => False) w w') : SegOpn w' a xs := by
  rcases h with h | ⟨g, o, ha, hc⟩
  · exact .inl h
  · exact .inr ⟨g, o, ha, fun j l hj => (hc j l hj).kept k fun e => e⟩

set_option maxRecDepth 100000 in
/-- A list of them, by its cell. -/
theorem opns_cell {H : Type} {enc : TypeId × Value → H} {W : World} {cs : List Value} {y : DataW H × List MemPlace} {fuel : Nat}
    (h : DataW.trod enc Try.prog W 0 (fun _ => true) true fuel 23 cs = some y) : ∃ a os c, cs = [.slice a (List.length (α := Opn) os) c] ∧ (os.length ≤ c ∧ c ≤ maxLen) ∧ SegOpn W a os ∧ (∀ o ∈ os, o.Ok W) ∧ ((∀ q ∈ DataW.weights Try.prog 23 y.1, q ≤ reachBytes) → ∀ o ∈ os, o.Sz) := by
  rcases open_slice Try.underlying23 h with ⟨hcs, _⟩ | ⟨x, len, c, m, n, D, Pl, hcs, _, hl, hm, hmm, hx, hcell⟩
  · exact ⟨none, [], 0, hcs, ⟨Nat.zero_le _, Nat.zero_le _⟩, .inl rfl, (fun it hit => by cases hit), fun _ it hit => by cases hit⟩
  · have hmc : m = c := by simpa using hmm
    subst hmc
    have each : ∀ i, i < len → ∃ d : Opn, (∀ q u, d.vs[q]? = some u → W.cell? (x.add (i * 6 + q)) = some u) ∧ d.Ok W ∧ ((∀ q ∈ DataW.weights Try.prog 35 (D i), q ≤ reachBytes) → d.Sz) := by
      intro i hi
      obtain ⟨cs', h1, h2⟩ := hcell i (by omega)
      rw [cells35] at h1
      obtain ⟨_, hlen8, hc8⟩ := World.cells?_some h1
      obtain ⟨xs, n', _, hxs, _, hlenx, hfs⟩ := DataW.trod_struct Try.underlying35 h2
      obtain ⟨y0, y1, y2, y3, y4, y5, rfl⟩ : ∃ y0 y1 y2 y3 y4 y5, xs = [y0, y1, y2, y3, y4, y5] := by
        match xs, hlenx with
        | [y0, y1, y2, y3, y4, y5], _ => exact ⟨y0, y1, y2, y3, y4, y5, rfl⟩
      obtain ⟨c0, c1, c2, c3, c4, c5, rfl⟩ : ∃ c0 c1 c2 c3 c4 c5, cs' = [c0, c1, c2, c3, c4, c5] := by
        match cs', hlen8 with
        | [c0, c1, c2, c3, c4, c5], _ => exact ⟨c0, c1, c2, c3, c4, c5, rfl⟩
      have g0 := hfs 0 _ rfl
      have g1 := hfs 1 _ rfl
      have g2 := hfs 2 _ rfl
      have g3 := hfs 3 _ rfl
      have g4 := hfs 4 _ rfl
      have g5 := hfs 5 _ rfl
      simp [cells3, cells22, cells33] at g0 g1 g2 g3 g4 g5
      obtain ⟨K0, e0, _, w0⟩ := DataW.trod_int Try.underlying3 g0
      obtain ⟨K1, e1, _, w1⟩ := DataW.trod_int Try.underlying3 g1
      obtain ⟨K2, e2, _, w2⟩ := DataW.trod_int Try.underlying3 g2
      obtain ⟨K3, e3, _, w3⟩ := DataW.trod_int Try.underlying3 g3
      obtain ⟨a4, l4, k4, e4, b4, s4, f4, m4⟩ := ints_cell g4
      obtain ⟨a5, l5, k5, e5, b5, s5, m5⟩ := words_cell g5
      simp at e0 e1 e2 e3 e4 e5
      subst e0 e1 e2 e3 e4 e5
      refine ⟨⟨K0, K1, K2, K3, a4, k4, l4, a5, k5, l5⟩, ?_, ⟨wf_i64 w1, wf_i64 w2, wf_i64 w3, b4, s4, f4, b5, s5⟩, ?_⟩
      rotate_left
      · have e9 : D i = .agg [y0.1, y1.1, y2.1, y3.1, y4.1, y5.1] := (Prod.mk.inj hxs).1
        intro hq
        refine ⟨m4 fun q hqj => hq q ?_, m5 fun q hqj => hq q ?_⟩
        · rw [e9]
          simp only [DataW.weights, Try.underlying35]
          exact DataW.weights_mem_each (j := 4) (t := 33) (d := y4.1) (by kernel_rfl) rfl q hqj
        · rw [e9]
          simp only [DataW.weights, Try.underlying35]
          exact DataW.weights_mem_each (j := 5) (t := 22) (d := y5.1) (by kernel_rfl) rfl q hqj
      intro q u hq
      have hq8 : q < 6 := (List.getElem?_eq_some_iff.1 hq).1
      have h3 := hc8 q hq8
      rw [add_add] at h3
      rw [h3, ← hq]
      rfl
    obtain ⟨V, hV⟩ := choose_lt each
    refine ⟨some x, (List.range len).map V, m, by simpa using hcs, by simp; omega, ?_, ?_, ?_⟩
    · by_cases h0 : len = 0
      · exact .inl (by simp [h0])
      · obtain ⟨b, off, spot⟩ := x
        have hc := (hV 0 (by omega)).1 0 _ rfl
        have hspot : spot = none := by simpa [Addr.add] using World.cell?_spot hc
        subst hspot
        refine .inr ⟨b, off, rfl, fun j l hj => ?_⟩
        have hj' : j < len := by
          have := (List.getElem?_eq_some_iff.1 hj).1
          simpa using this
        have e : l = V j := by simp [hj'] at hj; exact hj.symm
        subst e
        intro i v hv
        have h1 := (hV j hj').1 i v hv
        rw [addr_add] at h1
        rw [Nat.add_assoc]; exact h1
    · intro l hl
      obtain ⟨i, hi, rfl⟩ := List.mem_map.1 hl
      exact (hV i (by simpa using hi)).2.1
    · intro hq o ho
      obtain ⟨i, hi, rfl⟩ := List.mem_map.1 ho
      have e7 : y.1 = .slice ((List.range len).map D) ((List.range (m - len)).map fun j => D (len + j)) := by rw [hx]
      refine (hV i (by simpa using hi)).2.2 fun q hqi => hq q ?_
      rw [e7]
      have h1 : q ∈ DataW.weightsAll Try.prog 35 ((List.range len).map D) := weights_mem (List.mem_map.2 ⟨i, hi, rfl⟩) hqi
      simp only [DataW.weights, Try.underlying23, List.mem_cons, List.mem_append]
      exact .inr (.inl h1)

def AcAt (w : World) (g o : Nat) (x : Ac) : Prop := ∀ i v, x.vs[i]? = some v → w.cell? ⟨g, o + i, none⟩ = some v
theorem AcAt.kept {S : Nat → Prop} {w w' : World} {g o : Nat} {x : Ac} (h : AcAt w g o x) (k : Keeps S w w') (hn : ¬ S g) : AcAt w' g o x := by
  intro i v hv
  exact cell_kept (h i v hv) k hn
/-- These can be read at this address. -/
def SegAc (w : World) (a : Option Addr) (xs : List Ac) : Prop :=
  xs = [] ∨ ∃ g o, a = some ⟨g, o, none⟩ ∧ ∀ j x, xs[j]? = some x → AcAt w g (o + j * 2) x
theorem SegAc.grown {w w' : World} {a : Option Addr} {xs : List Ac} (h : SegAc w a xs) (k : Keeps (fun _ => False) w w') : SegAc w' a xs := by
  rcases h with h | ⟨g, o, ha, hc⟩
  · exact .inl h
  · exact .inr ⟨g, o, ha, fun j l hj => (hc j l hj).kept k fun e => e⟩

set_option maxRecDepth 100000 in
/-- A list of them, by its cell. -/
theorem acts_cell {H : Type} {enc : TypeId × Value → H} {W : World} {cs : List Value} {y : DataW H × List MemPlace} {fuel : Nat}
    (h : DataW.trod enc Try.prog W 0 (fun _ => true) true fuel 41 cs = some y) : ∃ a os c, cs = [.slice a (List.length (α := Ac) os) c] ∧ (os.length ≤ c ∧ c ≤ maxLen) ∧ SegAc W a os ∧ (∀ o ∈ os, o.Ok W) ∧ ((∀ q ∈ DataW.weights Try.prog 41 y.1, q ≤ reachBytes) → ∀ o ∈ os, o.Sz) := by
  rcases open_slice Try.underlying41 h with ⟨hcs, _⟩ | ⟨x, len, c, m, n, D, Pl, hcs, _, hl, hm, hmm, hx, hcell⟩
  · exact ⟨none, [], 0, hcs, ⟨Nat.zero_le _, Nat.zero_le _⟩, .inl rfl, (fun it hit => by cases hit), fun _ it hit => by cases hit⟩
  · have hmc : m = c := by simpa using hmm
    subst hmc
    have each : ∀ i, i < len → ∃ d : Ac, (∀ q u, d.vs[q]? = some u → W.cell? (x.add (i * 2 + q)) = some u) ∧ d.Ok W ∧ ((∀ q ∈ DataW.weights Try.prog 45 (D i), q ≤ reachBytes) → d.Sz) := by
      intro i hi
      obtain ⟨cs', h1, h2⟩ := hcell i (by omega)
      rw [cells45] at h1
      obtain ⟨_, hlen8, hc8⟩ := World.cells?_some h1
      obtain ⟨xs, n', _, hxs, _, hlenx, hfs⟩ := DataW.trod_struct Try.underlying45 h2
      obtain ⟨y0, y1, rfl⟩ : ∃ y0 y1, xs = [y0, y1] := by
        match xs, hlenx with
        | [y0, y1], _ => exact ⟨y0, y1, rfl⟩
      obtain ⟨c0, c1, rfl⟩ : ∃ c0 c1, cs' = [c0, c1] := by
        match cs', hlen8 with
        | [c0, c1], _ => exact ⟨c0, c1, rfl⟩
      have g0 := hfs 0 _ rfl
      have g1 := hfs 1 _ rfl
      simp [cells3, cells22, cells33] at g0 g1
      obtain ⟨K0, e0, _, w0⟩ := DataW.trod_int Try.underlying3 g0
      obtain ⟨a1, l1, k1, e1, b1, s1, m1⟩ := words_cell g1
      simp at e0 e1
      subst e0 e1
      refine ⟨⟨K0, a1, k1, l1⟩, ?_, ⟨b1, s1⟩, ?_⟩
      rotate_left
      · have e9 : D i = .agg [y0.1, y1.1] := (Prod.mk.inj hxs).1
        intro hq
        refine m1 fun q hqj => hq q ?_
        · rw [e9]
          simp only [DataW.weights, Try.underlying45]
          exact DataW.weights_mem_each (j := 1) (t := 22) (d := y1.1) (by kernel_rfl) rfl q hqj
      intro q u hq
      have hq8 : q < 2 := (List.getElem?_eq_some_iff.1 hq).1
      have h3 := hc8 q hq8
      rw [add_add] at h3
      rw [h3, ← hq]
      rfl
    obtain ⟨V, hV⟩ := choose_lt each
    refine ⟨some x, (List.range len).map V, m, by simpa using hcs, by simp; omega, ?_, ?_, ?_⟩
    · by_cases h0 : len = 0
      · exact .inl (by simp [h0])
      · obtain ⟨b, off, spot⟩ := x
        have hc := (hV 0 (by omega)).1 0 _ rfl
        have hspot : spot = none := by simpa [Addr.add] using World.cell?_spot hc
        subst hspot
        refine .inr ⟨b, off, rfl, fun j l hj => ?_⟩
        have hj' : j < len := by
          have := (List.getElem?_eq_some_iff.1 hj).1
          simpa using this
        have e : l = V j := by simp [hj'] at hj; exact hj.symm
        subst e
        intro i v hv
        have h1 := (hV j hj').1 i v hv
        rw [addr_add] at h1
        rw [Nat.add_assoc]; exact h1
    · intro l hl
      obtain ⟨i, hi, rfl⟩ := List.mem_map.1 hl
      exact (hV i (by simpa using hi)).2.1
    · intro hq o ho
      obtain ⟨i, hi, rfl⟩ := List.mem_map.1 ho
      have e7 : y.1 = .slice ((List.range len).map D) ((List.range (m - len)).map fun j => D (len + j)) := by rw [hx]
      refine (hV i (by simpa using hi)).2.2 fun q hqi => hq q ?_
      rw [e7]
      have h1 : q ∈ DataW.weightsAll Try.prog 45 ((List.range len).map D) := weights_mem (List.mem_map.2 ⟨i, hi, rfl⟩) hqi
      simp only [DataW.weights, Try.underlying41, List.mem_cons, List.mem_append]
      exact .inr (.inl h1)

set_option maxRecDepth 100000 in
/-- A list of acts that came in. -/
theorem acts_in {H : Type} {enc : TypeId × Value → H} {W : World} {v : Value} {d : DataW H} {p : List MemPlace} {base : Nat} (hv : Value.okWide Try.prog W .any base 41 v)
    (h : DataW.Trod enc Try.prog W 0 (fun _ => true) true 41 v d p) : ∃ a os c, v = .slice a (List.length (α := Ac) os) c ∧ (os.length ≤ c ∧ c ≤ maxLen) ∧ SegAc W a os ∧ (∀ o ∈ os, o.Ok W) ∧ ((∀ q ∈ DataW.weights Try.prog 41 d, q ≤ reachBytes) → ∀ o ∈ os, o.Sz) := by
  obtain ⟨a0, len, cap, rfl⟩ := okWide_slice Try.underlying41 hv
  obtain ⟨fuel, hf⟩ := h
  obtain ⟨a, os, c, hcs, h1, h2, h3, h4⟩ := acts_cell hf
  simp [Value.cells] at hcs
  obtain ⟨rfl, rfl, rfl⟩ := hcs
  exact ⟨_, os, _, rfl, h1, h2, h3, h4⟩

/-- A case. -/
structure Cas where
  fr : Int
  fm : Int
  wa : Option Addr
  wc : Nat
  ws : List UInt32
  oa : Option Addr
  oc : Nat
  os : List Opn
abbrev Cas.v (x : Cas) : Value := .agg #[.int .i64 x.fr, .int .i64 x.fm, .slice x.wa x.ws.length x.wc, .slice x.oa x.os.length x.oc]
structure Cas.Ok (x : Cas) (w : World) : Prop where
  fr : -9223372036854775808 ≤ x.fr ∧ x.fr ≤ 9223372036854775807
  fm : -9223372036854775808 ≤ x.fm ∧ x.fm ≤ 9223372036854775807
  wl : x.ws.length ≤ x.wc ∧ x.wc ≤ maxLen
  ws : SegW w x.wa x.ws
  ol : x.os.length ≤ x.oc ∧ x.oc ≤ maxLen
  os : SegOpn w x.oa x.os
  each : ∀ o ∈ x.os, o.Ok w

set_option maxRecDepth 100000 in
/-- A case that came in. -/
theorem case_in {H : Type} {enc : TypeId × Value → H} {W : World} {v : Value} {d : DataW H} {p : List MemPlace} {base : Nat} (hv : Value.okWide Try.prog W .any base 25 v)
    (h : DataW.Trod enc Try.prog W 0 (fun _ => true) true 25 v d p) : ∃ x : Cas, v = x.v ∧ x.Ok W ∧ ((∀ q ∈ DataW.weights Try.prog 25 d, q ≤ reachBytes) → ∀ o ∈ x.os, o.Sz) := by
  obtain ⟨cs, rfl, hsz⟩ := okWide_struct Try.underlying25 hv
  obtain ⟨fuel, hf⟩ := h
  have hf' : DataW.trod enc Try.prog W 0 (fun _ => true) true fuel 25 cs.toList = some (d, p) := hf
  have hl4 : cs.toList.length = 4 := by rw [Array.length_toList, hsz]; kernel_rfl
  obtain ⟨xs, n', _, hxs, _, hlenx, hfs⟩ := DataW.trod_struct Try.underlying25 hf'
  obtain ⟨y0, y1, y2, y3, rfl⟩ : ∃ y0 y1 y2 y3, xs = [y0, y1, y2, y3] := by
    match xs, hlenx with
    | [y0, y1, y2, y3], _ => exact ⟨y0, y1, y2, y3, rfl⟩
  obtain ⟨c0, c1, c2, c3, hcs⟩ : ∃ c0 c1 c2 c3, cs.toList = [c0, c1, c2, c3] := by
    match cs.toList, hl4 with
    | [c0, c1, c2, c3], _ => exact ⟨c0, c1, c2, c3, rfl⟩
  rw [hcs] at hfs
  have g0 := hfs 0 _ rfl
  have g1 := hfs 1 _ rfl
  have g2 := hfs 2 _ rfl
  have g3 := hfs 3 _ rfl
  simp [cells3, cells22, cells23] at g0 g1 g2 g3
  obtain ⟨K0, e0, _, w0⟩ := DataW.trod_int Try.underlying3 g0
  obtain ⟨K1, e1, _, w1⟩ := DataW.trod_int Try.underlying3 g1
  obtain ⟨a2, l2, k2, e2, b2, s2, m2⟩ := words_cell g2
  obtain ⟨a3, l3, k3, e3, b3, s3, f3, m3⟩ := opns_cell g3
  simp at e0 e1 e2 e3
  subst e0 e1 e2 e3
  refine ⟨⟨K0, K1, a2, k2, l2, a3, k3, l3⟩, by rw [← Array.toArray_toList (xs := cs), hcs], ⟨wf_i64 w0, wf_i64 w1, b2, s2, b3, s3, f3⟩, fun hq => m3 fun q hq3 => hq q ?_⟩
  have e9 : d = .agg [y0.1, y1.1, y2.1, y3.1] := (Prod.mk.inj hxs).1
  rw [e9]
  simp only [DataW.weights, Try.underlying25]
  exact DataW.weights_mem_each (j := 3) (t := 23) (d := y3.1) (by kernel_rfl) rfl q hq3

end Go.Proofs.Ytekijhhpldnmnaa
