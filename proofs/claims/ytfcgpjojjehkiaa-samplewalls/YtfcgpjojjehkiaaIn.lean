import Derived.Test.YtfcgpjojjehkiaaT
import Derived.ProofKit
import Derived.OpenShut
import Derived.ChangeOld
import Derived.ChangeSlices
import Derived.Deep.Slices
import Derived.Deep.Strs
namespace Go.Proofs.Ytfcgpjojjehkiaa
open Go.ChangeShapes Go.WideShapes Go.ChangeAt Go.RowKit Go.Deep
set_option linter.unusedVariables false
set_option linter.unusedSimpArgs false

theorem own : ownKnob Try.prog.godebug = none := by kernel_rfl
theorem laidOut : laidOutB Try.prog = true := by kernel_rfl
theorem wf_u32 {n : Int} (h : (Lit.int .u32 n).wf = true) : 0 ≤ n ∧ n < 4294967296 := by
  have : 0 ≤ n ∧ n ≤ 4294967295 := by simpa [Lit.wf, IntKind.min, IntKind.max, IntKind.signed, IntKind.bits] using h
  omega
theorem wf_u8 {n : Int} (h : (Lit.int .u8 n).wf = true) : 0 ≤ n ∧ n < 256 := by
  have : 0 ≤ n ∧ n ≤ 255 := by simpa [Lit.wf, IntKind.min, IntKind.max, IntKind.signed, IntKind.bits] using h
  omega
theorem wf_i64 {n : Int} (h : (Lit.int .i64 n).wf = true) : -9223372036854775808 ≤ n ∧ n ≤ 9223372036854775807 := by
  simpa [Lit.wf, IntKind.min, IntKind.max, IntKind.signed, IntKind.bits] using h
theorem u32_of {n : Int} (h : (Lit.int .u32 n).wf = true) : ((UInt32.ofNat n.toNat).toNat : Int) = n := by
  have := wf_u32 h
  rw [UInt32.toNat_ofNat']
  omega
theorem cells3 : Try.prog.cellsOf 3 = 1 := by kernel_rfl
theorem cells4 : Try.prog.cellsOf 4 = 1 := by kernel_rfl
theorem cells34 : Try.prog.cellsOf 34 = 1 := by kernel_rfl
theorem cells22 : Try.prog.cellsOf 22 = 1 := by kernel_rfl
theorem cells33 : Try.prog.cellsOf 33 = 1 := by kernel_rfl
theorem cells36 : Try.prog.cellsOf 36 = 7 := by kernel_rfl
theorem cells45 : Try.prog.cellsOf 45 = 2 := by kernel_rfl

/-- A list of words, by its cell. -/
theorem words_cell {H : Type} {enc : TypeId × Value → H} {W : World} {cs : List Value} {x : DataW H × List MemPlace} {fuel : Nat}
    (h : DataW.trod enc Try.prog W 0 (fun _ => true) true fuel 22 cs = some x) : ∃ a ws c, cs = [.slice a (List.length (α := UInt32) ws) c] ∧ (ws.length ≤ c ∧ c ≤ maxLen) ∧ SegW W a ws := by
  rcases open_ints Try.underlying22 Try.underlying34 (by kernel_rfl) h with ⟨hcs, _⟩ | ⟨x, len, cap, zs, hcs, _, hl, hm, hz, _, hcell, hwz⟩
  · exact ⟨none, [], 0, hcs, ⟨Nat.zero_le _, Nat.zero_le _⟩, .inl rfl⟩
  · have hz' : zs.length = cap := by simpa using hz
    have hlen : ((zs.take len).map fun z => UInt32.ofNat z.toNat).length = len := by simp; omega
    refine ⟨some x, (zs.take len).map fun z => UInt32.ofNat z.toNat, cap, by rw [hlen]; exact hcs, by rw [hlen]; omega, ?_⟩
    by_cases h0 : len = 0
    · exact .inl (List.eq_nil_of_length_eq_zero (by rw [hlen]; exact h0))
    · obtain ⟨b, off, spot⟩ := x
      have hc := hcell 0 (by omega)
      have hspot : spot = none := by simpa [Addr.add] using World.cell?_spot hc
      subst hspot
      refine .inr ⟨b, off, rfl, fun j hj => ?_⟩
      rw [hlen] at hj
      have h1 := hcell j (by omega)
      rw [addr_add] at h1
      rw [h1]
      have hj' : j < zs.length := by omega
      have h2 := wf_u32 (hwz zs[j] (List.getElem_mem _))
      have e1 : zs.getD j 0 = zs[j] := by simp [List.getD, hj']
      have e2 : ((zs.take len).map fun z => UInt32.ofNat z.toNat)[j]'(by rw [hlen]; exact hj) = UInt32.ofNat zs[j].toNat := by simp
      rw [e1, e2, UInt32.toNat_ofNat']
      congr 2
      omega

/-- A list of ints, by its cell. -/
theorem ints_cell {H : Type} {enc : TypeId × Value → H} {W : World} {cs : List Value} {x : DataW H × List MemPlace} {fuel : Nat}
    (h : DataW.trod enc Try.prog W 0 (fun _ => true) true fuel 33 cs = some x) : ∃ a zs c, cs = [.slice a (List.length (α := Int) zs) c] ∧ (zs.length ≤ c ∧ c ≤ maxLen) ∧ SegI W a zs ∧ ∀ z ∈ zs, -9223372036854775808 ≤ z ∧ z ≤ 9223372036854775807 := by
  rcases open_ints Try.underlying33 Try.underlying3 (by kernel_rfl) h with ⟨hcs, _⟩ | ⟨x, len, cap, zs, hcs, _, hl, hm, hz, hx, hcell, hwz⟩
  · exact ⟨none, [], 0, hcs, ⟨Nat.zero_le _, Nat.zero_le _⟩, .inl rfl, fun z hz => by cases hz⟩
  · have hz' : zs.length = cap := by simpa using hz
    have hlen : (zs.take len).length = len := by simp; omega
    refine ⟨some x, zs.take len, cap, by rw [hlen]; exact hcs, by rw [hlen]; omega, ?_, fun z hz => wf_i64 (hwz z (List.mem_of_mem_take hz))⟩
    by_cases h0 : len = 0
    · exact .inl (List.eq_nil_of_length_eq_zero (by rw [hlen]; exact h0))
    · obtain ⟨b, off, spot⟩ := x
      have hc := hcell 0 (by omega)
      have hspot : spot = none := by simpa [Addr.add] using World.cell?_spot hc
      subst hspot
      refine .inr ⟨b, off, rfl, fun j hj => ?_⟩
      rw [hlen] at hj
      have h1 := hcell j (by omega)
      rw [addr_add] at h1
      rw [h1]
      have hj' : j < zs.length := by omega
      have e1 : zs.getD j 0 = zs[j] := by simp [List.getD, hj']
      have e2 : (zs.take len)[j]'(by rw [hlen]; exact hj) = zs[j] := by simp
      rw [e1, e2]

set_option maxRecDepth 100000 in
/-- A list of words that came in. -/
theorem words_in {H : Type} {enc : TypeId × Value → H} {W : World} {v : Value} {d : DataW H} {p : List MemPlace} {base : Nat} (hv : Value.okWide Try.prog W .any base 22 v)
    (h : DataW.Trod enc Try.prog W 0 (fun _ => true) true 22 v d p) : ∃ a ws c, v = .slice a (List.length (α := UInt32) ws) c ∧ (ws.length ≤ c ∧ c ≤ maxLen) ∧ SegW W a ws := by
  obtain ⟨a0, len, cap, rfl⟩ := okWide_slice Try.underlying22 hv
  obtain ⟨fuel, hf⟩ := h
  obtain ⟨a, ws, c, hcs, hl, hs⟩ := words_cell hf
  simp [Value.cells] at hcs
  obtain ⟨rfl, rfl, rfl⟩ := hcs
  exact ⟨_, ws, _, rfl, hl, hs⟩

/-- A step of a channel's. -/
structure Stp where
  d : Bool
  a : Option Addr
  c : Nat
  ms : List UInt32
instance : Inhabited Stp := ⟨⟨false, none, 0, []⟩⟩
def Stp.vs (s : Stp) : List Value := [.bool s.d, .slice s.a s.ms.length s.c]
structure Stp.Ok (s : Stp) (w : World) : Prop where
  l : s.ms.length ≤ s.c ∧ s.c ≤ maxLen
  s : SegW w s.a s.ms
theorem Stp.Ok.grown {x : Stp} {w w' : World} (h : x.Ok w) (k : Keeps (fun _ => False) w w') : x.Ok w' := ⟨h.l, h.s.kept k fun _ _ e => e⟩

/-- A call with its lists. -/
structure Opn where
  k : Int
  p : Int
  n : Int
  ma : Option Addr
  mc : Nat
  ms : List UInt32
  pa : Option Addr
  pc : Nat
  ps : List Int
  x : UInt32
  nil : Bool
instance : Inhabited Opn := ⟨⟨0, 0, 0, none, 0, [], none, 0, [], 0, false⟩⟩
def Opn.vs (o : Opn) : List Value := [.int .i64 o.k, .int .i64 o.p, .int .i64 o.n, .slice o.ma o.ms.length o.mc, .slice o.pa o.ps.length o.pc, .int .u32 (o.x.toNat : Int), .bool o.nil]
abbrev Opn.v (o : Opn) : Value := .agg #[.int .i64 o.k, .int .i64 o.p, .int .i64 o.n, .slice o.ma o.ms.length o.mc, .slice o.pa o.ps.length o.pc, .int .u32 (o.x.toNat : Int), .bool o.nil]
structure Opn.Ok (o : Opn) (w : World) : Prop where
  p : -9223372036854775808 ≤ o.p ∧ o.p ≤ 9223372036854775807
  n : -9223372036854775808 ≤ o.n ∧ o.n ≤ 9223372036854775807
  ml : o.ms.length ≤ o.mc ∧ o.mc ≤ maxLen
  ms : SegW w o.ma o.ms
  pl : o.ps.length ≤ o.pc ∧ o.pc ≤ maxLen
  ps : SegI w o.pa o.ps
  pt : ∀ z ∈ o.ps, -9223372036854775808 ≤ z ∧ z ≤ 9223372036854775807
theorem Opn.Ok.grown {x : Opn} {w w' : World} (h : x.Ok w) (k : Keeps (fun _ => False) w w') : x.Ok w' := ⟨h.p, h.n, h.ml, h.ms.kept k fun _ _ e => e, h.pl, h.ps.kept k fun _ _ e => e, h.pt⟩

def StpAt (w : World) (g o : Nat) (x : Stp) : Prop := ∀ i v, x.vs[i]? = some v → w.cell? ⟨g, o + i, none⟩ = some v
theorem StpAt.kept {S : Nat → Prop} {w w' : World} {g o : Nat} {x : Stp} (h : StpAt w g o x) (k : Keeps S w w') (hn : ¬ S g) : StpAt w' g o x := by
  intro i v hv
  have h1 := h i v hv
  have hlt : g < w.heap.size := World.block_lt_of_cell? w ⟨g, o + i, none⟩ h1
  rw [World.cell?_of_block (w := w) (k.block g hlt hn)]
  exact h1
/-- These can be read at this address. -/
def SegStp (w : World) (a : Option Addr) (xs : List Stp) : Prop :=
  xs = [] ∨ ∃ g o, a = some ⟨g, o, none⟩ ∧ ∀ j x, xs[j]? = some x → StpAt w g (o + j * 2) x
theorem SegStp.grown {w w' : World} {a : Option Addr} {xs : List Stp} (h : SegStp w a xs) (k : Keeps (fun _ => False) w w') : SegStp w' a xs := by
  rcases h with h | ⟨g, o, ha, hc⟩
  · exact .inl h
  · exact .inr ⟨g, o, ha, fun j l hj => (hc j l hj).kept k fun e => e⟩

set_option maxRecDepth 100000 in
theorem stp_cell {H : Type} {enc : TypeId × Value → H} {W : World} {cs : List Value} {x : DataW H × List MemPlace} {fuel : Nat} (hl : cs.length = 2)
    (h : DataW.trod enc Try.prog W 0 (fun _ => true) true fuel 45 cs = some x) : ∃ l : Stp, cs = l.vs ∧ l.Ok W := by
  obtain ⟨xs, n', _, _, _, hlenx, hfs⟩ := DataW.trod_struct Try.underlying45 h
  obtain ⟨y0, y1, rfl⟩ : ∃ y0 y1, xs = [y0, y1] := by
    match xs, hlenx with
    | [y0, y1], _ => exact ⟨y0, y1, rfl⟩
  obtain ⟨c0, c1, rfl⟩ : ∃ c0 c1, cs = [c0, c1] := by
    match cs, hl with
    | [c0, c1], _ => exact ⟨c0, c1, rfl⟩
  have g0 := hfs 0 _ rfl
  have g1 := hfs 1 _ rfl
  simp [cells3, cells4, cells34, cells22, cells33] at g0 g1
  obtain ⟨K0, e0, _⟩ := DataW.trod_bool Try.underlying4 g0
  obtain ⟨a1, ms, k1, e1, l1, s1⟩ := words_cell g1
  simp at e0 e1
  subst e0 e1
  exact ⟨⟨K0, a1, k1, ms⟩, rfl, ⟨l1, s1⟩⟩

/-- A list of them that came in. -/
theorem stps_in {H : Type} {enc : TypeId × Value → H} {W : World} {v : Value} {d : DataW H} {p : List MemPlace} {base : Nat} (hv : Value.okWide Try.prog W .any base 42 v)
    (h : DataW.Trod enc Try.prog W 0 (fun _ => true) true 42 v d p) : ∃ a os c, v = .slice a (List.length (α := Stp) os) c ∧ (os.length ≤ c ∧ c ≤ maxLen) ∧ SegStp W a os ∧ ∀ o ∈ os, o.Ok W := by
  obtain ⟨a0, len, cap, rfl⟩ := okWide_slice Try.underlying42 hv
  obtain ⟨fuel, hf⟩ := h
  rcases open_slice Try.underlying42 hf with ⟨hcs, _⟩ | ⟨x, l, c, m, n, D, Pl, hcs, _, hl, hm, hmm, hx, hcell⟩
  · simp [Value.cells] at hcs
    obtain ⟨rfl, rfl, rfl⟩ := hcs
    exact ⟨none, [], 0, rfl, ⟨Nat.zero_le _, Nat.zero_le _⟩, .inl rfl, fun it hit => by cases hit⟩
  · simp [Value.cells] at hcs
    obtain ⟨rfl, rfl, rfl⟩ := hcs
    have hmc : m = cap := by simpa using hmm
    subst hmc
    have each : ∀ i, i < len → ∃ d : Stp, (∀ q u, d.vs[q]? = some u → W.cell? (x.add (i * 2 + q)) = some u) ∧ d.Ok W := by
      intro i hi
      obtain ⟨cs', h1, h2⟩ := hcell i (by omega)
      rw [cells45] at h1
      obtain ⟨_, hlen8, hc8⟩ := World.cells?_some h1
      obtain ⟨l, rfl, hok⟩ := stp_cell hlen8 h2
      refine ⟨l, fun q u hq => ?_, hok⟩
      have hq8 : q < 2 := (List.getElem?_eq_some_iff.1 hq).1
      have h3 := hc8 q hq8
      rw [add_add] at h3
      rw [h3, ← hq]
    obtain ⟨V, hV⟩ := choose_lt each
    refine ⟨some x, (List.range len).map V, m, by simp, by simp; omega, ?_, ?_⟩
    · by_cases h0 : len = 0
      · exact .inl (by simp [h0])
      · obtain ⟨b, off, spot⟩ := x
        have hc := (hV 0 (by omega)).1 0 _ rfl
        have hspot : spot = none := by simpa [Addr.add] using World.cell?_spot hc
        subst hspot
        refine .inr ⟨b, off, rfl, fun j l hj => ?_⟩
        have hj' : j < len := by
          have := (List.getElem?_eq_some_iff.1 hj).1
          simpa using this
        have e : l = V j := by simp [hj'] at hj; exact hj.symm
        subst e
        intro i v hv
        have h1 := (hV j hj').1 i v hv
        rw [addr_add] at h1
        rw [Nat.add_assoc]; exact h1
    · intro l hl
      obtain ⟨i, hi, rfl⟩ := List.mem_map.1 hl
      exact (hV i (by simpa using hi)).2

def OpnAt (w : World) (g o : Nat) (x : Opn) : Prop := ∀ i v, x.vs[i]? = some v → w.cell? ⟨g, o + i, none⟩ = some v
theorem OpnAt.kept {S : Nat → Prop} {w w' : World} {g o : Nat} {x : Opn} (h : OpnAt w g o x) (k : Keeps S w w') (hn : ¬ S g) : OpnAt w' g o x := by
  intro i v hv
  have h1 := h i v hv
  have hlt : g < w.heap.size := World.block_lt_of_cell? w ⟨g, o + i, none⟩ h1
  rw [World.cell?_of_block (w := w) (k.block g hlt hn)]
  exact h1
/-- These can be read at this address. -/
def SegOpn (w : World) (a : Option Addr) (xs : List Opn) : Prop :=
  xs = [] ∨ ∃ g o, a = some ⟨g, o, none⟩ ∧ ∀ j x, xs[j]? = some x → OpnAt w g (o + j * 7) x
theorem SegOpn.grown {w w' : World} {a : Option Addr} {xs : List Opn} (h : SegOpn w a xs) (k : Keeps (fun _ => False) w w') : SegOpn w' a xs := by
  rcases h with h | ⟨g, o, ha, hc⟩
  · exact .inl h
  · exact .inr ⟨g, o, ha, fun j l hj => (hc j l hj).kept k fun e => e⟩

set_option maxRecDepth 100000 in
theorem opn_cell {H : Type} {enc : TypeId × Value → H} {W : World} {cs : List Value} {x : DataW H × List MemPlace} {fuel : Nat} (hl : cs.length = 7)
    (h : DataW.trod enc Try.prog W 0 (fun _ => true) true fuel 36 cs = some x) : ∃ l : Opn, cs = l.vs ∧ l.Ok W := by
  obtain ⟨xs, n', _, _, _, hlenx, hfs⟩ := DataW.trod_struct Try.underlying36 h
  obtain ⟨y0, y1, y2, y3, y4, y5, y6, rfl⟩ : ∃ y0 y1 y2 y3 y4 y5 y6, xs = [y0, y1, y2, y3, y4, y5, y6] := by
    match xs, hlenx with
    | [y0, y1, y2, y3, y4, y5, y6], _ => exact ⟨y0, y1, y2, y3, y4, y5, y6, rfl⟩
  obtain ⟨c0, c1, c2, c3, c4, c5, c6, rfl⟩ : ∃ c0 c1 c2 c3 c4 c5 c6, cs = [c0, c1, c2, c3, c4, c5, c6] := by
    match cs, hl with
    | [c0, c1, c2, c3, c4, c5, c6], _ => exact ⟨c0, c1, c2, c3, c4, c5, c6, rfl⟩
  have g0 := hfs 0 _ rfl
  have g1 := hfs 1 _ rfl
  have g2 := hfs 2 _ rfl
  have g3 := hfs 3 _ rfl
  have g4 := hfs 4 _ rfl
  have g5 := hfs 5 _ rfl
  have g6 := hfs 6 _ rfl
  simp [cells3, cells4, cells34, cells22, cells33] at g0 g1 g2 g3 g4 g5 g6
  obtain ⟨K0, e0, _, w0⟩ := DataW.trod_int Try.underlying3 g0
  obtain ⟨K1, e1, _, w1⟩ := DataW.trod_int Try.underlying3 g1
  obtain ⟨K2, e2, _, w2⟩ := DataW.trod_int Try.underlying3 g2
  obtain ⟨a3, ms, k3, e3, l3, s3⟩ := words_cell g3
  obtain ⟨a4, ps, k4, e4, l4, s4, t4⟩ := ints_cell g4
  obtain ⟨K5, e5, _, w5⟩ := DataW.trod_int Try.underlying34 g5
  obtain ⟨K6, e6, _⟩ := DataW.trod_bool Try.underlying4 g6
  simp at e0 e1 e2 e3 e4 e5 e6
  subst e0 e1 e2 e3 e4 e5 e6
  exact ⟨⟨K0, K1, K2, a3, k3, ms, a4, k4, ps, UInt32.ofNat K5.toNat, K6⟩, by simp only [Opn.vs, u32_of w5], ⟨wf_i64 w1, wf_i64 w2, l3, s3, l4, s4, t4⟩⟩

/-- A list of them that came in. -/
theorem opns_in {H : Type} {enc : TypeId × Value → H} {W : World} {v : Value} {d : DataW H} {p : List MemPlace} {base : Nat} (hv : Value.okWide Try.prog W .any base 23 v)
    (h : DataW.Trod enc Try.prog W 0 (fun _ => true) true 23 v d p) : ∃ a os c, v = .slice a (List.length (α := Opn) os) c ∧ (os.length ≤ c ∧ c ≤ maxLen) ∧ SegOpn W a os ∧ ∀ o ∈ os, o.Ok W := by
  obtain ⟨a0, len, cap, rfl⟩ := okWide_slice Try.underlying23 hv
  obtain ⟨fuel, hf⟩ := h
  rcases open_slice Try.underlying23 hf with ⟨hcs, _⟩ | ⟨x, l, c, m, n, D, Pl, hcs, _, hl, hm, hmm, hx, hcell⟩
  · simp [Value.cells] at hcs
    obtain ⟨rfl, rfl, rfl⟩ := hcs
    exact ⟨none, [], 0, rfl, ⟨Nat.zero_le _, Nat.zero_le _⟩, .inl rfl, fun it hit => by cases hit⟩
  · simp [Value.cells] at hcs
    obtain ⟨rfl, rfl, rfl⟩ := hcs
    have hmc : m = cap := by simpa using hmm
    subst hmc
    have each : ∀ i, i < len → ∃ d : Opn, (∀ q u, d.vs[q]? = some u → W.cell? (x.add (i * 7 + q)) = some u) ∧ d.Ok W := by
      intro i hi
      obtain ⟨cs', h1, h2⟩ := hcell i (by omega)
      rw [cells36] at h1
      obtain ⟨_, hlen8, hc8⟩ := World.cells?_some h1
      obtain ⟨l, rfl, hok⟩ := opn_cell hlen8 h2
      refine ⟨l, fun q u hq => ?_, hok⟩
      have hq8 : q < 7 := (List.getElem?_eq_some_iff.1 hq).1
      have h3 := hc8 q hq8
      rw [add_add] at h3
      rw [h3, ← hq]
    obtain ⟨V, hV⟩ := choose_lt each
    refine ⟨some x, (List.range len).map V, m, by simp, by simp; omega, ?_, ?_⟩
    · by_cases h0 : len = 0
      · exact .inl (by simp [h0])
      · obtain ⟨b, off, spot⟩ := x
        have hc := (hV 0 (by omega)).1 0 _ rfl
        have hspot : spot = none := by simpa [Addr.add] using World.cell?_spot hc
        subst hspot
        refine .inr ⟨b, off, rfl, fun j l hj => ?_⟩
        have hj' : j < len := by
          have := (List.getElem?_eq_some_iff.1 hj).1
          simpa using this
        have e : l = V j := by simp [hj'] at hj; exact hj.symm
        subst e
        intro i v hv
        have h1 := (hV j hj').1 i v hv
        rw [addr_add] at h1
        rw [Nat.add_assoc]; exact h1
    · intro l hl
      obtain ⟨i, hi, rfl⟩ := List.mem_map.1 hl
      exact (hV i (by simpa using hi)).2

/-- A call that came in. -/
theorem op_in {H : Type} {enc : TypeId × Value → H} {W : World} {v : Value} {d : DataW H} {p : List MemPlace} {base : Nat} (hv : Value.okWide Try.prog W .any base 36 v)
    (h : DataW.Trod enc Try.prog W 0 (fun _ => true) true 36 v d p) : ∃ l : Opn, v = l.v ∧ l.Ok W := by
  obtain ⟨cs, rfl, hsz⟩ := okWide_struct Try.underlying36 hv
  obtain ⟨fuel, hf⟩ := h
  have hf' : DataW.trod enc Try.prog W 0 (fun _ => true) true fuel 36 cs.toList = some (d, p) := hf
  obtain ⟨l, hl, hF⟩ := opn_cell (by rw [Array.length_toList, hsz]; kernel_rfl) hf'
  exact ⟨l, by rw [← Array.toArray_toList (xs := cs), hl]; rfl, hF⟩

end Go.Proofs.Ytfcgpjojjehkiaa
