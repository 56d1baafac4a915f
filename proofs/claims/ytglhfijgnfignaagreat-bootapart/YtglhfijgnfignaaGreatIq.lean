import Derived.Test.YtglhfijgnfignaaGreatIn
import Derived.Test.YtglhfijgnfignaaGreatCq
import Derived.SizedLaws
import Derived.Test.YtglhfijgnfignaaGreatTl
namespace Go.Proofs.YtglhfijgnfignaaGreat
open Go.ChangeShapes Go.WideShapes Go.ChangeAt Go.RowKit Go.Deep
set_option linter.unusedVariables false
set_option linter.unusedSimpArgs false
set_option maxRecDepth 100000
theorem weights_mem {H : Type} {P : Program} {e : TypeId} {d : DataW H} {q : Nat} : ∀ {ds : List (DataW H)}, d ∈ ds → q ∈ d.weights P e → q ∈ DataW.weightsAll P e ds
 | [], h, _ => by cases h
 | x :: r, h, hq => by
  simp only [DataW.weightsAll, List.mem_append]
  rcases List.mem_cons.1 h with rfl | h
  ·
   exact .inl hq
  ·
   exact .inr (weights_mem h hq)
variable {H : Type} {enc : TypeId × Value → H} {W : World}
theorem list_size {α : Type} [Inhabited α] (E : Elem α) (sty : TypeId) (hu : Tryz.prog.underlying sty = some (.slice E.ety)) (hce : Tryz.prog.cellsOf E.ety = E.k) (hby : 1 ≤ Tryz.prog.bytesOf E.ety) (Sz : α → Prop)
  (hel : ∀ (cs : List Value) (x : DataW H × List MemPlace) (fuel : Nat), cs.length = E.k → DataW.trod enc Tryz.prog W 0 (fun _ => true) true fuel E.ety cs = some x → (∀ q ∈ DataW.weights Tryz.prog E.ety x.1, q ≤ reachBytes) → ∀ a : α, cs = E.vs a → Sz a)
  {a : Option Addr} {ls : List α} {c : Nat} (hs : SegA E.vs E.k W a ls) {x : DataW H × List MemPlace} {fuel : Nat} (h : DataW.trod enc Tryz.prog W 0 (fun _ => true) true fuel sty [.slice a ls.length c] = some x)
  (hq : ∀ q ∈ DataW.weights Tryz.prog sty x.1, q ≤ reachBytes) : ls.length * Tryz.prog.bytesOf E.ety ≤ 140737488351232 ∧ ∀ l ∈ ls, Sz l := by
 rcases open_slice hu h with ⟨hcs, _⟩ | ⟨ad, len, cap, m, n, D, Pl, hcs, _, hl, hm, hmm, hx, hcell⟩
 ·
  simp at hcs
  have : ls = [] := hcs.2.1
  subst this
  exact ⟨by simp, fun l hl => by cases hl⟩
 ·
  simp at hcs
  obtain ⟨rfl, rfl, rfl⟩ := hcs
  have hmc : m = c := by simpa using hmm
  subst hmc
  rw [hx] at hq
  have h1 := hq ((((List.range ls.length).map D).length + ((List.range (m - ls.length)).map fun j => D (ls.length + j)).length) * Tryz.prog.bytesOf E.ety) (by simp [DataW.weights, hu])
  have h2 : reachBytes = 140737488351232 := rfl
  refine ⟨?_, fun l hl => ?_⟩
  ·
   simp only [List.length_map, List.length_range] at h1
   have h3 : ls.length * Tryz.prog.bytesOf E.ety ≤ (ls.length + (m - ls.length)) * Tryz.prog.bytesOf E.ety := Nat.mul_le_mul_right _ (by omega)
   omega
  ·
   obtain ⟨i, hj⟩ := List.getElem?_of_mem hl
   have hi := (List.getElem?_eq_some_iff.1 hj).1
   obtain ⟨cs', g1, g2⟩ := hcell i (by omega)
   rw [hce] at g1
   obtain ⟨_, hlen, hc⟩ := World.cells?_some g1
   obtain ⟨g, o, ha, hg⟩ := hs.at hj
   cases ha
   have e : cs' = E.vs l := by
    apply List.ext_getElem?
    intro j
    by_cases hjk : j < E.k
    ·
     have q := hc j hjk
     rw [add_add, addr_add, ← Nat.add_assoc] at q
     obtain ⟨v, hv⟩ : ∃ v, (E.vs l)[j]? = some v := ⟨_, List.getElem?_eq_getElem (by rw [E.len]; exact hjk)⟩
     rw [hg j v hv] at q
     rw [hv]; exact q.symm
    ·
     rw [List.getElem?_eq_none (by omega), List.getElem?_eq_none (by rw [E.len]; omega)]
   refine hel cs' _ _ hlen g2 (fun q hq' => hq q ?_) _ e
   simp only [DataW.weights, hu, List.mem_cons, List.mem_append]
   exact .inr (.inl (weights_mem (List.mem_map.2 ⟨i, List.mem_range.2 (by omega), rfl⟩) hq'))
theorem core_size {cs : List Value} {x : DataW H × List MemPlace} {fuel : Nat} (h : DataW.trod enc Tryz.prog W 0 (fun _ => true) true fuel 69 cs = some x) (hq : ∀ q ∈ DataW.weights Tryz.prog 69 x.1, q ≤ reachBytes)
  (X : Core) (e : cs = X.vs) (hX : X.Ok W) : X.ws.length * 24 ≤ 140737488351232 := by
 subst e
 exact (list_size eWin 69 Tryz.underlying69 cells45 (Nat.le_of_ble_eq_true (by kernel_rfl)) (fun _ => True) (fun _ _ _ _ _ _ _ _ => trivial) hX.seg h hq).1
theorem par_size {cs : List Value} {x : DataW H × List MemPlace} {fuel : Nat} (h : DataW.trod enc Tryz.prog W 0 (fun _ => true) true fuel 53 cs = some x) (hq : ∀ q ∈ DataW.weights Tryz.prog 53 x.1, q ≤ reachBytes)
  (X : Par) (e : cs = X.vs) (hX : X.Ok W) : X.rs.length * 32 ≤ 140737488351232 ∧ X.ps.length * 16 ≤ 140737488351232 := by
 subst e
 obtain ⟨xs, n', _, hxs, _, hlenx, hfs⟩ := DataW.trod_struct Tryz.underlying53 h
 obtain ⟨y0, y1, y2, y3, y4, y5, y6, y7, rfl⟩ : ∃ y0 y1 y2 y3 y4 y5 y6 y7, xs = [y0, y1, y2, y3, y4, y5, y6, y7] := by
  match xs, hlenx with
  | [y0, y1, y2, y3, y4, y5, y6, y7], _ => exact ⟨y0, y1, y2, y3, y4, y5, y6, y7, rfl⟩
 have g6 := hfs 6 _ rfl
 have g7 := hfs 7 _ rfl
 simp [cells3, cells9, cells34, cells35] at g6 g7
 have e6 : x.1 = .agg [y0.1, y1.1, y2.1, y3.1, y4.1, y5.1, y6.1, y7.1] := by rw [hxs]; rfl
 rw [e6] at hq
 simp only [DataW.weights, Tryz.underlying53] at hq
 refine ⟨(list_size eRgn 50 Tryz.underlying50 cells39 (Nat.le_of_ble_eq_true (by kernel_rfl)) (fun _ => True) (fun _ _ _ _ _ _ _ _ => trivial) hX.rseg g6 fun q h6 => hq q (DataW.weights_mem_each (j := 6) (t := 50) (d := y6.1) (by kernel_rfl) rfl q h6)).1,
  (list_size ePrt 51 Tryz.underlying51 cells51 (Nat.le_of_ble_eq_true (by kernel_rfl)) (fun _ => True) (fun _ _ _ _ _ _ _ _ => trivial) hX.pseg g7 fun q h7 => hq q (DataW.weights_mem_each (j := 7) (t := 51) (d := y7.1) (by kernel_rfl) rfl q h7)).1⟩
theorem cfg_small {X : Cfg} {d : DataW H} {p : List MemPlace} {N : Nat} (h : DataW.Trod enc Tryz.prog W 0 (fun _ => true) true 26 X.v d p) (hX : X.In W N) (hq : ∀ q ∈ DataW.weights Tryz.prog 26 d, q ≤ reachBytes) : Sml X := by
 obtain ⟨fuel, hf⟩ := h
 have hf' : DataW.trod enc Tryz.prog W 0 (fun _ => true) true fuel 26 X.vs = some (d, p) := hf
 obtain ⟨xs, n', _, hxs, _, hlenx, hfs⟩ := DataW.trod_struct Tryz.underlying26 hf'
 obtain ⟨y0, y1, y2, y3, y4, y5, y6, rfl⟩ : ∃ y0 y1 y2 y3 y4 y5 y6, xs = [y0, y1, y2, y3, y4, y5, y6] := by
  match xs, hlenx with
  | [y0, y1, y2, y3, y4, y5, y6], _ => exact ⟨y0, y1, y2, y3, y4, y5, y6, rfl⟩
 have g4 := hfs 4 _ rfl
 have g5 := hfs 5 _ rfl
 have g6 := hfs 6 _ rfl
 simp [cells3, cells22, cells23, cells24] at g4 g5 g6
 have e6 : d = .agg [y0.1, y1.1, y2.1, y3.1, y4.1, y5.1, y6.1] := (Prod.mk.inj hxs).1
 rw [e6] at hq
 simp only [DataW.weights, Tryz.underlying26] at hq
 have a4 := list_size eCore 22 Tryz.underlying22 cells43 (Nat.le_of_ble_eq_true (by kernel_rfl)) (fun X => X.Ok W → X.ws.length * 24 ≤ 140737488351232) (fun cs x fuel hl h hq a e hX => core_size h hq a e hX) hX.cseg g4 fun q h4 => hq q (DataW.weights_mem_each (j := 4) (t := 22) (d := y4.1) (by kernel_rfl) rfl q h4)
 have a5 := list_size ePar 23 Tryz.underlying23 cells37 (Nat.le_of_ble_eq_true (by kernel_rfl)) (fun X => X.Ok W → X.rs.length * 32 ≤ 140737488351232 ∧ X.ps.length * 16 ≤ 140737488351232) (fun cs x fuel hl h hq a e hX => par_size h hq a e hX) hX.pseg g5 fun q h4 => hq q (DataW.weights_mem_each (j := 5) (t := 23) (d := y5.1) (by kernel_rfl) rfl q h4)
 have a6 := list_size eChn 24 Tryz.underlying24 cells49 (Nat.le_of_ble_eq_true (by kernel_rfl)) (fun _ => True) (fun _ _ _ _ _ _ _ _ => trivial) hX.hseg g6 fun q h4 => hq q (DataW.weights_mem_each (j := 6) (t := 24) (d := y6.1) (by kernel_rfl) rfl q h4)
 have c4 := fun Y hY => a4.2 Y hY ⟨(hX.cin Y hY).seg, (hX.cin Y hY).len, (hX.cin Y hY).fine⟩
 have c5 := fun Y hY => a5.2 Y hY ⟨(hX.pin Y hY).rseg, (hX.pin Y hY).rlen, (hX.pin Y hY).rfine, (hX.pin Y hY).pseg, (hX.pin Y hY).plen, (hX.pin Y hY).pfine, (hX.pin Y hY).ns, (hX.pin Y hY).name⟩
 exact ⟨a4.1, a5.1, a6.1, c4, fun Y hY => (c5 Y hY).1, fun Y hY => (c5 Y hY).2⟩
end Go.Proofs.YtglhfijgnfignaaGreat
namespace Go.Proofs.YtglhfijgnfignaaGreat
open Go.ChangeShapes Go.WideShapes Go.ChangeAt Go.RowKit Go.Deep
open Mq
set_option linter.unusedVariables false
set_option linter.unusedSimpArgs false
set_option maxRecDepth 100000
variable {H : Type} {enc : TypeId × Value → H} {W : World}
theorem wf_u32 {n : Int} (h : (Lit.int .u32 n).wf = true) : 0 ≤ n ∧ n < 4294967296 := by
 have : 0 ≤ n ∧ n ≤ 4294967295 := by simpa [Lit.wf, IntKind.min, IntKind.max, IntKind.signed, IntKind.bits] using h
 omega
theorem cells58 : Tryz.prog.cellsOf 58 = 1 := by kernel_rfl
theorem cells43w : Tryz.prog.cellsOf 43 = 1 := by kernel_rfl
def eWd : Elem UInt32 := ⟨fun x => [.int .u32 (x.toNat : Int)], 1, 58, fun _ => rfl, by decide, fun _ _ => True, fun _ => [], fun h _ _ => h⟩
theorem segW_of {w : World} {a : Option Addr} {ws : List UInt32} (h : SegA eWd.vs eWd.k w a ws) : SegW w a ws := by
 rcases h with h | ⟨g, o, ha, hc⟩
 ·
  exact .inl h
 ·
  refine .inr ⟨g, o, ha, fun j hj => ?_⟩
  have := hc j _ (List.getElem?_eq_getElem hj) 0 _ rfl
  simpa [eWd] using this
theorem segA_wd {w : World} {a : Option Addr} {ws : List UInt32} (h : SegW w a ws) : SegA eWd.vs eWd.k w a ws := by
 rcases h with h | ⟨g, o, ha, hc⟩
 ·
  exact .inl h
 ·
  refine .inr ⟨g, o, ha, fun j x hj i v hv => ?_⟩
  obtain ⟨hj1, hj2⟩ := List.getElem?_eq_some_iff.1 hj
  obtain ⟨rfl, rfl⟩ : i = 0 ∧ v = .int .u32 (x.toNat : Int) := by
   match i with
   | 0 => simp [eWd] at hv; exact ⟨rfl, hv.symm⟩
   | i + 1 => simp [eWd] at hv
  have := hc j hj1
  rw [hj2] at this
  simpa [eWd] using this
theorem wd_cell {cs : List Value} {x : DataW H × List MemPlace} {fuel : Nat} (hl : cs.length = 1)
  (h : DataW.trod enc Tryz.prog W 0 (fun _ => true) true fuel 58 cs = some x) : ∃ l : UInt32, cs = eWd.vs l ∧ eWd.Ok W l := by
 obtain ⟨K0, e0, _, w0⟩ := DataW.trod_int Tryz.underlying58 h
 obtain ⟨h1, h2⟩ := wf_u32 w0
 refine ⟨UInt32.ofNat K0.toNat, ?_, trivial⟩
 rw [e0]
 show _ = [Value.int .u32 ((UInt32.ofNat K0.toNat).toNat : Int)]
 have : ((UInt32.ofNat K0.toNat).toNat : Int) = K0 := by
  rw [UInt32.toNat_ofNat_of_lt' (by show K0.toNat < 4294967296; omega)]
  omega
 rw [this]
instance : Inhabited Prg := ⟨⟨none, 0, []⟩⟩
def ePrg : Elem Prg := ⟨Prg.vs, 1, 43, fun _ => rfl, by decide, fun w p => p.Ok0 w, fun p => blk1 p.a p.ws, fun {S w w' x} h hK hn => ⟨by
 by_cases e : x.ws = []
 ·
  exact .inl e
 ·
  exact h.seg.kept hK fun y hy => hn _ (blk1_mem.2 ⟨e, y, hy, rfl⟩), h.len⟩⟩
theorem words_cell {cs : List Value} {x : DataW H × List MemPlace} {fuel : Nat} (hl : cs.length = 1)
  (h : DataW.trod enc Tryz.prog W 0 (fun _ => true) true fuel 43 cs = some x) : ∃ l : Prg, cs = ePrg.vs l ∧ ePrg.Ok W l := by
 obtain ⟨a, l, m, e, n, s, f⟩ := list_cell eWd 43 Tryz.underlying43 cells58 (fun cs x fuel hl h => wd_cell hl h) h
 exact ⟨⟨a, m, l⟩, e, segW_of s, n⟩
theorem words_size {cs : List Value} {x : DataW H × List MemPlace} {fuel : Nat} (h : DataW.trod enc Tryz.prog W 0 (fun _ => true) true fuel 43 cs = some x) (hq : ∀ q ∈ DataW.weights Tryz.prog 43 x.1, q ≤ reachBytes)
  (X : Prg) (e : cs = X.vs) (hX : X.Ok0 W) : X.ws.length ≤ 35184372087808 := by
 subst e
 have := (list_size eWd 43 Tryz.underlying43 cells58 (Nat.le_of_ble_eq_true (by kernel_rfl)) (fun _ => True) (fun _ _ _ _ _ _ _ _ => trivial) (segA_wd hX.seg) h hq).1
 have hb : Tryz.prog.bytesOf eWd.ety = 4 := by kernel_rfl
 rw [hb] at this
 omega
theorem prgs_in {v : Value} {d : DataW H} {p : List MemPlace} {base : Nat} (hv : Value.okWide Tryz.prog W .any base 27 v)
  (h : DataW.Trod enc Tryz.prog W 0 (fun _ => true) true 27 v d p) (hq : ∀ q ∈ DataW.weights Tryz.prog 27 d, q ≤ reachBytes) : ∃ (a : Option Addr) (ls : List Prg) (c : Nat), v = .slice a ls.length c ∧ PrgIn0 W W.heap.size a c ls ∧ PSml ls := by
 obtain ⟨a0, len, cap, rfl⟩ := okWide_slice Tryz.underlying27 hv
 obtain ⟨fuel, hf⟩ := h
 obtain ⟨a, ls, c, hcs, hl, hs, hF⟩ := list_cell ePrg 27 Tryz.underlying27 cells43w (fun cs x fuel hlen ht => words_cell hlen ht) hf
 simp [Value.cells] at hcs
 obtain ⟨rfl, rfl, rfl⟩ := hcs
 have hsz := list_size ePrg 27 Tryz.underlying27 cells43w (Nat.le_of_ble_eq_true (by kernel_rfl)) (fun X => X.Ok0 W → X.ws.length ≤ 35184372087808) (fun cs x fuel hl h hq a e hX => words_size h hq a e hX) hs hf hq
 have hb : Tryz.prog.bytesOf ePrg.ety = 24 := by kernel_rfl
 rw [hb] at hsz
 exact ⟨a0, ls, cap, rfl, ⟨hs, fun hn y hy => segA_lt hs (fun o => by simp [ePrg]) hn y hy, hl, hF⟩, ⟨hsz.1, fun p hp => hsz.2 p hp (hF p hp)⟩⟩
theorem words_in {v : Value} {d : DataW H} {p : List MemPlace} {base : Nat} (hv : Value.okWide Tryz.prog W .any base 43 v)
  (h : DataW.Trod enc Tryz.prog W 0 (fun _ => true) true 43 v d p) (hq : ∀ q ∈ DataW.weights Tryz.prog 43 d, q ≤ reachBytes) : ∃ o : Prg, v = .slice o.a o.ws.length o.c ∧ o.Ok0 W ∧ o.ws.length ≤ 35184372087808 := by
 obtain ⟨a0, len, cap, rfl⟩ := okWide_slice Tryz.underlying43 hv
 obtain ⟨fuel, hf⟩ := h
 obtain ⟨o, e, hx⟩ := words_cell (by rfl) hf
 refine ⟨o, ?_, hx, words_size hf hq o e hx⟩
 have : [Value.slice a0 len cap] = o.vs := e
 simpa using this
end Go.Proofs.YtglhfijgnfignaaGreat
