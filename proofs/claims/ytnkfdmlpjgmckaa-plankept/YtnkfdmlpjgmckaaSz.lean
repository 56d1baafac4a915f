import Derived.Test.YtnkfdmlpjgmckaaIn
import Derived.Test.YtnkfdmlpjgmckaaT
import Derived.SizedLaws
namespace Go.Proofs.Ytnkfdmlpjgmckaa
open Go.ChangeShapes Go.WideShapes Go.ChangeAt Go.RowKit Go.Deep
set_option linter.unusedVariables false
set_option linter.unusedSimpArgs false
set_option maxRecDepth 100000

theorem weights_mem {H : Type} {P : Program} {e : TypeId} {d : DataW H} {q : Nat} : ∀ {ds : List (DataW H)}, d ∈ ds → q ∈ d.weights P e → q ∈ DataW.weightsAll P e ds
  | [], h, _ => by cases h
  | x :: r, h, hq => by
    simp only [DataW.weightsAll, List.mem_append]
    rcases List.mem_cons.1 h with rfl | h
    · exact .inl hq
    · exact .inr (weights_mem h hq)

variable {H : Type} {enc : TypeId × Value → H} {W : World}
/-- How long a list is that came in, and what holds of its things. -/
theorem list_size {α : Type} [Inhabited α] (E : Elem α) (sty : TypeId) (hu : Try.prog.underlying sty = some (.slice E.ety)) (hce : Try.prog.cellsOf E.ety = E.k) (hby : 1 ≤ Try.prog.bytesOf E.ety) (Sz : α → Prop)
    (hel : ∀ (cs : List Value) (x : DataW H × List MemPlace) (fuel : Nat), cs.length = E.k → DataW.trod enc Try.prog W 0 (fun _ => true) true fuel E.ety cs = some x → (∀ q ∈ DataW.weights Try.prog E.ety x.1, q ≤ reachBytes) → ∀ a : α, cs = E.vs a → Sz a)
    {a : Option Addr} {ls : List α} {c : Nat} (hs : SegA E.vs E.k W a ls) {x : DataW H × List MemPlace} {fuel : Nat} (h : DataW.trod enc Try.prog W 0 (fun _ => true) true fuel sty [.slice a ls.length c] = some x)
    (hq : ∀ q ∈ DataW.weights Try.prog sty x.1, q ≤ reachBytes) : ls.length ≤ 1152921504606846976 ∧ ∀ l ∈ ls, Sz l := by
  rcases open_slice hu h with ⟨hcs, _⟩ | ⟨ad, len, cap, m, n, D, Pl, hcs, _, hl, hm, hmm, hx, hcell⟩
  · simp at hcs
    have : ls = [] := hcs.2.1
    subst this
    exact ⟨by simp, fun l hl => by cases hl⟩
  · simp at hcs
    obtain ⟨rfl, rfl, rfl⟩ := hcs
    have hmc : m = c := by simpa using hmm
    subst hmc
    rw [hx] at hq
    have h1 := hq ((((List.range ls.length).map D).length + ((List.range (m - ls.length)).map fun j => D (ls.length + j)).length) * Try.prog.bytesOf E.ety) (by simp [DataW.weights, hu])
    have h2 : reachBytes = 140737488351232 := rfl
    refine ⟨?_, fun l hl => ?_⟩
    · simp only [List.length_map, List.length_range] at h1
      have : (ls.length + (m - ls.length)) * 1 ≤ (ls.length + (m - ls.length)) * Try.prog.bytesOf E.ety := Nat.mul_le_mul_left _ hby
      omega
    · obtain ⟨i, hj⟩ := List.getElem?_of_mem hl
      have hi := (List.getElem?_eq_some_iff.1 hj).1
      obtain ⟨cs', g1, g2⟩ := hcell i (by omega)
      rw [hce] at g1
      obtain ⟨_, hlen, hc⟩ := World.cells?_some g1
      obtain ⟨g, o, ha, hg⟩ := hs.at hj
      cases ha
      have e : cs' = E.vs l := by
        apply List.ext_getElem?
        intro j
        by_cases hjk : j < E.k
        · have q := hc j hjk
          rw [add_add, addr_add, ← Nat.add_assoc] at q
          obtain ⟨v, hv⟩ : ∃ v, (E.vs l)[j]? = some v := ⟨_, List.getElem?_eq_getElem (by rw [E.len]; exact hjk)⟩
          rw [hg j v hv] at q
          rw [hv]; exact q.symm
        · rw [List.getElem?_eq_none (by omega), List.getElem?_eq_none (by rw [E.len]; omega)]
      refine hel cs' _ _ hlen g2 (fun q hq' => hq q ?_) _ e
      simp only [DataW.weights, hu, List.mem_cons, List.mem_append]
      exact .inr (.inl (weights_mem (List.mem_map.2 ⟨i, List.mem_range.2 (by omega), rfl⟩) hq'))

theorem core_size {cs : List Value} {x : DataW H × List MemPlace} {fuel : Nat} (h : DataW.trod enc Try.prog W 0 (fun _ => true) true fuel 38 cs = some x) (hq : ∀ q ∈ DataW.weights Try.prog 38 x.1, q ≤ reachBytes)
    (X : Core) (e : cs = X.vs) (hX : X.Ok W) : X.ws.length ≤ 1152921504606846976 := by
  subst e
  exact (list_size eWin 38 Try.underlying38 cells40 (Nat.le_of_ble_eq_true (by kernel_rfl)) (fun _ => True) (fun _ _ _ _ _ _ _ _ => trivial) hX.seg h hq).1
theorem par_size {cs : List Value} {x : DataW H × List MemPlace} {fuel : Nat} (h : DataW.trod enc Try.prog W 0 (fun _ => true) true fuel 67 cs = some x) (hq : ∀ q ∈ DataW.weights Try.prog 67 x.1, q ≤ reachBytes)
    (X : Par) (e : cs = X.vs) (hX : X.Ok W) : X.rs.length ≤ 1152921504606846976 ∧ X.ps.length ≤ 1152921504606846976 := by
  subst e
  obtain ⟨xs, n', _, hxs, _, hlenx, hfs⟩ := DataW.trod_struct Try.underlying67 h
  obtain ⟨y0, y1, y2, y3, y4, y5, y6, y7, rfl⟩ : ∃ y0 y1 y2 y3 y4 y5 y6 y7, xs = [y0, y1, y2, y3, y4, y5, y6, y7] := by
    match xs, hlenx with
    | [y0, y1, y2, y3, y4, y5, y6, y7], _ => exact ⟨y0, y1, y2, y3, y4, y5, y6, y7, rfl⟩
  have g6 := hfs 6 _ rfl
  have g7 := hfs 7 _ rfl
  simp [cells3, cells9, cells64, cells65] at g6 g7
  have e6 : x.1 = .agg [y0.1, y1.1, y2.1, y3.1, y4.1, y5.1, y6.1, y7.1] := by rw [hxs]; rfl
  rw [e6] at hq
  simp only [DataW.weights, Try.underlying67] at hq
  refine ⟨(list_size eRgn 64 Try.underlying64 cells78 (Nat.le_of_ble_eq_true (by kernel_rfl)) (fun _ => True) (fun _ _ _ _ _ _ _ _ => trivial) hX.rseg g6 fun q h6 => hq q (DataW.weights_mem_each (j := 6) (t := 64) (d := y6.1) (by kernel_rfl) rfl q h6)).1,
    (list_size ePrt 65 Try.underlying65 cells80 (Nat.le_of_ble_eq_true (by kernel_rfl)) (fun _ => True) (fun _ _ _ _ _ _ _ _ => trivial) hX.pseg g7 fun q h7 => hq q (DataW.weights_mem_each (j := 7) (t := 65) (d := y7.1) (by kernel_rfl) rfl q h7)).1⟩
/-- The lists of a configuration that came in are not too long. -/
theorem cfg_small {X : Cfg} {d : DataW H} {p : List MemPlace} {N : Nat} (h : DataW.Trod enc Try.prog W 0 (fun _ => true) true 27 X.v d p) (hX : X.In W N) (hq : ∀ q ∈ DataW.weights Try.prog 27 d, q ≤ reachBytes) : Small X := by
  obtain ⟨fuel, hf⟩ := h
  have hf' : DataW.trod enc Try.prog W 0 (fun _ => true) true fuel 27 X.vs = some (d, p) := hf
  obtain ⟨xs, n', _, hxs, _, hlenx, hfs⟩ := DataW.trod_struct Try.underlying27 hf'
  obtain ⟨y0, y1, y2, y3, y4, y5, y6, rfl⟩ : ∃ y0 y1 y2 y3 y4 y5 y6, xs = [y0, y1, y2, y3, y4, y5, y6] := by
    match xs, hlenx with
    | [y0, y1, y2, y3, y4, y5, y6], _ => exact ⟨y0, y1, y2, y3, y4, y5, y6, rfl⟩
  have g4 := hfs 4 _ rfl
  have g5 := hfs 5 _ rfl
  have g6 := hfs 6 _ rfl
  simp [cells3, cells23, cells24, cells25] at g4 g5 g6
  have e6 : d = .agg [y0.1, y1.1, y2.1, y3.1, y4.1, y5.1, y6.1] := (Prod.mk.inj hxs).1
  rw [e6] at hq
  simp only [DataW.weights, Try.underlying27] at hq
  have a4 := list_size eCore 23 Try.underlying23 cells38 (Nat.le_of_ble_eq_true (by kernel_rfl)) (fun X => X.Ok W → X.ws.length ≤ 1152921504606846976) (fun cs x fuel hl h hq a e hX => core_size h hq a e hX) hX.cseg g4 fun q h4 => hq q (DataW.weights_mem_each (j := 4) (t := 23) (d := y4.1) (by kernel_rfl) rfl q h4)
  have a5 := list_size ePar 24 Try.underlying24 cells67 (Nat.le_of_ble_eq_true (by kernel_rfl)) (fun X => X.Ok W → X.rs.length ≤ 1152921504606846976 ∧ X.ps.length ≤ 1152921504606846976) (fun cs x fuel hl h hq a e hX => par_size h hq a e hX) hX.pseg g5 fun q h4 => hq q (DataW.weights_mem_each (j := 5) (t := 24) (d := y5.1) (by kernel_rfl) rfl q h4)
  have a6 := list_size eChn 25 Try.underlying25 cells82 (Nat.le_of_ble_eq_true (by kernel_rfl)) (fun _ => True) (fun _ _ _ _ _ _ _ _ => trivial) hX.hseg g6 fun q h4 => hq q (DataW.weights_mem_each (j := 6) (t := 25) (d := y6.1) (by kernel_rfl) rfl q h4)
  exact ⟨⟨a4.1, a5.1, a6.1⟩, fun Y hY => a4.2 Y hY ⟨(hX.cin Y hY).seg, (hX.cin Y hY).len, (hX.cin Y hY).fine⟩,
    fun Y hY => a5.2 Y hY ⟨(hX.pin Y hY).rseg, (hX.pin Y hY).rlen, (hX.pin Y hY).rfine, (hX.pin Y hY).pseg, (hX.pin Y hY).plen, (hX.pin Y hY).pfine, (hX.pin Y hY).ns, (hX.pin Y hY).name⟩⟩
end Go.Proofs.Ytnkfdmlpjgmckaa
