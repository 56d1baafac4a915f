import Derived.Test.YtmkeccibminnhaaPx
import Derived.Test.YtmkeccibminnhaaDq
namespace Go.Proofs.Ytmkeccibminnhaa
open Go.RowKit
set_option linter.unusedVariables false
set_option maxRecDepth 6000

theorem segA_lt {α : Type} {cells : α → List Value} {k : Nat} {w : World} {a : Option Addr} {xs : List α} (h : SegA cells k w a xs) (hp : ∀ x, 0 < (cells x).length) (hn : xs ≠ []) (y : Addr) (hy : a = some y) : y.block < w.heap.size := by
  rcases h with h1 | ⟨g, o, h1, h2⟩
  · exact (hn h1).elim
  · rw [h1] at hy
    cases hy
    obtain ⟨x, hx⟩ : ∃ x, xs[0]? = some x := by cases xs with | nil => exact (hn rfl).elim | cons x l => exact ⟨x, rfl⟩
    obtain ⟨v, hv⟩ : ∃ v, (cells x)[0]? = some v := ⟨_, List.getElem?_eq_getElem (hp x)⟩
    exact World.block_lt_of_cell? w ⟨g, o + 0 * k + 0, none⟩ (h2 0 x hx 0 v hv)
theorem Core.Ok.in {x : Core} {w : World} (h : x.Ok w) : x.In w w.heap.size := ⟨h.seg, fun hn y hy => segA_lt h.seg (fun _ => by simp) hn y hy, h.len, h.fine⟩
theorem Par.Ok.in {x : Par} {w : World} (h : x.Ok w) : x.In w w.heap.size :=
  ⟨h.rseg, fun hn y hy => segA_lt h.rseg (fun _ => by simp) hn y hy, h.rlen, h.rfine, h.pseg, fun hn y hy => segA_lt h.pseg (fun _ => by simp) hn y hy, h.plen, h.pfine, h.ns, h.name⟩
theorem Cfg.Lsts.in {x : Cfg} {w : World} {lo : Nat} (h : x.Lsts w lo) : x.In w w.heap.size :=
  ⟨h.cs.seg, fun hn y hy => h.cs.blk hn y hy, h.cs.len, fun y hy => Core.Ok.in (h.cs.ok y hy), h.ps.seg, fun hn y hy => h.ps.blk hn y hy, h.ps.len, fun y hy => Par.Ok.in (h.ps.ok y hy),
    h.hs.seg, fun hn y hy => h.hs.blk hn y hy, h.hs.len, h.hs.ok, h.ns⟩
theorem Cfg.In.fine {x : Cfg} {w : World} {N : Nat} (h : x.In w N) : ∀ c ∈ x.cs, ∀ y ∈ c.ws, y.Fine := fun c hc => (h.cin c hc).fine

theorem run_text_seg {w : World} (a : Option Addr) (c : Nat) (xs : List UInt8) (hs : Seg w a xs) :
    (convert 27 9 (.slice a xs.length c)).run Try.prog w = .ok (.string ⟨xs.toArray⟩) w := by
  rw [run_convert_bytes_string w 27 9 5 _ _ _ Try.underlying27 Try.underlying5 Try.underlying9]
  have hb : bvs xs = (xs.map fun x => (x.toNat : Int)).map (Value.int .u8) := by simp [bvs]
  cases a with
  | none =>
    rcases hs with rfl | ⟨g, o, h, _⟩
    · simp [Conv.bytesToString, go_sem]; rfl
    · cases h
  | some y =>
    have hl := run_loadCells_list (P := Try.prog) w y (bvs xs) (by
      intro j v hj
      rcases hs with rfl | ⟨g, o, h, hc⟩
      · simp [bvs] at hj
      · cases h
        have hjl : j < xs.length := by rw [← bvs_length]; exact (List.getElem?_eq_some_iff.1 hj).1
        rw [bvs_get xs j hjl] at hj
        cases hj
        rw [addr_add]
        exact hc j hjl)
    rw [bvs_length, hb] at hl
    rw [run_bytesToString w _ _ _ _ hl, foldl_push]
    simp [ByteArray.empty, ByteArray.emptyWithCapacity]
    rfl
end Go.Proofs.Ytmkeccibminnhaa
