import Derived.Test.YtmkeccibminnhaaGf
import Derived.Deep.RegionHeld3
namespace Go.Proofs.Ytmkeccibminnhaa
open Go.RowKit
set_option linter.unusedVariables false
set_option maxRecDepth 6000

theorem step_append_run {P : Program} {w : World} {ops : Array Oper} {o : Oper} {a : Act} {K : Act → World → Prop} {Q : Exit → Act → World → Prop} {E : Prop} (hgd : o.guard = none) (s x : Operand) (t k : TypeId)
    (ho : o.op = .call { callee := .builtin .append, args := #[s, x], argTypes := #[t, k] }) (vs vx v' : Value) (w' : World) (hs : a.eval s = vs) (hx : a.eval x = vx)
    (hr : ∀ ty, (Builtin.append_ #[t, k] ty #[vs, vx]).run P w = .ok v' w') (h : K (a.put o.dst v') w') : if Region.wanted o (yielded ops a.tmps) = true then Oper.wp P o a w K Q else E := by
  have hw : Region.wanted o (yielded ops a.tmps) = true := by simp [Region.wanted, hgd]
  rw [if_pos hw]
  unfold Oper.wp execOp
  simp only [ho, resolve, invoke, builtin, Sem.run_bind, Sem.run_pure, Result.andThen_ok, List.map_toArray, List.map_cons, List.map_nil, hs, hx, hr]
  exact h

theorem Row.lt {α : Type} {E : Elem α} {w : World} {lo : Nat} {u : Value} {xs : List α} (h : Row E w lo u xs) (k : Nat) (e : u.ownBlock = some k) : k < w.heap.size := by
  rcases h.own.2 with ⟨h2, _⟩ | ⟨gg, cap, cur, h2, _, h3, _⟩
  · rw [h2] at e; cases e
  · rw [h2] at e; cases e; exact (Array.getElem?_eq_some_iff.1 h3).1

theorem row_app {α : Type} {E : Elem α} {w : World} {lo : Nat} {u : Value} {l : List α} {x : α} (t : TypeId) (i : TypeInfo) (z : Value) (bytes : Nat) (ht : Try.prog.underlying t = some (.slice E.ety)) (hi : Try.prog.info? E.ety = some i) (hz : i.zero = some z)
    (hs : i.size = E.k) (hb : i.bytes = bytes) (hzs : z.cells.size = E.k) (hby : bytes ≤ 1000) (hRow : Row E w lo u l) (hok : E.Ok w x) (hbl : ∀ k ∈ E.bl x, lo ≤ k ∧ k < w.heap.size ∧ u.ownBlock ≠ some k) (hlo : lo ≤ w.heap.size) (h1 : ∀ v ∈ E.vs x, v.oneCell' = true) (hl : l.length < 256) :
    ∃ v' W', (∀ ty, (Builtin.append_ #[t, t] ty #[u, .slice (some ⟨w.heap.size, 0, none⟩) 1 1]).run Try.prog (w.alloc (.cells (E.vs x).toArray E.ety)) = .ok v' W') ∧ Row E W' lo v' (l ++ [x]) ∧ Keeps (fun k => some k = u.ownBlock) w W' := by
  have hmul : (l.length + 1) * bytes ≤ 256 * 1000 := Nat.mul_le_mul (by omega) hby
  obtain ⟨v', W', happ, hown', hfr', hKa⟩ := append_new t E.ety i z E.k bytes ht hi hz hs hb hzs E.pos u l.length (l.flatMap E.vs) hRow.own (E.vs x).toArray (by simp [E.len]) (by simpa using h1) (by unfold maxLen; omega) (by omega)
  exact ⟨v', W', happ, hRow.push hok hbl hlo hown' hfr' hKa, hKa⟩

/-- A list that was read, all below hi. -/
structure LstH {α : Type} (E : Elem α) (w : World) (lo hi : Nat) (ad : Option Addr) (cp : Nat) (l : List α) : Prop where
  ls : Lst E w lo ad cp l
  ah : l ≠ [] → ∀ y, ad = some y → y.block < hi
  bh : ∀ x ∈ l, ∀ k ∈ E.bl x, k < hi
theorem Lst.h {α : Type} {E : Elem α} {w : World} {lo : Nat} {ad : Option Addr} {cp : Nat} {l : List α} (h : Lst E w lo ad cp l) : LstH E w lo w.heap.size ad cp l := ⟨h, fun hn y hy => h.blk hn y hy, fun x hx k hk => (h.bl x hx k hk).2⟩
theorem LstH.kept {α : Type} {E : Elem α} {S : Nat → Prop} {w w' : World} {lo hi cp : Nat} {ad : Option Addr} {l : List α} (h : LstH E w lo hi ad cp l) (hK : Keeps S w w') (hS : ∀ k, S k → k < lo ∨ hi ≤ k) : LstH E w' lo hi ad cp l :=
  ⟨⟨h.ls.seg.kept hK fun hn y hy hs => by have := h.ls.low hn y hy; have := h.ah hn y hy; have := hS _ hs; omega, h.ls.len, h.ls.low, fun x hx => E.kept (h.ls.ok x hx) hK fun k hk hs => by have := (h.ls.bl x hx k hk).1; have := h.bh x hx k hk; have := hS k hs; omega,
    fun x hx k hk => ⟨(h.ls.bl x hx k hk).1, Nat.lt_of_lt_of_le (h.ls.bl x hx k hk).2 hK.size⟩⟩, h.ah, h.bh⟩

theorem PSt.up {S : Nat → Prop} {w W W' : World} {C X b g o cap : Nat} {B : List UInt8} {s : CS} {t : TypeId} {z cells : List Value} (h : PSt w W C X b g o cap B s t z cells) (hK : Keeps S W W') (hS : ∀ k, S k → X < k) : PSt w W' C X b g o cap B s t z cells := by
  have hl := h.lo
  exact ⟨h.cB.kept hK (fun e => by have := hS _ e; omega), h.xB.kept hK (fun e => by have := hS _ e; omega), h.cu.keptB hK (fun e => by have := hS _ e; omega) (fun hn e => by have := hS _ e; have := hl.2.2.2 hn; omega), h.kp.trans hK fun k hk e => by have := hS k e; omega, h.lo⟩

/-- What was read is appended to the list in the field. -/
theorem elem_push {α : Type} {E : Elem α} (t : TypeId) (ti : TypeInfo) (z : Value) (bytes : Nat) (ht : Try.prog.underlying t = some (.slice E.ety)) (hi : Try.prog.info? E.ety = some ti) (hz : ti.zero = some z) (hs : ti.size = E.k) (hb : ti.bytes = bytes) (hzs : z.cells.size = E.k) (hby : bytes ≤ 1000)
    {w wr w4 : World} {C X b g o cap lo : Nat} {B : List UInt8} {s s4 : CS} {zs cells : List Value} {u : Value} {l : List α} {x : α} (i : Nat) (hc : cells[i]? = some u) (hP : PSt w wr C X b g o cap B s 26 zs cells) (hRow : Row E wr lo u l) (hX : X < lo ∧ lo ≤ wr.heap.size) (hl : l.length < 256)
    (hK : Keeps (· = b) wr w4) (hC : CuS w4 b g o cap B s4) (hok : E.Ok w4 x) (hbl : ∀ k ∈ E.bl x, wr.heap.size ≤ k ∧ k < w4.heap.size) (h1 : ∀ v ∈ E.vs x, v.oneCell' = true) :
    ∃ v' W', (∀ ty, (Builtin.append_ #[t, t] ty #[u, .slice (some ⟨w4.heap.size, 0, none⟩) 1 1]).run Try.prog (w4.alloc (.cells (E.vs x).toArray E.ety)) = .ok v' W') ∧ PSt w (W'.setCell ⟨X, i, none⟩ v') C X b g o cap B s4 26 zs (cells.set i v') ∧
      Row E (W'.setCell ⟨X, i, none⟩ v') lo v' (l ++ [x]) ∧ Blk W' X cells 26 ∧ Keeps (fun k => k ≤ X ∨ lo ≤ k) wr (W'.setCell ⟨X, i, none⟩ v') ∧ lo ≤ (W'.setCell ⟨X, i, none⟩ v').heap.size := by
  have hlo := hP.lo
  have hsz := hK.size
  have hRow4 := hRow.kept hK (fun k e => by omega)
  obtain ⟨v', W', happ, hR', hKa⟩ := row_app t ti z bytes ht hi hz hs hb hzs hby hRow4 hok (fun k hk => ⟨by have := hbl k hk; omega, (hbl k hk).2, fun e => by have := hRow.lt k e; have := hbl k hk; omega⟩) (by omega) h1 hl
  have hS : ∀ k, some k = u.ownBlock → X < k := fun k e => by have := hRow.low k e.symm; omega
  have hP' := (hP.call hK hC).up hKa hS
  have hK1 : Keeps (· = X) W' (W'.setCell ⟨X, i, none⟩ v') := PSt.keepsX X i v'
  refine ⟨v', W', happ, hP'.set i v', hR'.kept hK1 (fun k e => by omega), hP'.xB, ?_, ?_⟩
  · exact ((hK.mono fun k _ e => Or.inl (by omega)).trans hKa fun k _ e => Or.inr (hRow.low k e.symm)).trans hK1 fun k _ e => Or.inl (by omega)
  · have := hKa.size; have := hK1.size; omega
end Go.Proofs.Ytmkeccibminnhaa
