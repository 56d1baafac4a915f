import Derived.Test.YtfbapgcopidbpaaGreatMc
import Derived.Test.YtfbapgcopidbpaaGreatGd
import Derived.Maps.Keyed
import Derived.DeepKeys3
namespace Go.Proofs.YtfbapgcopidbpaaGreat
open Go.RowKit
set_option linter.unusedVariables false
set_option maxRecDepth 6000

/-! ### A map in the memory -/
theorem val_one : ∀ {l : List (Value × Value)}, (l.map Prod.fst).Nodup → ∀ {a x y : Value}, (a, x) ∈ l → (a, y) ∈ l → x = y
  | [], _, _, _, _, h, _ => by simp at h
  | p :: r, hn, a, x, y, hx, hy => by
    obtain ⟨h1, h2⟩ := List.nodup_cons.1 (by simpa using hn : (p.1 :: r.map Prod.fst).Nodup)
    rcases List.mem_cons.1 hx with hx | hx
    · rcases List.mem_cons.1 hy with hy | hy
      · rw [← hx] at hy; exact (congrArg Prod.snd hy).symm
      · exact absurd (List.mem_map.2 ⟨_, hy, by rw [← hx]⟩) h1
    · rcases List.mem_cons.1 hy with hy | hy
      · exact absurd (List.mem_map.2 ⟨_, hx, by rw [← hy]⟩) h1
      · exact val_one h2 hx hy

/-- Block m is a map with these keys and their values, in some order. -/
def MapIs (P : Program) (k : TypeId) (w : World) (m : Nat) (l : List (Value × Value)) : Prop :=
  ∃ es clock, w.heap[m]? = some (.map es clock) ∧ (es.toList.map fun e => (e.key, e.val)).Perm l ∧ (l.map Prod.fst).Nodup ∧ ∀ p ∈ l, ∃ lit, keyOf P k p.1 = some lit

section
variable {P : Program} {k : TypeId} {w : World} {m : Nat} {l l' : List (Value × Value)}
theorem MapIs.perm (h : MapIs P k w m l) (hp : l.Perm l') : MapIs P k w m l' := by
  obtain ⟨es, c, h1, h2, h3, h4⟩ := h
  exact ⟨es, c, h1, h2.trans hp, (hp.map _).nodup_iff.1 h3, fun p hm => h4 p (hp.mem_iff.2 hm)⟩
theorem MapIs.lt (h : MapIs P k w m l) : m < w.heap.size := by
  obtain ⟨es, c, h1, _⟩ := h
  exact (Array.getElem?_eq_some_iff.1 h1).1
theorem MapIs.kept {S : Nat → Prop} {w' : World} (h : MapIs P k w m l) (hK : Keeps S w w') (hn : ¬ S m) : MapIs P k w' m l := by
  have hlt := h.lt
  obtain ⟨es, c, h1, h2⟩ := h
  exact ⟨es, c, (hK.block m hlt hn).trans h1, h2⟩
theorem MapIs.new (P : Program) (k : TypeId) (w : World) : MapIs P k (w.alloc (.map #[] 0)) w.heap.size [] :=
  ⟨#[], 0, (MapKept.heap_alloc w _).1, by simp, by simp, by simp⟩
theorem MapIs.setCell (h : MapIs P k w m l) {a : Addr} (ha : m ≠ a.block) (u : Value) : MapIs P k (w.setCell a u) m l := by
  obtain ⟨es, c, h1, h2⟩ := h
  exact ⟨es, c, by rw [Below.heap_setCell _ _ _ _ ha]; exact h1, h2⟩

theorem MapIs.entries {es : Array MapEntry} (h2 : (es.toList.map fun e => (e.key, e.val)).Perm l) (h4 : ∀ p ∈ l, ∃ lit, keyOf P k p.1 = some lit) : ∀ e ∈ es.toList, ∃ lit, keyOf P k e.key = some lit :=
  fun e he => h4 (e.key, e.val) (h2.mem_iff.1 (List.mem_map.2 ⟨e, he, rfl⟩))

variable {t e : TypeId}
theorem MapIs.look_none (h : MapIs P k w m l) (K : Maps.Keyed P k) (ht : P.underlying t = some (.map k e)) {z : Value} (hz : (zeroValue e).run P w = .ok z w) {key : Value} {kl : Lit} (hkey : keyOf P k key = some kl)
    (hn : ∀ p ∈ l, p.1 ≠ key) : (Instr.lookup t (.map (some m)) key false).run P w = .ok z w := by
  obtain ⟨es, c, h1, h2, h3, h4⟩ := h
  rcases K.find w hkey es.toList (MapIs.entries h2 h4) with ⟨f1, _⟩ | ⟨j, e0, f1, f2, f3⟩
  · simp [Instr.lookup, run_underlying ht, MapKept.run_getObj_map h1, K.check w _ hkey, f1, hz, Result.andThen]
  · exact absurd f3 (hn (e0.key, e0.val) (h2.mem_iff.1 (List.mem_map.2 ⟨e0, List.mem_of_getElem? f2, rfl⟩)))

theorem MapIs.look_some (h : MapIs P k w m l) (K : Maps.Keyed P k) (ht : P.underlying t = some (.map k e)) {key v : Value} {kl : Lit} (hkey : keyOf P k key = some kl)
    (hm : (key, v) ∈ l) : (Instr.lookup t (.map (some m)) key false).run P w = .ok v w := by
  obtain ⟨es, c, h1, h2, h3, h4⟩ := h
  rcases K.find w hkey es.toList (MapIs.entries h2 h4) with ⟨f1, f2⟩ | ⟨j, e0, f1, f2, f3⟩
  · obtain ⟨e0, he0, h0⟩ := List.mem_map.1 (h2.mem_iff.2 hm)
    exact absurd (congrArg Prod.fst h0) (f2 e0 he0)
  · have hm0 : (e0.key, e0.val) ∈ l := h2.mem_iff.1 (List.mem_map.2 ⟨e0, List.mem_of_getElem? f2, rfl⟩)
    have hv : e0.val = v := by
      rw [f3] at hm0
      exact val_one h3 hm0 hm
    simp [Instr.lookup, run_underlying ht, MapKept.run_getObj_map h1, K.check w _ hkey, f1, hv, Result.andThen]

/-- A key that is not there gets a value. -/
theorem MapIs.store (h : MapIs P k w m l) (K : Maps.Keyed P k) (ht : P.underlying t = some (.map k e)) {key v : Value} {kl : Lit} (hkey : keyOf P k key = some kl) (hroom : l.length < maxLen)
    (hn : ∀ p ∈ l, p.1 ≠ key) : ∃ w', (Instr.mapUpdate t (.map (some m)) key v).run P w = .ok () w' ∧ MapIs P k w' m ((key, v) :: l) ∧ Keeps (fun b => b = m) w w' := by
  obtain ⟨es, c, h1, h2, h3, h4⟩ := h
  rcases K.find w hkey es.toList (MapIs.entries h2 h4) with ⟨f1, _⟩ | ⟨j, e0, f1, f2, f3⟩
  · have hsz : es.size < maxLen := by
      have := h2.length_eq
      simp at this; omega
    refine ⟨ChangeMaps.setBlock w m (.map (es.push ⟨key, v, c⟩) (c + 1)), ?_, ⟨es.push ⟨key, v, c⟩, c + 1, ChangeMaps.heap_setBlock_same h1 _, ?_, ?_, ?_⟩, ⟨rfl, rfl, rfl, by simp [ChangeMaps.setBlock], fun i _ hi => ChangeMaps.heap_setBlock_other h1 _ hi⟩⟩
    · simp [Instr.mapUpdate, run_underlying ht, MapKept.run_getObj_map h1, K.check w false hkey, f1, MapKept.run_setObj_map _ h1, Result.andThen, ChangeMaps.setBlock]
    · rw [Array.toList_push, List.map_append]
      exact (List.perm_append_singleton _ _).trans (h2.cons _)
    · simp only [List.map_cons, List.nodup_cons]
      refine ⟨fun hm => ?_, h3⟩
      obtain ⟨p, hp, he⟩ := List.mem_map.1 hm
      exact hn p hp he
    · intro p hp
      rcases List.mem_cons.1 hp with rfl | hp
      · exact ⟨kl, hkey⟩
      · exact h4 p hp
  · exact absurd f3 (hn (e0.key, e0.val) (h2.mem_iff.1 (List.mem_map.2 ⟨e0, List.mem_of_getElem? f2, rfl⟩)))

/-- A key that is there goes. -/
theorem MapIs.drop {A C : List (Value × Value)} {key v : Value} (h : MapIs P k w m (A ++ (key, v) :: C)) (K : Maps.Keyed P k) (ht : P.underlying t = some (.map k e)) {kl : Lit} (hkey : keyOf P k key = some kl) :
    ∃ w', (∀ ty, (Builtin.delete_ #[t, k] ty #[.map (some m), key]).run P w = .ok (.tuple #[]) w') ∧ MapIs P k w' m (A ++ C) ∧ Keeps (fun b => b = m) w w' := by
  obtain ⟨es, c, h1, h2, h3, h4⟩ := h
  rcases K.find w hkey es.toList (MapIs.entries h2 h4) with ⟨f1, f2⟩ | ⟨j, e0, f1, f2, f3⟩
  · obtain ⟨e0, he0, h0⟩ := List.mem_map.1 (h2.mem_iff.2 (show (key, v) ∈ A ++ (key, v) :: C by simp))
    exact absurd (congrArg Prod.fst h0) (f2 e0 he0)
  · have hjl : j < es.toList.length := (List.getElem?_eq_some_iff.1 f2).1
    have hjs : j < es.size := by simpa using hjl
    have hsub : (es.eraseIdxIfInBounds j).toList = es.toList.eraseIdx j := by
      unfold Array.eraseIdxIfInBounds
      rw [dif_pos hjs]
      simp
    have hlist : es.toList = es.toList.take j ++ e0 :: es.toList.drop (j + 1) := by
      have := List.getElem_of_getElem? f2
      obtain ⟨hh, he⟩ := this
      rw [← he, List.getElem_cons_drop, List.take_append_drop]
    have hperm : ((es.toList.eraseIdx j).map fun e => (e.key, e.val)).Perm (A ++ C) := by
      have hm0 : (e0.key, e0.val) ∈ A ++ (key, v) :: C := h2.mem_iff.1 (List.mem_map.2 ⟨e0, List.mem_of_getElem? f2, rfl⟩)
      have hv : e0.val = v := by
        rw [f3] at hm0
        exact val_one h3 hm0 (show (key, v) ∈ A ++ (key, v) :: C by simp)
      rw [hlist, List.map_append, List.map_cons, f3, hv] at h2
      have h5 := (List.perm_middle.symm.trans (h2.trans List.perm_middle)).cons_inv
      rw [List.eraseIdx_eq_take_drop_succ, List.map_append]
      exact h5
    refine ⟨ChangeMaps.setBlock w m (.map (es.eraseIdxIfInBounds j) c), fun ty => ?_, ⟨_, c, ChangeMaps.heap_setBlock_same h1 _, by rw [hsub]; exact hperm, ?_, fun p hp => h4 p ?_⟩, ⟨rfl, rfl, rfl, by simp [ChangeMaps.setBlock], fun i _ hi => ChangeMaps.heap_setBlock_other h1 _ hi⟩⟩
    · simp [Builtin.delete_, run_underlying ht, MapKept.run_getObj_map h1, K.check w _ hkey, f1, MapKept.run_setObj_map _ h1, Result.andThen, ChangeMaps.setBlock]
    · refine h3.sublist ?_
      simp
    · rcases List.mem_append.1 hp with h | h
      · simp [h]
      · simp [h]

theorem MapIs.len (h : MapIs P k w m l) (ht : P.underlying t = some (.map k e)) (ty : TypeId) : (Builtin.len_ #[t] ty #[.map (some m)]).run P w = .ok (.int .i64 l.length) w := by
  obtain ⟨es, c, h1, h2, h3, h4⟩ := h
  have e1 : es.size = l.length := by have := h2.length_eq; simpa using this
  simp [Builtin.len_, run_underlying ht, MapKept.run_getObj_map h1, goInt, Result.andThen, e1]
end


/-- A key of the device's map. -/
def kv (e p : Int) : Value := .agg #[.int .i64 e, .int .i64 p]
theorem kv_inj {a b c d : Int} (h : kv a b = kv c d) : a = c ∧ b = d := by
  unfold kv at h
  simpa using h
theorem law73 : Maps.Keyed Tryz.prog 73 := Maps.Keyed.of_law (deep_law (m := 2) (by decide) (by kernel_rfl) (by kernel_rfl) (by kernel_rfl))
theorem key73 (e p : Int) (he : I64 e) (hp : I64 p) : ∃ l, keyOf Tryz.prog 73 (kv e p) = some l := by
  have h1 : Tryz.prog.cellsOf 73 = 2 := by kernel_rfl
  have h2 : Tryz.prog.cellsOf 3 = 1 := by kernel_rfl
  have h3 : ∃ d, Tryz.prog.types.size + 1 = d + 2 := ⟨230, by kernel_rfl⟩
  have h4 : Tryz.prog.keyType 73 = true := by kernel_rfl
  have h5 : (kv e p).formed Tryz.prog 73 = true := by unfold kv; kernel_rfl
  obtain ⟨d, hd⟩ := h3
  unfold keyOf
  rw [Tryz.underlying73]
  simp only [h4, h5, hd]
  simp [kv, Value.cells, Program.keyLits, Tryz.underlying73, Tryz.underlying3, h1, h2, WalkArith.wf_i64 he, WalkArith.wf_i64 hp]
theorem under69 : Tryz.prog.underlying 69 = some (.map 73 57) := by kernel_rfl
section
variable {w : World} {m : Nat} {l : List (Value × Value)}
/-- Lookup that also tells whether the key is there. -/
theorem MapIs.ask_none (h : MapIs Tryz.prog 73 w m l) {key : Value} {kl : Lit} (hkey : keyOf Tryz.prog 73 key = some kl) (hn : ∀ p ∈ l, p.1 ≠ key) :
    (Instr.lookup 69 (.map (some m)) key true).run Tryz.prog w = .ok (.tuple #[.slice none 0 0, .bool false]) w := by
  have hz : (zeroValue 57).run Tryz.prog w = .ok (.slice none 0 0) w := by kernel_rfl
  obtain ⟨es, c, h1, h2, h3, h4⟩ := h
  rcases law73.find w hkey es.toList (MapIs.entries h2 h4) with ⟨f1, _⟩ | ⟨j, e0, f1, f2, f3⟩
  · simp [Instr.lookup, run_underlying under69, MapKept.run_getObj_map h1, law73.check w _ hkey, f1, hz, Result.andThen]
  · exact absurd f3 (hn (e0.key, e0.val) (h2.mem_iff.1 (List.mem_map.2 ⟨e0, List.mem_of_getElem? f2, rfl⟩)))
theorem MapIs.ask_some (h : MapIs Tryz.prog 73 w m l) {key v : Value} {kl : Lit} (hkey : keyOf Tryz.prog 73 key = some kl) (hm : (key, v) ∈ l) :
    (Instr.lookup 69 (.map (some m)) key true).run Tryz.prog w = .ok (.tuple #[v, .bool true]) w := by
  obtain ⟨es, c, h1, h2, h3, h4⟩ := h
  rcases law73.find w hkey es.toList (MapIs.entries h2 h4) with ⟨f1, f2⟩ | ⟨j, e0, f1, f2, f3⟩
  · obtain ⟨e0, he0, h0⟩ := List.mem_map.1 (h2.mem_iff.2 hm)
    exact absurd (congrArg Prod.fst h0) (f2 e0 he0)
  · have hm0 : (e0.key, e0.val) ∈ l := h2.mem_iff.1 (List.mem_map.2 ⟨e0, List.mem_of_getElem? f2, rfl⟩)
    have hv : e0.val = v := by
      rw [f3] at hm0
      exact val_one h3 hm0 hm
    simp [Instr.lookup, run_underlying under69, MapKept.run_getObj_map h1, law73.check w _ hkey, f1, hv, Result.andThen]
end
theorem zero57 (w : World) : (zeroValue 57).run Tryz.prog w = .ok (.slice none 0 0) w := by kernel_rfl

end Go.Proofs.YtfbapgcopidbpaaGreat
