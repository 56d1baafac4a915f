import Derived.Test.YtffhkapegmnklaaK
import Derived.Test.YtffhkapegmnklaaIn
import Derived.Laws.StructEq
import Derived.Deep.CutBlock
import Derived.Deep.CutRange
namespace Go.Proofs.Ytffhkapegmnklaa
open Go.RowKit Go.Shelf
attribute [local go_sem] Oper.semAt_some
set_option linter.unusedVariables false

/-- Two shelves: a step on the one leaves the other. -/
theorem Now.beside {w w' : World} {s room : Nat} {kvs : List (Int × Value)} {F : Nat → Prop} (h : Now w w' s room kvs F) :
    ∃ F', Sf w' s room kvs F' ∧ Keeps F w w' ∧ (∀ b, F' b → F b ∨ w.heap.size ≤ b) ∧ (∀ (t : Nat) r (k : List (Int × Value)) (G : Nat → Prop), Sf w t r k G → (∀ b, F b → G b → False) → Sf w' t r k G ∧ ∀ b, F' b → G b → False) := by
  obtain ⟨⟨F', hS, hF⟩, hK⟩ := h
  refine ⟨F', hS, hK, hF, fun t r k G hG hd => ⟨hG.kept hK fun b hb hf => hd b hf hb, fun b hb hg => ?_⟩⟩
  rcases hF b hb with h | h
  · exact hd b h hg
  · have := hG.lt b hg; omega

/-- Three shelves, apart, made since w; and the law's answer's block. -/
structure Tri (w W : World) (s t u rm : Nat) (ks kt ku : List (Int × Value)) : Prop where
  ex : ∃ Fs Ft Fu : Nat → Prop, Sf W s rm ks Fs ∧ Sf W t rm kt Ft ∧ Sf W u rm ku Fu ∧ (∀ b, Fs b → Ft b → False) ∧ (∀ b, Fs b → Fu b → False) ∧ (∀ b, Ft b → Fu b → False) ∧
    (∀ b, Fs b → w.heap.size < b) ∧ (∀ b, Ft b → w.heap.size < b) ∧ (∀ b, Fu b → w.heap.size < b)
  r : Blk W w.heap.size [.bool false] 4
  k : Keeps (fun _ => False) w W

section
variable {w W W' : World} {s t u rm : Nat} {ks kt ku : List (Int × Value)}
theorem Tri.kept {S : Nat → Prop} (h : Tri w W s t u rm ks kt ku) (hK : Keeps S W W') (hS : ∀ b, b < W.heap.size → ¬ S b) : Tri w W' s t u rm ks kt ku := by
  obtain ⟨⟨Fs, Ft, Fu, h1, h2, h3, h4⟩, hr, hk⟩ := h
  exact ⟨⟨Fs, Ft, Fu, h1.kept hK fun b hb => hS b (h1.lt b hb), h2.kept hK fun b hb => hS b (h2.lt b hb), h3.kept hK fun b hb => hS b (h3.lt b hb), h4⟩, hr.kept hK (hS _ hr.lt), hk.trans hK fun b hb hs => hS b (Nat.lt_of_lt_of_le hb hk.size) hs⟩

/-- A step on the first one. -/
theorem Tri.stepS (h : Tri w W s t u rm ks kt ku) {ks' : List (Int × Value)} {Pe : Ending → Prop} {f : Nat} {args : Array Value}
    (hc : ∀ F, Sf W s rm ks F → Calls Try.prog f args W fun e W' => Pe e ∧ Now W W' s rm ks' F) : Calls Try.prog f args W fun e W' => Pe e ∧ Tri w W' s t u rm ks' kt ku := by
  obtain ⟨⟨Fs, Ft, Fu, h1, h2, h3, d1, d2, d3, l1, l2, l3⟩, hr, hk⟩ := h
  refine (hc Fs h1).mono ?_
  rintro e W' ⟨hPe, hN⟩
  obtain ⟨F', hS, hK, hF, hB⟩ := hN.beside
  obtain ⟨a2, e2⟩ := hB t rm kt Ft h2 d1
  obtain ⟨a3, e3⟩ := hB u rm ku Fu h3 d2
  refine ⟨hPe, ⟨F', Ft, Fu, hS, a2, a3, e2, e3, d3, fun b hb => ?_, l2, l3⟩, hr.kept hK fun hf => by have := l1 _ hf; omega, hk.trans hK fun b hb hf => by have := l1 b hf; omega⟩
  rcases hF b hb with h | h
  · exact l1 b h
  · have := hr.lt; omega
theorem Tri.swap (h : Tri w W s t u rm ks kt ku) : Tri w W t s u rm kt ks ku := by
  obtain ⟨⟨Fs, Ft, Fu, h1, h2, h3, d1, d2, d3, l1, l2, l3⟩, hr, hk⟩ := h
  exact ⟨⟨Ft, Fs, Fu, h2, h1, h3, fun b x y => d1 b y x, d3, d2, l2, l1, l3⟩, hr, hk⟩
theorem Tri.rot (h : Tri w W s t u rm ks kt ku) : Tri w W u s t rm ku ks kt := by
  obtain ⟨⟨Fs, Ft, Fu, h1, h2, h3, d1, d2, d3, l1, l2, l3⟩, hr, hk⟩ := h
  exact ⟨⟨Fu, Fs, Ft, h3, h1, h2, fun b x y => d2 b y x, fun b x y => d3 b y x, d1, l3, l1, l2⟩, hr, hk⟩
end

theorem things_put {rm : Nat} {k n : Int} {ks : List (Int × Value)} (h : Things ks) : Things (putL rm k (.int .i64 n) ks) := by
  have h1 : ∀ p ∈ ks ++ [(k, Value.int .i64 n)], Thing p.2 := by
    intro p hp
    rcases List.mem_append.1 hp with hp | hp
    · exact h p hp
    · simp at hp; rw [hp]; exact ⟨n, rfl⟩
  unfold putL
  split
  · intro p hp
    rcases List.mem_append.1 hp with hp | hp
    · exact h p (List.mem_filter.1 hp).1
    · exact h1 p (by simp [List.mem_append]; right; simpa using hp)
  · split
    · exact h1
    · intro p hp
      rcases List.mem_append.1 hp with hp | hp
      · exact h p (List.mem_of_mem_tail hp)
      · exact h1 p (by simp [List.mem_append]; right; simpa using hp)

theorem Try.info49 : (Try.prog.info? 49).map (fun i => (i.zero, i.size, i.bytes)) = some (some (.agg #[.int .i64 0, .int .i64 0]), 2, 16) := by kernel_rfl
theorem append_pair {w : World} (k n : Int) (v : Value) (m : Nat) (vs : List Value) (hown : w.ownsRow 0 49 2 v m vs) (hn : m ≤ 1048576) :
    ∃ v' W', (∀ ty, (Builtin.append_ #[47, 47] ty #[v, .slice (some ⟨w.heap.size, 0, none⟩) 1 1]).run Try.prog (w.alloc (.cells #[.int .i64 k, .int .i64 n] 49)) = .ok v' W') ∧ W'.ownsRow 0 49 2 v' (m + 1) (vs ++ [.int .i64 k, .int .i64 n]) ∧ Grew w v W' v' := by
  obtain ⟨i0, hi, hz0, hz1, hz2⟩ := info_parts Try.info49
  obtain ⟨v', W', h1, h2, h3, h4⟩ := append_new 47 49 i0 (.agg #[.int .i64 0, .int .i64 0]) 2 16 Try.underlying47 hi hz0 hz1 hz2 rfl (by omega) v m vs hown #[.int .i64 k, .int .i64 n] rfl (by
    intro x hx
    simp at hx
    rcases hx with rfl | rfl <;> rfl) (by unfold maxLen; omega) (by omega)
  exact ⟨v', W', h1, h2, h3, h4⟩

/-- What a range leaves that collects what it is told: the list's cell Wt, all else as it was. -/
structure Coll (W0 : World) (Wt g i : Nat) (ks : List (Int × Value)) (W : World) : Prop where
  hi : g < W.heap.size
  lo : W0.heap.size + 2 ≤ g
  k : Keeps (· = Wt) W0 W
  row : ∃ v, Blk W Wt [v] 47 ∧ W.ownsRow 0 49 2 v i (flat (ks.take i)) ∧ ∀ k, v.ownBlock = some k → g < k

theorem Coll.kept {W0 : World} {Wt g i : Nat} {ks : List (Int × Value)} {W W' : World} {S : Nat → Prop} (h : Coll W0 Wt g i ks W) (hw : Wt < W0.heap.size) (hK : Keeps S W W') (hS : ∀ b, S b → b = W0.heap.size ∨ b = W0.heap.size + 1) : Coll W0 Wt g i ks W' := by
  obtain ⟨v, h1, h2, h3⟩ := h.row
  refine ⟨Nat.lt_of_lt_of_le h.hi hK.size, h.lo, h.k.trans hK fun b hb hs => ?_, v, h1.kept hK fun hs => ?_, owns_kept h2 hK fun k hk hs => ?_, h3⟩
  · have := hS b hs; omega
  · have := hS _ hs; omega
  · have h4 := h3 k hk; have h5 := hS _ hs; have h6 := h.lo; omega

theorem wpListIn_append_run {F : Fence} {n : Nat} {P : Program} {w : World} {ops : Array Oper} {rest : List Oper} {o : Oper} {a : Act} {Q : Exit → Act → World → Prop} (hg : o.guard = none) (s x : Operand) (t k : TypeId)
    (hop : o.op = Op.call { callee := Callee.builtin Builtin.append, args := #[s, x], argTypes := #[t, k] }) (vs vx v' : Value) (w' : World) (hs : a.eval s = vs) (hx : a.eval x = vx)
    (hr : ∀ ty, (Builtin.append_ #[t, k] ty #[vs, vx]).run P w = .ok v' w') (h : wpListIn F n P ops Q rest (a.put o.dst v') w') : wpListIn F n P ops Q (o :: rest) a w := by
  refine wpListIn_plain hg fun K hK' => ?_
  unfold Oper.wpIn
  refine ⟨?_, ?_⟩
  · simp [Oper.about, hop, resolve, Target.leads, Sem.run_pure]
  · rw [Oper.semAt_plain F _ _ (by rw [hop]; intro c hc'; cases hc')]
    simp [execOp, hop, resolve, invoke, builtin, hs, hx, hr, Result.andThen]
    exact hK' _ _ h

/-- A row that has an entry is no nil. -/
theorem owns_some {w : World} {e : TypeId} {size n : Nat} {v : Value} {vs : List Value} (h : w.ownsRow 0 e size v n vs) (hn : 0 < n) : ∃ g cap, v = .slice (some ⟨g, 0, none⟩) n cap ∧ n ≤ cap ∧ cap ≤ 9223372036854775807 := by
  rcases h.2 with ⟨rfl, rfl⟩ | ⟨g, cap, cur, rfl, _, _, hnc, hcm, _⟩
  · omega
  · exact ⟨g, cap, rfl, hnc, by unfold maxLen at hcm; omega⟩

theorem take_snoc {α : Type} (ks : List α) (i : Nat) (p : α) (h : ks[i]? = some p) : ks.take (i + 1) = ks.take i ++ [p] := by
  rw [List.take_add_one, h]; rfl

theorem ksl {w : World} {s room : Nat} {ks : List (Int × Value)} {F : Nat → Prop} (h : Sf w s room ks F) : ks.length ≤ 4096 := by
  have := h.fits; have := h.bounds; omega

end Go.Proofs.Ytffhkapegmnklaa
