import Derived.Test.YtnkohgciecmecaaGreatDoorCn
namespace Go.Proofs.YtnkohgciecmecaaGreatDoor
open Go.RowKit
set_option linter.unusedVariables false
set_option linter.unusedSimpArgs false
set_option maxRecDepth 6000

theorem Tryz.mixd : Tryz.prog.follows Departure.mixedOrders = true := by kernel_rfl
theorem Hid.mkq {p : Prop} (h : p) : Hid p := h
theorem enter_fn {P : Program} {F : FuncId} {fn : Func} (hf : P.funcs[F]? = some fn) (hn : (fn.name == "runtime.NumGoroutine") = false) (hb : fn.body.isNone = false) (args : Array Value) (w : World) :
    (callFunc F args).run P w = .ok (.enter F args) w := by
  have hn' : ¬ fn.name = "runtime.NumGoroutine" := by simpa using hn
  have hb' : ¬ fn.body = none := fun e => by rw [e] at hb; cases hb
  simp [callFunc, go_sem, hf, hn', hb']

/-- What is wrong, and where. -/
structure Flt where
  n : Int
  a : Int
  b : Int
deriving DecidableEq
abbrev Flt.v (x : Flt) : Value := .agg #[.int .i64 x.n, .int .i64 x.a, .int .i64 x.b]
def Flt.no : Flt := ⟨0, 0, 0⟩
def unl (h : Bool) (f : Flt) : Flt := if h then Flt.no else f
def inR (n a b : Int) : Bool := decide (a ≤ n) && decide (n ≤ b)
/-- The first thing that is wrong. -/
def firstF : List Flt → Flt
  | [] => Flt.no
  | f :: fs => if f.n = 0 then firstF fs else f

theorem within_any (n a b : Int) (w : World) : Calls Tryz.prog 193 #[.int .i64 n, .int .i64 a, .int .i64 b] w fun e w' => e = .returned (.bool (inR n a b)) ∧ w' = w := by
  unfold inR
  go_enter Tryz.func193, Tryz.ntmps193
  by_cases h : a ≤ n
  · have q : decide (a ≤ n) = true := by simpa using h
    go_wp2
    go_ret
    simp [h]
  · have q : decide (a ≤ n) = false := by simpa using h
    go_wp2
    go_ret
    simp [h]
theorem unless_any (h : Bool) (n a b : Int) (w : World) : Calls Tryz.prog 192 #[.bool h, .int .i64 n, .agg #[.int .i64 a, .int .i64 b]] w fun e w' => e = .returned (unl h ⟨n, a, b⟩).v ∧ Keeps (fun _ => False) w w' := by
  cases h
  · go_enter Tryz.func192, Tryz.ntmps192
    go_wp2
    (try simp only [Exit.inBlock, Exit.then])
    have hB := Blk.new (w.alloc (.cells #[.int .i64 a, .int .i64 b] 205)) #[.int .i64 n, .int .i64 a, .int .i64 b] 290
    simp only [World.size_alloc] at hB
    refine bodyPost_ret (results_cell_row rfl _ _ (w.heap.size + 1) 290 _ (0, 0) _ rfl hB Tryz.underlying290 rfl (by kernel_rfl)) rfl ?_
    exact ⟨rfl, ((Keeps.refl _ _).alloc _).alloc _⟩
  · go_enter Tryz.func192, Tryz.ntmps192
    go_wp2
    (try simp only [Exit.inBlock, Exit.then])
    have hB := Blk.new (w.alloc (.cells #[.int .i64 a, .int .i64 b] 205)) #[.int .i64 0, .int .i64 0, .int .i64 0] 290
    simp only [World.size_alloc] at hB
    refine bodyPost_ret (results_cell_row rfl _ _ (w.heap.size + 1) 290 _ (0, 0) _ rfl hB Tryz.underlying290 rfl (by kernel_rfl)) rfl ?_
    exact ⟨rfl, ((Keeps.refl _ _).alloc _).alloc _⟩

/-- What a question finds in the memory: the configuration, and blocks with what was captured. -/
structure Env (x : Cfg) (N : Nat) (L : List (Nat × List Value × TypeId)) (w : World) : Prop where
  cin : x.In w N
  nn : N ≤ w.heap.size
  bl : ∀ b ∈ L, Blk w b.1 b.2.1 b.2.2
theorem Env.kept {x : Cfg} {N : Nat} {L : List (Nat × List Value × TypeId)} {w w' : World} (h : Env x N L w) (hK : Keeps (fun _ => False) w w') : Env x N L w' :=
  ⟨h.cin.keeps h.nn hK, Nat.le_trans h.nn hK.size, fun b hb => (h.bl b hb).kept hK fun h => h⟩
theorem Env.kept' {x : Cfg} {N R : Nat} {L : List (Nat × List Value × TypeId)} {w w1 w2 : World} (h : Env x N L w) (h1 : Env x N L w1) (hR : w.heap.size ≤ R) (hK : Keeps (fun k => k = R) w1 w2) : Env x N L w2 :=
  ⟨h1.cin.below (hK.below h1.nn fun k e => by have := h.nn; omega), Nat.le_trans h1.nn hK.size, fun b hb => (h1.bl b hb).kept hK fun e => by have := (h.bl b hb).lt; omega⟩

/-- A question's answer. -/
def Ask (f : Nat) (bs : Array Value) (E : World → Prop) (g : Flt) : Prop :=
  ∀ w, E w → Calls Tryz.prog f bs w fun e w' => e = .returned g.v ∧ Keeps (fun _ => False) w w'
theorem Tryz.size290 : (Tryz.prog.info? 290).map (·.size) = some 3 := by kernel_rfl
theorem all53 (n a b : Int) : (#[Value.int .i64 n, .int .i64 a, .int .i64 b] : Array Value).all (fun v => v.oneCell') = true := by kernel_rfl
theorem flt_agg (g : Flt) : Value.agg #[.int .i64 g.n, .int .i64 g.a, .int .i64 g.b] = g.v := rfl
theorem set3 {w : World} {C : Nat} {a0 a1 a2 : Value} {t : TypeId} (hB : Blk w C [a0, a1, a2] t) (v0 v1 v2 : Value) :
    Blk (((w.setCell ⟨C, 0, none⟩ v0).setCell ⟨C, 1, none⟩ v1).setCell ⟨C, 2, none⟩ v2) C [v0, v1, v2] t ∧
    Keeps (fun k => k = C) w (((w.setCell ⟨C, 0, none⟩ v0).setCell ⟨C, 1, none⟩ v1).setCell ⟨C, 2, none⟩ v2) :=
  ⟨((hB.setCell 0 v0).setCell 1 v1).setCell 2 v2, (((Keeps.refl (fun k => k = C) w).setCell ⟨C, 0, none⟩ v0 fun _ => rfl).setCell ⟨C, 1, none⟩ v1 fun _ => rfl).setCell ⟨C, 2, none⟩ v2 fun _ => rfl⟩
end Go.Proofs.YtnkohgciecmecaaGreatDoor
