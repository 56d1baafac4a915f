import Derived.Test.YtnkfdmlpjgmckaaD
namespace Go.Proofs.Ytnkfdmlpjgmckaa
open Go.RowKit
set_option linter.unusedVariables false
set_option maxRecDepth 6000

structure Plc where
  win : Int
  part : Int
  off : Int
  fin : Int
deriving DecidableEq
abbrev Plc.vs (x : Plc) : List Value := [.int .i64 x.win, .int .i64 x.part, .int .i64 x.off, .int .i64 x.fin]
abbrev Plc.v (x : Plc) : Value := .agg #[.int .i64 x.win, .int .i64 x.part, .int .i64 x.off, .int .i64 x.fin]
abbrev plc0 : Plc := ⟨0, 0, 0, 0⟩

theorem load_plc {w : World} {b : Nat} {l : Plc} (h : Blk w b l.vs 30) : (loadVar 30 ⟨b, 0, none⟩).run Try.prog w = .ok l.v w :=
  run_loadVar_row w b 30 30 _ _ _ h Try.underlying30 (by simp) (by kernel_rfl)
theorem results_cell_tmp {P : Program} {fn : Func} {p u : Tmp} {ty : TypeId} (h : fn.results = #[.cell p ty, .tmp u]) (tmps : Array Value) (w : World) (a : Addr) (v : Value)
    (hp : tmps.getD p undef = .pointer (some a)) (hl : (loadVar ty a).run P w = .ok v w) : (results fn tmps).run P w = .ok (.tuple #[v, tmps.getD u undef]) w := by
  have hp' : tmps[p]?.getD undef = .pointer (some a) := by simpa using hp
  simp [results, h, hp', asAddr, hl]
theorem Blk.setPlc {w : World} {b : Nat} {l : Plc} {t : TypeId} (h : Blk w b l.vs t) (y : Plc) :
    Blk ((((w.setCell ⟨b, 0, none⟩ (.int .i64 y.win)).setCell ⟨b, 1, none⟩ (.int .i64 y.part)).setCell ⟨b, 2, none⟩ (.int .i64 y.off)).setCell ⟨b, 3, none⟩ (.int .i64 y.fin)) b y.vs t :=
  (((h.setCell 0 _).setCell 1 _).setCell 2 _).setCell 3 _

/-- In which window of a plan a time lies. -/
def AtW (ws : List Win) (t : Int) (pl : Plc) (e : Int) : Prop :=
  (may ws = false ∧ pl = plc0 ∧ e = 1) ∨ (may ws = true ∧ (((t < 0 ∨ beg ws ws.length ≤ t) ∧ pl = plc0 ∧ e = 141) ∨
    ∃ (i : Nat) (y : Win), ws[i]? = some y ∧ beg ws i ≤ t ∧ t < beg ws (i + 1) ∧ pl = ⟨i, y.p, t - beg ws i, beg ws (i + 1)⟩ ∧ e = 0))
/-- What At tells. -/
def AtR (x : Cfg) (k t : Int) (pl : Plc) (e : Int) : Prop :=
  ((k < 0 ∨ x.cs.length ≤ k) ∧ pl = plc0 ∧ e = 140) ∨ ∃ (n : Nat) (X : Core), k = n ∧ x.cs[n]? = some X ∧ AtW X.ws t pl e
def AtP (w : World) (x : Cfg) (k t : Int) (e : Ending) (w' : World) : Prop := ∃ pl er, e = .returned (.tuple #[Plc.v pl, .int .i64 er]) ∧ AtR x k t pl er ∧ Keeps (fun _ => False) w w'

theorem AtW.unique {ws : List Win} {t : Int} {p p' : Plc} {e e' : Int} (h : AtW ws t p e) (h' : AtW ws t p' e') : p = p' ∧ e = e' := by
  rcases h with ⟨h1, rfl, rfl⟩ | ⟨h1, h⟩
  · rcases h' with ⟨h2, rfl, rfl⟩ | ⟨h2, h'⟩
    · exact ⟨rfl, rfl⟩
    · rw [h1] at h2; cases h2
  · rcases h' with ⟨h2, rfl, rfl⟩ | ⟨h2, h'⟩
    · rw [h1] at h2; cases h2
    · have hok := (may_iff.1 h1).2.2
      have key : ∀ i y, ws[i]? = some y → beg ws i ≤ t → t < beg ws (i + 1) → ¬ (t < 0 ∨ beg ws ws.length ≤ t) := by
        intro i y hy h3 h4 h5
        have hi := (List.getElem?_eq_some_iff.1 hy).1
        have := beg_le hok (i := i + 1) (j := ws.length) (by omega)
        have := (beg_bound hok i).1
        omega
      rcases h with ⟨h3, rfl, rfl⟩ | ⟨i, y, h3, h4, h5, rfl, rfl⟩ <;> rcases h' with ⟨h6, rfl, rfl⟩ | ⟨i', y', h6, h7, h8, rfl, rfl⟩
      · exact ⟨rfl, rfl⟩
      · exact (key i' y' h6 h7 h8 h3).elim
      · exact (key i y h3 h4 h5 h6).elim
      · obtain rfl : i = i' := by
          by_cases hlt : i < i'
          · have := beg_le hok (i := i + 1) (j := i') (by omega); omega
          · by_cases hgt : i' < i
            · have := beg_le hok (i := i' + 1) (j := i) (by omega); omega
            · omega
        rw [h3] at h6
        cases h6
        exact ⟨rfl, rfl⟩
theorem AtR.unique {x : Cfg} {k t : Int} {p p' : Plc} {e e' : Int} (h : AtR x k t p e) (h' : AtR x k t p' e') : p = p' ∧ e = e' := by
  have key : ∀ (n : Nat) (X : Core), k = n → x.cs[n]? = some X → ¬ (k < 0 ∨ x.cs.length ≤ k) := by
    intro n X hk hX
    have := (List.getElem?_eq_some_iff.1 hX).1
    omega
  rcases h with ⟨h1, rfl, rfl⟩ | ⟨n, X, h1, h2, h3⟩ <;> rcases h' with ⟨h4, rfl, rfl⟩ | ⟨n', X', h4, h5, h6⟩
  · exact ⟨rfl, rfl⟩
  · exact (key n' X' h4 h5 h1).elim
  · exact (key n X h1 h2 h4).elim
  · obtain rfl : n = n' := by omega
    rw [h2] at h5
    cases h5
    exact h3.unique h6
end Go.Proofs.Ytnkfdmlpjgmckaa
