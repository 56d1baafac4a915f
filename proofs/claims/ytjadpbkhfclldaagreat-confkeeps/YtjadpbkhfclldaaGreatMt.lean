import Derived.Test.YtjadpbkhfclldaaGreatMe
import Derived.Deep.MidRow
namespace Go.Proofs.YtjadpbkhfclldaaGreat
open Go.RowKit Gw
set_option linter.unusedVariables false
set_option linter.unusedSimpArgs false
set_option maxRecDepth 8000

def nwW (i k : Nat) : List Value := [.int .i64 (-(i : Int)), .int .i64 (-(k : Int)), .int .i64 (-1)]
def nwR (i k : Nat) : List Value := [.int .i64 (-(i : Int)), .int .i64 (-(k : Int)), .int .i64 (-2), .int .i64 0]
def nwP (i k : Nat) : List Value := [.int .i64 (-100 * (i : Int) - k), .bool false]
def nwH (i k : Nat) : List Value := [.int .i64 (-(k : Int)), .int .i64 (-3), .int .i64 0]
def nwC (i k : Nat) : List Value := [.slice none 0 0]
def nwQ (i k : Nat) : List Value := [.string { data := #[] }, .int .i64 (-(k : Int)), .int .i64 0, .int .i64 0, .int .i64 0, .int .i64 0, .slice none 0 0, .slice none 0 0]
def UW (x : Cfg) (i : Nat) : Value := match x.cs[i]? with | some X => .slice X.a X.ws.length X.c | none => .slice none 0 0
def UR (x : Cfg) (i : Nat) : Value := match x.ps[i]? with | some P => .slice P.ra P.rs.length P.rc | none => .slice none 0 0
def UP (x : Cfg) (i : Nat) : Value := match x.ps[i]? with | some P => .slice P.pa P.ps.length P.pc | none => .slice none 0 0
theorem UW_some {x : Cfg} {i : Nat} {X : Core} (h : x.cs[i]? = some X) : UW x i = .slice X.a X.ws.length X.c := by unfold UW; rw [h]
theorem UR_some {x : Cfg} {i : Nat} {P : Par} (h : x.ps[i]? = some P) : UR x i = .slice P.ra P.rs.length P.rc := by unfold UR; rw [h]
theorem UP_some {x : Cfg} {i : Nat} {P : Par} (h : x.ps[i]? = some P) : UP x i = .slice P.pa P.ps.length P.pc := by unfold UP; rw [h]
def LW (x : Cfg) (i : Nat) : Nat := (wsO x i).length
def LR (x : Cfg) (i : Nat) : Nat := (rsO x i).length
def LP (x : Cfg) (i : Nat) : Nat := (psO x i).length
def XW (x : Cfg) (i : Nat) : List Value := (wsO x i).flatMap Win.vs
def XR (x : Cfg) (i : Nat) : List Value := (rsO x i).flatMap Rgn.vs
def XP (x : Cfg) (i : Nat) : List Value := (psO x i).flatMap Prt.vs

theorem rows_w {x : Cfg} {w : World} {lo : Nat} (h : x.LstsR w lo) : (∀ i, i < x.cs.length → w.ownsRow 0 51 3 (UW x i) (LW x i) (XW x i)) ∧ PwU x.cs.length (UW x) := by
  constructor
  · intro i hi
    obtain ⟨X, hX⟩ : ∃ X, x.cs[i]? = some X := ⟨_, List.getElem?_eq_getElem hi⟩
    unfold LW XW
    rw [UW_some hX, wsO_some hX]
    exact (h.cs.ok X (List.mem_of_getElem? hX)).own
  · intro i j hi hj hne k h1 h2
    obtain ⟨X, hX⟩ : ∃ X, x.cs[i]? = some X := ⟨_, List.getElem?_eq_getElem hi⟩
    obtain ⟨Y, hY⟩ : ∃ X, x.cs[j]? = some X := ⟨_, List.getElem?_eq_getElem hj⟩
    rw [UW_some hX] at h1
    rw [UW_some hY] at h2
    exact apt_at (E := eCoreR) h.cs.dj hX hY hne k (bk_mem.2 h1) (bk_mem.2 h2)
theorem rows_r {x : Cfg} {w : World} {lo : Nat} (h : x.LstsR w lo) : (∀ i, i < x.ps.length → w.ownsRow 0 53 4 (UR x i) (LR x i) (XR x i)) ∧ PwU x.ps.length (UR x) := by
  constructor
  · intro i hi
    obtain ⟨X, hX⟩ : ∃ X, x.ps[i]? = some X := ⟨_, List.getElem?_eq_getElem hi⟩
    unfold LR XR
    rw [UR_some hX, rsO_some hX]
    exact (h.ps.ok X (List.mem_of_getElem? hX)).rown
  · intro i j hi hj hne k h1 h2
    obtain ⟨X, hX⟩ : ∃ X, x.ps[i]? = some X := ⟨_, List.getElem?_eq_getElem hi⟩
    obtain ⟨Y, hY⟩ : ∃ X, x.ps[j]? = some X := ⟨_, List.getElem?_eq_getElem hj⟩
    rw [UR_some hX] at h1
    rw [UR_some hY] at h2
    exact apt_at (E := eParR) h.ps.dj hX hY hne k (List.mem_append_left _ (bk_mem.2 h1)) (List.mem_append_left _ (bk_mem.2 h2))
theorem rows_p {x : Cfg} {w : World} {lo : Nat} (h : x.LstsR w lo) : (∀ i, i < x.ps.length → w.ownsRow 0 55 2 (UP x i) (LP x i) (XP x i)) ∧ PwU x.ps.length (UP x) := by
  constructor
  · intro i hi
    obtain ⟨X, hX⟩ : ∃ X, x.ps[i]? = some X := ⟨_, List.getElem?_eq_getElem hi⟩
    unfold LP XP
    rw [UP_some hX, psO_some hX]
    exact (h.ps.ok X (List.mem_of_getElem? hX)).pown
  · intro i j hi hj hne k h1 h2
    obtain ⟨X, hX⟩ : ∃ X, x.ps[i]? = some X := ⟨_, List.getElem?_eq_getElem hi⟩
    obtain ⟨Y, hY⟩ : ∃ X, x.ps[j]? = some X := ⟨_, List.getElem?_eq_getElem hj⟩
    rw [UP_some hX] at h1
    rw [UP_some hY] at h2
    exact apt_at (E := eParR) h.ps.dj hX hY hne k (List.mem_append_right _ (bk_mem.2 h1)) (List.mem_append_right _ (bk_mem.2 h2))
/-- The blocks of the lists within. -/
def InW (x : Cfg) (b : Nat) : Prop := ∃ i, i < x.cs.length ∧ (UW x i).ownBlock = some b
def InP (x : Cfg) (b : Nat) : Prop := ∃ i, i < x.ps.length ∧ ((UR x i).ownBlock = some b ∨ (UP x i).ownBlock = some b)
theorem InW.B {x : Cfg} {b : Nat} (h : InW x b) : x.B b := by
  obtain ⟨i, hi, hb⟩ := h
  obtain ⟨X, hX⟩ : ∃ X, x.cs[i]? = some X := ⟨_, List.getElem?_eq_getElem hi⟩
  rw [UW_some hX] at hb
  exact .inl (.inr ⟨X, List.mem_of_getElem? hX, bk_mem.2 hb⟩)
theorem InP.B {x : Cfg} {b : Nat} (h : InP x b) : x.B b := by
  obtain ⟨i, hi, hb⟩ := h
  obtain ⟨X, hX⟩ : ∃ X, x.ps[i]? = some X := ⟨_, List.getElem?_eq_getElem hi⟩
  rcases hb with hb | hb
  · rw [UR_some hX] at hb
    exact .inr (.inl (.inr ⟨X, List.mem_of_getElem? hX, List.mem_append_left _ (bk_mem.2 hb)⟩))
  · rw [UP_some hX] at hb
    exact .inr (.inl (.inr ⟨X, List.mem_of_getElem? hX, List.mem_append_right _ (bk_mem.2 hb)⟩))

/-- What stays while the lists within grow. -/
structure GS (x : Cfg) (w : World) (C A : Nat) (y : Cfg) (O : Nat → Nat → ObG) (lo2 : Nat) (w' : World) : Prop where
  bx : Blk w' C x.vs 26
  by' : Blk w' A y.vs 26
  fam : FamO lo2 w' O
  o1 : w'.ownsRow 0 43 1 (.slice x.ca x.cs.length x.cc) x.cs.length (x.cs.flatMap Core.vs)
  o2 : w'.ownsRow 0 47 8 (.slice x.pa x.ps.length x.pc) x.ps.length (x.ps.flatMap Par.vs)
  o3 : w'.ownsRow 0 57 3 (.slice x.ha x.hs.length x.hc) x.hs.length (x.hs.flatMap Chn.vs)
  hc : ∀ j X, x.cs[j]? = some X → ∃ g, x.ca = some ⟨g, 0, none⟩ ∧ w'.cell? ⟨g, j, none⟩ = some (.slice X.a X.ws.length X.c)
  hp : ∀ j P, x.ps[j]? = some P → ∃ g, x.pa = some ⟨g, 0, none⟩ ∧ ∀ i v, P.vs[i]? = some v → w'.cell? ⟨g, j * 8 + i, none⟩ = some v
theorem GS.cells {x : Cfg} {w : World} {C A : Nat} {y : Cfg} {O : Nat → Nat → ObG} {lo2 : Nat} {w' : World} (h : GS x w C A y O lo2 w') :
    w'.cell? ⟨C, 4, none⟩ = some (.slice x.ca x.cs.length x.cc) ∧ w'.cell? ⟨C, 5, none⟩ = some (.slice x.pa x.ps.length x.pc) ∧ w'.cell? ⟨C, 6, none⟩ = some (.slice x.ha x.hs.length x.hc) := ⟨h.bx.cell rfl, h.bx.cell rfl, h.bx.cell rfl⟩
/-- Rows of one's own, read off at the headers. -/
theorem heads {x : Cfg} {w : World} {lo : Nat} (h1 : w.ownsRow 0 43 1 (.slice x.ca x.cs.length x.cc) x.cs.length (x.cs.flatMap Core.vs)) (h2 : w.ownsRow 0 47 8 (.slice x.pa x.ps.length x.pc) x.ps.length (x.ps.flatMap Par.vs)) :
    (∀ j X, x.cs[j]? = some X → ∃ g, x.ca = some ⟨g, 0, none⟩ ∧ w.cell? ⟨g, j, none⟩ = some (.slice X.a X.ws.length X.c)) ∧
    (∀ j P, x.ps[j]? = some P → ∃ g, x.pa = some ⟨g, 0, none⟩ ∧ ∀ i v, P.vs[i]? = some v → w.cell? ⟨g, j * 8 + i, none⟩ = some v) := by
  constructor
  · intro j X hX
    obtain ⟨g, hg⟩ := own_addr h1 (by have := (List.getElem?_eq_some_iff.1 hX).1; omega)
    refine ⟨g, hg, ?_⟩
    rw [hg] at h1
    have := own_cell h1 (flat_get eCoreR x.cs j X 0 (.slice X.a X.ws.length X.c) hX rfl)
    rw [show j * eCoreR.k + 0 = j by show j * 1 + 0 = j; omega] at this
    exact this
  · intro j P hP
    obtain ⟨g, hg⟩ := own_addr h2 (by have := (List.getElem?_eq_some_iff.1 hP).1; omega)
    refine ⟨g, hg, fun i v hv => ?_⟩
    rw [hg] at h2
    exact own_cell h2 (flat_get eParR x.ps j P i v hP hv)
/-- The blocks of the three lists themselves. -/
def OutB (x : Cfg) (b : Nat) : Prop := b ∈ bk x.ca ∨ b ∈ bk x.pa ∨ b ∈ bk x.ha
theorem OutB.B {x : Cfg} {b : Nat} (h : OutB x b) : x.B b := h.elim (fun h => .inl (.inl h)) fun h => h.elim (fun h => .inr (.inl (.inl h))) fun h => .inr (.inr (.inl h))
theorem out_w {x : Cfg} {w : World} {lo : Nat} (h : x.LstsR w lo) {b : Nat} (h1 : InW x b) : ¬ OutB x b := fun h2 => by
  obtain ⟨i, hi, hb⟩ := h1
  obtain ⟨X, hX⟩ : ∃ X, x.cs[i]? = some X := ⟨_, List.getElem?_eq_getElem hi⟩
  rw [UW_some hX] at hb
  have hm := List.mem_of_getElem? hX
  have hb' : b ∈ eCoreR.bl X := bk_mem.2 hb
  rcases h2 with h2 | h2 | h2
  · exact h.cs.self X hm b hb' h2
  · exact h.d1 b (.inr ⟨X, hm, hb'⟩) (.inl h2)
  · exact h.d2 b (.inr ⟨X, hm, hb'⟩) (.inl h2)
theorem out_p {x : Cfg} {w : World} {lo : Nat} (h : x.LstsR w lo) {b : Nat} (h1 : InP x b) : ¬ OutB x b := fun h2 => by
  obtain ⟨i, hi, hb⟩ := h1
  obtain ⟨X, hX⟩ : ∃ X, x.ps[i]? = some X := ⟨_, List.getElem?_eq_getElem hi⟩
  rw [UR_some hX, UP_some hX] at hb
  have hm := List.mem_of_getElem? hX
  have hb' : b ∈ eParR.bl X := hb.elim (fun h => List.mem_append_left _ (bk_mem.2 h)) fun h => List.mem_append_right _ (bk_mem.2 h)
  rcases h2 with h2 | h2 | h2
  · exact h.d1 b (.inl h2) (.inr ⟨X, hm, hb'⟩)
  · exact h.ps.self X hm b hb' h2
  · exact h.d3 b (.inr ⟨X, hm, hb'⟩) (.inl h2)
/-- Out of its rows: it lies there as it should. -/
theorem ok_rows {x : Cfg} {w w0 : World} {lo : Nat} (h0 : x.LstsR w0 lo) (o1 : w.ownsRow 0 43 1 (.slice x.ca x.cs.length x.cc) x.cs.length (x.cs.flatMap Core.vs)) (o2 : w.ownsRow 0 47 8 (.slice x.pa x.ps.length x.pc) x.ps.length (x.ps.flatMap Par.vs))
    (o3 : w.ownsRow 0 57 3 (.slice x.ha x.hs.length x.hc) x.hs.length (x.hs.flatMap Chn.vs)) (hw : ∀ i, i < x.cs.length → w.ownsRow 0 51 3 (UW x i) (LW x i) (XW x i)) (hr : ∀ i, i < x.ps.length → w.ownsRow 0 53 4 (UR x i) (LR x i) (XR x i)) (hp : ∀ i, i < x.ps.length → w.ownsRow 0 55 2 (UP x i) (LP x i) (XP x i)) : x.Ok w := by
  refine ⟨own_seg (E := eCore) o1, h0.cs.len, fun X hX => ?_, own_seg (E := ePar) o2, h0.ps.len, fun P hP => ?_, own_seg (E := eChn) o3, h0.hs.len⟩
  · obtain ⟨i, hi⟩ := List.getElem?_of_mem hX
    have := hw i (List.getElem?_eq_some_iff.1 hi).1
    unfold LW XW at this
    rw [UW_some hi, wsO_some hi] at this
    exact ⟨own_seg (E := eWin) this, (h0.cs.ok X hX).ok.len, (h0.cs.ok X hX).ok.fine⟩
  · obtain ⟨i, hi⟩ := List.getElem?_of_mem hP
    have h1 := hr i (List.getElem?_eq_some_iff.1 hi).1
    have h2 := hp i (List.getElem?_eq_some_iff.1 hi).1
    unfold LR XR at h1
    unfold LP XP at h2
    rw [UR_some hi, rsO_some hi] at h1
    rw [UP_some hi, psO_some hi] at h2
    have hk := (h0.ps.ok P hP).ok
    exact ⟨own_seg (E := eRgn) h1, hk.rlen, hk.rfine, own_seg (E := ePrt) h2, hk.plen, hk.pfine, hk.ns, hk.name⟩
end Go.Proofs.YtjadpbkhfclldaaGreat
namespace Go.Proofs.YtjadpbkhfclldaaGreat
open Go.RowKit
set_option linter.unusedVariables false
set_option maxRecDepth 6000
theorem tlR {P : Program} {md : Region.Mode} {ops : Array Oper} {Q : Exit → Act → World → Prop} {S : World → Prop} {oi : Oper} {fuel : Nat} {listed : Array Bool} {a : Act} {w : World} (i : Nat) {ty : TypeId} {x : Operand} {b o : Nat} {cs : List Value} {d : TypeDesc}
    (hw : ∀ w, S w → w.rangeAt b o cs) (hu : P.underlying ty = some d) (hd : d.isRow = true) (hz : (P.info? ty).map (·.size) = some cs.length) (hS : S w)
    (h : wpAnyH P md ops Q S fuel (listed.setIfInBounds i true) (a.put oi.dst (.agg cs.toArray)) w)
    (hi : ops[i]? = some oi := by (simp only [List.getElem?_toArray, List.getElem?_cons_succ, List.getElem?_cons_zero]; exact rfl))
    (ho : oi.op = .load ty x := by rfl) (hx : a.eval x = .pointer (some ⟨b, o, none⟩) := by rfl)
    (hs : Region.noSelect ops = true := by kernel_rfl) (hf : Region.free md ops listed i = true := by kernel_rfl) (hc : (Region.ready md ops listed).contains i = true := by kernel_rfl)
    (hQ : ∀ c a w, Q (.panic c) (a.put oi.dst (.agg cs.toArray)) w → Q (.panic c) a w := by exact fun _ _ _ h => h) (hg : Region.wanted oi (yielded ops a.tmps) = true := by kernel_rfl) : wpAnyH P md ops Q S (fuel + 1) listed a w :=
  wpAnyH_take hi hs hf hc hQ (yieldsIf_load_mid hg ty x ho b o hx cs d hw hu hd hz) hS h
/-- A comparison of structs. -/
theorem tcmpR {P : Program} {md : Region.Mode} {ops : Array Oper} {Q : Exit → Act → World → Prop} {S : World → Prop} {oi : Oper} {fuel : Nat} {listed : Array Bool} {a : Act} {w : World} (i : Nat) {op : BinOp} {ty t2 : TypeId} {x y : Operand} {vx vy : Array Value} {v : Value}
    (hr : ∀ w, (binOp op ty (.agg vx) (.agg vy)).run P w = .ok v w) (hm : P.eqGuardType P.depth ty = false) (hS : S w)
    (h : wpAnyH P md ops Q S fuel (listed.setIfInBounds i true) (a.put oi.dst v) w)
    (hi : ops[i]? = some oi := by (simp only [List.getElem?_toArray, List.getElem?_cons_succ, List.getElem?_cons_zero]; exact rfl))
    (ho : oi.op = .binOp op ty x y t2 := by rfl) (hx : a.eval x = .agg vx := by rfl) (hy : a.eval y = .agg vy := by rfl) (he : op = .eql ∨ op = .neq := by simp)
    (hs : Region.noSelect ops = true := by kernel_rfl) (hf : Region.free md ops listed i = true := by kernel_rfl) (hc : (Region.ready md ops listed).contains i = true := by kernel_rfl)
    (hQ : ∀ c a w, Q (.panic c) (a.put oi.dst v) w → Q (.panic c) a w := by exact fun _ _ _ h => h) (hg : Region.wanted oi (yielded ops a.tmps) = true := by kernel_rfl) : wpAnyH P md ops Q S (fuel + 1) listed a w :=
  wpAnyH_take hi hs hf hc hQ (Or.inl ⟨hg, fun w _ => by
    unfold execOp
    rcases he with rfl | rfl <;> simp only [ho, hx, hy, Sem.run_bind, run_eqGuard_agg _ _ _ _ _ _ _ hm, hr, Result.andThen_ok, Sem.run_pure]⟩) hS h
theorem guard51 : Tryz.prog.eqGuardType Tryz.prog.depth 51 = false := by kernel_rfl
theorem guard53 : Tryz.prog.eqGuardType Tryz.prog.depth 53 = false := by kernel_rfl
theorem neq51 (a b c : Int) (w : World) : (binOp .neq 51 (.agg (#[.int .i64 a, .int .i64 b, .int .i64 c] : Array Value)) (.agg #[.int .i64 a, .int .i64 b, .int .i64 c])).run Tryz.prog w = .ok (.bool false) w := by
  have e : (Op.equalIn 10000 51 (.agg (#[.int .i64 a, .int .i64 b, .int .i64 c] : Array Value)) (.agg #[.int .i64 a, .int .i64 b, .int .i64 c])).run Tryz.prog w = .ok true w := by simp [go_sem, Result.andThen]
  rw [run_neq_struct, e]
  rfl
theorem neq53 (a b c d : Int) (w : World) : (binOp .neq 53 (.agg (#[.int .i64 a, .int .i64 b, .int .i64 c, .int .i64 d] : Array Value)) (.agg #[.int .i64 a, .int .i64 b, .int .i64 c, .int .i64 d])).run Tryz.prog w = .ok (.bool false) w := by
  have e : (Op.equalIn 10000 53 (.agg (#[.int .i64 a, .int .i64 b, .int .i64 c, .int .i64 d] : Array Value)) (.agg #[.int .i64 a, .int .i64 b, .int .i64 c, .int .i64 d])).run Tryz.prog w = .ok true w := by simp [go_sem, Result.andThen]
  rw [run_neq_struct, e]
  rfl
theorem size51R : (Tryz.prog.info? 51).map (·.size) = some 3 := by kernel_rfl
theorem size53R : (Tryz.prog.info? 53).map (·.size) = some 4 := by kernel_rfl
end Go.Proofs.YtjadpbkhfclldaaGreat
