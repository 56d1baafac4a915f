import Derived.Test.YtnkfdmlpjgmckaaM
import Derived.Test.YtnkfdmlpjgmckaaP
namespace Go.Proofs.Ytnkfdmlpjgmckaa
open Go.RowKit
set_option linter.unusedVariables false
set_option maxRecDepth 6000

def srv (p : Int) (ws : List Win) : Bool := ws.any fun y => y.p == p
theorem srv_true {p : Int} {ws : List Win} {j : Nat} {y : Win} (hy : ws[j]? = some y) (h : y.p = p) : srv p ws = true := by
  unfold srv; rw [List.any_eq_true]; exact ⟨y, List.mem_of_getElem? hy, by simp [h]⟩
theorem srv_take {p : Int} {ws : List Win} {j : Nat} {y : Win} (hy : ws[j]? = some y) (hj : srv p (ws.take j) = false) (h : ¬ y.p = p) : srv p (ws.take (j + 1)) = false := by
  unfold srv at *
  rw [List.take_add_one, hy]
  simp only [Option.toList_some, List.any_append, hj, List.any_cons, List.any_nil, Bool.or_false, Bool.false_or]
  simp [h]

set_option maxHeartbeats 1000000 in
theorem serves_any (a : Option Addr) (c : Nat) (l : List Win) (p : Int) (w : World) (h1 : SegA Win.vs 3 w a l) (hl1 : l.length ≤ c ∧ c ≤ maxLen) :
    Calls Try.prog 43 #[.slice a l.length c, .int .i64 p] w fun e w' => e = .returned (.bool (srv p l)) ∧ Keeps (fun _ => False) w w' := by
  obtain ⟨L, hL⟩ : ∃ L, l.length = L := ⟨_, rfl⟩
  have HS : Hid (SegA Win.vs 3 w a l ∧ l.length = L) := ⟨h1, hL⟩
  rw [hL] at hl1 ⊢
  have hc1 : (L : Int) ≤ c := by omega
  have hc3 : (c : Int) ≤ 9223372036854775807 := by unfold maxLen at hl1; omega
  clear h1 hL hl1
  go_enter Try.func43, Try.ntmps43
  go_wp2
  go_loopw [9] (fun i wr => ∃ j : Nat, j ≤ L ∧ i = .int .i64 j ∧ srv p (l.take j) = false ∧ Keeps (fun _ => False) w wr) (fun i _ => L - (intOf i).toNat)
  case atStart => exact ⟨0, by omega, rfl, rfl, Keeps.refl _ _⟩
  case round =>
    obtain ⟨j, hj, rfl, hall, hK⟩ := hrel
    by_cases hlt : j < L
    · obtain ⟨y, hy⟩ : ∃ y, l[j]? = some y := ⟨_, List.getElem?_eq_getElem (by have := HS.out.2; omega)⟩
      obtain ⟨g1, o1, rfl, hg1⟩ := (HS.out.1.kept hK fun _ _ _ e => e).at hy
      have y0 := hg1 0 _ rfl
      rw [Nat.add_zero] at y0
      have y1 := hg1 1 _ rfl
      have y2 := hg1 2 _ rfl
      have HK : Hid (Keeps (fun _ => False) w wr ∧ srv p (l.take j) = false ∧ l[j]? = some y) := ⟨hK, hall, hy⟩
      clear hy hg1 hK hall
      by_cases hp : y.p = p
      · have hp' : (y.p == p) = true := by simp [hp]
        go_wp2
        go_ret
        rw [srv_true HK.out.2.2 hp]
        exact ⟨rfl, HK.out.1.alloc _⟩
      · have hp' : (y.p == p) = false := by simp [hp]
        go_wp2
        go_roundw
        case rel => exact ⟨j + 1, by omega, by go_num, srv_take HK.out.2.2 HK.out.2.1 hp, HK.out.1.alloc _⟩
        case measure => simp [intOf]; omega
    · obtain rfl : j = L := by omega
      have HK : Hid (Keeps (fun _ => False) w wr ∧ srv p (l.take j) = false) := ⟨hK, hall⟩
      clear hK hall
      go_wp2
      go_ret
      have := HK.out.2
      rw [List.take_of_length_le (by rw [HS.out.2]; exact Nat.le_refl _)] at this
      rw [this]
      exact ⟨rfl, HK.out.1⟩

/-- What Core tells. -/
def CoR (x : Cfg) (p : Int) (r e : Int) : Prop :=
  (¬ (0 ≤ p ∧ p < x.ps.length) ∧ r = 0 ∧ e = 142) ∨ ((0 ≤ p ∧ p < x.ps.length) ∧ e = 0 ∧ ((r = -1 ∧ ∀ (i : Nat) (Y : Core), x.cs[i]? = some Y → srv p Y.ws = false) ∨
    ∃ (k : Nat) (X : Core), r = k ∧ x.cs[k]? = some X ∧ srv p X.ws = true ∧ ∀ (i : Nat) (Y : Core), i < k → x.cs[i]? = some Y → srv p Y.ws = false))
def CoP (w : World) (x : Cfg) (p : Int) (e : Ending) (w' : World) : Prop := ∃ r er, e = .returned (.tuple #[.int .i64 r, .int .i64 er]) ∧ CoR x p r er ∧ Keeps (fun _ => False) w w'
theorem CoR.unique {x : Cfg} {p r r' e e' : Int} (h : CoR x p r e) (h' : CoR x p r' e') : r = r' ∧ e = e' := by
  rcases h with ⟨h1, rfl, rfl⟩ | ⟨h1, rfl, h2⟩ <;> rcases h' with ⟨h3, rfl, rfl⟩ | ⟨h3, rfl, h4⟩
  · exact ⟨rfl, rfl⟩
  · exact (h1 h3).elim
  · exact (h3 h1).elim
  · refine ⟨?_, rfl⟩
    rcases h2 with ⟨rfl, h5⟩ | ⟨k, X, rfl, h5, h6, h7⟩ <;> rcases h4 with ⟨rfl, g5⟩ | ⟨k', X', rfl, g5, g6, g7⟩
    · rfl
    · rw [h5 k' X' g5] at g6; cases g6
    · rw [g5 k X h5] at h6; cases h6
    · by_cases hlt : k < k'
      · rw [g7 k X hlt h5] at h6; cases h6
      · by_cases hgt : k' < k
        · rw [h7 k' X' hgt g5] at g6; cases g6
        · have : k = k' := by omega
          rw [this]

set_option maxHeartbeats 1000000 in
theorem core_any (x : Cfg) (p : Int) (w : World) (N : Nat) (hi : x.In w N) (hN : N ≤ w.heap.size) :
    Calls Try.prog 21 #[x.v, .int .i64 p] w (CoP w x p) := by
  obtain ⟨f, mj, kn, rm, ca, cc, cs, pa, pc, ps, qa, qc, qs⟩ := x
  have HO := One.mk' hi hN
  obtain ⟨W, hW⟩ : ∃ W, W = Cfg.laid w ⟨f, mj, kn, rm, ca, cc, cs, pa, pc, ps, qa, qc, qs⟩ := ⟨_, rfl⟩
  obtain ⟨C, hC⟩ : ∃ C, C = w.heap.size := ⟨_, rfl⟩
  rw [← hW, ← hC] at HO
  have HO : Hid (One w ⟨f, mj, kn, rm, ca, cc, cs, pa, pc, ps, qa, qc, qs⟩ C N W) := HO
  have hcc : (cs.length : Int) ≤ cc ∧ (cc : Int) ≤ 9223372036854775807 := by have := hi.clen; unfold maxLen at this; dsimp only at this; omega
  have HC := isPartition_any ⟨f, mj, kn, rm, ca, cc, cs, pa, pc, ps, qa, qc, qs⟩ p W
  have HC : Hid (Calls _ _ _ _ _) := HC
  simp only [Cfg.v, Cfg.laid] at hW ⊢
  clear hi hN
  go_enter Try.func21, Try.ntmps21
  go_wp2_with fail
  rw [← hW, ← hC]
  clear hW hC
  refine HC.out.mono ?_
  rintro e w1 ⟨rfl, hK⟩
  have HO1 : Hid (One w ⟨f, mj, kn, rm, ca, cc, cs, pa, pc, ps, qa, qc, qs⟩ C N w1) := HO.out.kept hK
  clear hK HC HO
  by_cases hp : 0 ≤ p ∧ p < ps.length
  · have hpt : (decide (0 ≤ p) && decide (p < (ps.length : Int))) = true := by simp; exact hp
    dsimp only
    rw [hpt]
    have HP : Hid (0 ≤ p ∧ p < ps.length) := hp
    have c4 : w1.cell? ⟨C, 4, none⟩ = some (.slice ca cs.length cc) := HO1.out.cells.2.2.2.2.1
    clear hp hpt
    go_wp2
    go_loopw [15] (fun i wr => ∃ j : Nat, j ≤ cs.length ∧ i = .int .i64 j ∧ (∀ (i : Nat) (Y : Core), i < j → cs[i]? = some Y → srv p Y.ws = false) ∧ One w ⟨f, mj, kn, rm, ca, cc, cs, pa, pc, ps, qa, qc, qs⟩ C N wr) (fun i _ => cs.length - (intOf i).toNat)
    case atStart => exact ⟨0, by omega, rfl, fun i Y h => absurd h (Nat.not_lt_zero _), HO1.out⟩
    case round =>
      obtain ⟨j, hj, rfl, hall, hO⟩ := hrel
      clear c4 HO1
      by_cases hlt : j < cs.length
      · obtain ⟨X, hX⟩ : ∃ X, cs[j]? = some X := ⟨_, List.getElem?_eq_getElem hlt⟩
        obtain ⟨g, o, e, hc⟩ := hO.cin.core hX
        dsimp only at e
        subst e
        have HX := hO.cin.cin X (List.mem_of_getElem? hX)
        have HC : Hid (Calls Try.prog 43 #[X.v, .int .i64 p] wr fun e w' => e = .returned (.bool (srv p X.ws)) ∧ Keeps (fun _ => False) wr w') := serves_any X.a X.c X.ws p wr HX.seg HX.len
        have HK : Hid (One w ⟨f, mj, kn, rm, some ⟨g, o, none⟩, cc, cs, pa, pc, ps, qa, qc, qs⟩ C N wr ∧ cs[j]? = some X ∧ (∀ (i : Nat) (Y : Core), i < j → cs[i]? = some Y → srv p Y.ws = false)) := ⟨hO, hX, hall⟩
        have hlt' : (j : Int) < cs.length := by omega
        clear hO hX hall HX
        go_wp2_with fail
        refine HC.out.mono ?_
        rintro e w2 ⟨rfl, hK⟩
        have HO2 : Hid (One w ⟨f, mj, kn, rm, some ⟨g, o, none⟩, cc, cs, pa, pc, ps, qa, qc, qs⟩ C N w2) := HK.out.1.kept hK
        clear hK hc HC
        obtain ⟨b, hb⟩ : ∃ b, srv p X.ws = b := ⟨_, rfl⟩
        rw [hb]
        have HB : Hid (srv p X.ws = b) := hb
        clear hb
        cases b with
        | true =>
          go_wp2
          go_ret2
          exact ⟨j, 0, rfl, .inr ⟨HP.out, rfl, .inr ⟨j, X, rfl, HK.out.2.1, HB.out, HK.out.2.2⟩⟩, HO2.out.keeps⟩
        | false =>
          go_wp2
          go_roundw
          case rel =>
            refine ⟨j + 1, by omega, by go_num, fun i Y hi hY => ?_, HO2.out⟩
            by_cases e : i = j
            · subst e
              have := HK.out.2.1
              rw [hY] at this
              cases this
              exact HB.out
            · exact HK.out.2.2 i Y (by omega) hY
          case measure => simp [intOf]; omega
      · have hlt' : ¬ (j : Int) < cs.length := by omega
        have HK : Hid (One w ⟨f, mj, kn, rm, ca, cc, cs, pa, pc, ps, qa, qc, qs⟩ C N wr ∧ (∀ (i : Nat) (Y : Core), i < j → cs[i]? = some Y → srv p Y.ws = false) ∧ j = cs.length) := ⟨hO, hall, by omega⟩
        clear hO hall
        go_wp2
        go_ret2
        refine ⟨-1, 0, rfl, .inr ⟨HP.out, rfl, .inl ⟨rfl, fun i Y hY => HK.out.2.1 i Y ?_ hY⟩⟩, HK.out.1.keeps⟩
        have := (List.getElem?_eq_some_iff.1 hY).1
        have h2 := HK.out.2.2
        dsimp only at this
        omega
  · have hpf : (decide (0 ≤ p) && decide (p < (ps.length : Int))) = false := by rw [Bool.eq_false_iff]; intro h; simp at h; exact hp h
    dsimp only
    rw [hpf]
    have HP : Hid (¬ (0 ≤ p ∧ p < ps.length)) := hp
    clear hp hpf
    go_wp2
    go_ret2
    exact ⟨0, 142, rfl, .inl ⟨HP.out, rfl, rfl⟩, HO1.out.keeps⟩
end Go.Proofs.Ytnkfdmlpjgmckaa
