import Derived.Test.YtfbapgcopidbpaaGreatRa
namespace Go.Proofs.YtfbapgcopidbpaaGreat
open Go.RowKit
set_option linter.unusedVariables false
set_option maxRecDepth 6000

theorem portsOf_len_any (b : Bool) (n : Int) (p q : Nat) (l : List Prt) (j : Nat) (hj : j ≤ l.length) : (portsOf b n p l j).length = (portsOf b n q l j).length := by
  induction j with
  | zero => rfl
  | succ j ih =>
    have hy : l[j]? = some l[j] := List.getElem?_eq_getElem (by omega)
    rw [portsOf_succ hy, portsOf_succ hy, List.length_append, List.length_append, ih (by omega)]
    split <;> rfl

set_option maxHeartbeats 4000000 in
theorem rends_any (X : Par) (n : Int) (b : Bool) (p : Nat) (w : World) (N : Nat) (hi : X.In w N) (hN : N ≤ w.heap.size) (h8 : X.ps.length ≤ 8) :
    Calls Tryz.prog 39 #[X.v, .int .i64 n, .bool b] w fun e w' => e = .returned (.int .i64 (portsOf b n p X.ps X.ps.length).length) ∧ Keeps (fun _ => False) w w' := by
  obtain ⟨nm, en, ac, re, inp, ou, ra, rc, rs, pa, pc, ps⟩ := X
  obtain ⟨W, hW⟩ : ∃ W, W = Par.laid w ⟨nm, en, ac, re, inp, ou, ra, rc, rs, pa, pc, ps⟩ := ⟨_, rfl⟩
  obtain ⟨C, hC⟩ : ∃ C, C = w.heap.size := ⟨_, rfl⟩
  have HO : Hid (OneP w ⟨nm, en, ac, re, inp, ou, ra, rc, rs, pa, pc, ps⟩ C N W) := by rw [hW, hC]; exact OneP.mk' hi hN
  obtain ⟨Q, hQ⟩ : ∃ Q, ps.length = Q := ⟨_, rfl⟩
  have HL : Hid (ps.length = Q) := hQ
  have hpc : (Q : Int) ≤ pc ∧ (pc : Int) ≤ 9223372036854775807 := by have := hi.plen; unfold maxLen at this; dsimp only at this; omega
  have hq8 : Q ≤ 8 := by rw [← hQ]; exact h8
  simp only [Par.v, Par.laid, hQ] at hW ⊢
  have c7 : W.cell? ⟨C, 7, none⟩ = some (.slice pa Q pc) := by have := HO.out.cfg.cell (i := 7) rfl; rw [← hQ]; exact this
  clear hi hN hQ h8
  go_enter Tryz.func39, Tryz.ntmps39
  go_upto_region 1 with fail
  rw [← hW, ← hC]
  clear hW hC
  go_wp2
  go_loopw [7, 12] (fun u i wr => ∃ j : Nat, j ≤ Q ∧ i = .int .i64 j ∧ u = .int .i64 (portsOf b n p ps j).length ∧ OneP w ⟨nm, en, ac, re, inp, ou, ra, rc, rs, pa, pc, ps⟩ C N wr) (fun _ i _ => Q - (intOf i).toNat)
  case atStart => exact ⟨0, by omega, rfl, rfl, HO.out⟩
  case round =>
    obtain ⟨j, hj, rfl, rfl, hO⟩ := hrel
    clear c7
    by_cases hlt : j < Q
    · obtain ⟨y, hy⟩ : ∃ y, ps[j]? = some y := ⟨_, List.getElem?_eq_getElem (by have := HL.out; omega)⟩
      have c7 : wr.cell? ⟨C, 7, none⟩ = some (.slice pa Q pc) := by have := hO.cfg.cell (i := 7) rfl; rw [← HL.out]; exact this
      obtain ⟨g1, o1, e, hg1⟩ := hO.cin.pseg.at hy
      dsimp only at e
      subst e
      have y0 := hg1 0 _ rfl
      rw [Nat.add_zero] at y0
      have y1 := hg1 1 _ rfl
      have HK : Hid (OneP w ⟨nm, en, ac, re, inp, ou, ra, rc, rs, some ⟨g1, o1, none⟩, pc, ps⟩ C N wr ∧ ps[j]? = some y) := ⟨hO, hy⟩
      have hln := portsOf_len b n p ps j
      obtain ⟨M, hM⟩ : ∃ M, (portsOf b n p ps j).length = M := ⟨_, rfl⟩
      have HM : Hid ((portsOf b n p ps j).length = M) := hM
      rw [hM] at hln ⊢
      have w1 : IntKind.i64.wrap ((M : Int) + 1) = (M : Int) + 1 := by rw [IntKind.wrap_i64]; omega
      clear hO hy hg1 hM hln
      obtain ⟨ch, sr⟩ := y
      dsimp only at y0 y1
      by_cases hc : ch = n
      · subst hc
        by_cases hb : sr = b
        · subst hb
          have HP := portsOf_yes (p := p) HK.out.2 rfl rfl
          have HP : Hid (_ = _) := HP
          cases sr
          all_goals
            go_wp2
            go_roundw
            case rel => exact ⟨j + 1, by omega, by go_num, by rw [HP.out, List.length_append, HM.out]; rfl, HK.out.1⟩
            case measure => simp [intOf]; omega
        · have HP : Hid (_ = _) := portsOf_no (p := p) (n := ch) (b := b) HK.out.2 (fun h => hb h.2)
          cases sr <;> cases b
          all_goals first | (exact (hb rfl).elim) | skip
          all_goals
            clear hb
            go_wp2
            go_roundw
            case rel => exact ⟨j + 1, by omega, by go_num, by rw [HP.out, HM.out], HK.out.1⟩
            case measure => simp [intOf]; omega
      · have HP : Hid (_ = _) := portsOf_no (p := p) (n := n) (b := b) HK.out.2 (fun h => hc h.1)
        have e1 : (ch == n) = false := by simp [hc]
        clear hc
        go_wp2
        go_roundw
        case rel => exact ⟨j + 1, by omega, by go_num, by rw [HP.out, HM.out], HK.out.1⟩
        case measure => simp [intOf]; omega
    · obtain rfl : Q = j := by omega
      have HK : Hid (OneP w ⟨nm, en, ac, re, inp, ou, ra, rc, rs, pa, pc, ps⟩ C N wr) := hO
      clear hO
      go_wp2
      go_ret
      exact ⟨rfl, HK.out.keeps⟩
end Go.Proofs.YtfbapgcopidbpaaGreat
