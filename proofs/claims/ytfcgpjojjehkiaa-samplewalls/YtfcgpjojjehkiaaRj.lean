import Derived.Test.YtfcgpjojjehkiaaRi
namespace Go.Proofs.Ytfcgpjojjehkiaa
open Go.RowKit
set_option linter.unusedVariables false
set_option linter.unusedSimpArgs false

abbrev bxq (n q : Int) : Bx := ⟨q, 3, n⟩
/-- Port i has no word in common with what stands ahead of it. -/
def apOk (p n : Int) (ports : List Int) (i : Nat) : Bool := !((bxq n (ports.getD i 0)).meets ⟨p, 2, n⟩ || (ports.take i).any fun q => (bxq n (ports.getD i 0)).meets (bxq n q))
def apB (p n : Int) (ports : List Int) : Bool := (List.range ports.length).all (apOk p n ports)

theorem meets_iff {b c : Bx} : b.meets c = (decide (b.p < c.p + ((c.h : Int) + c.n)) && decide (c.p < b.p + ((b.h : Int) + b.n))) := rfl

set_option maxRecDepth 20000 in
set_option maxHeartbeats 2000000 in
theorem apart_any (p n : Int) (a : Option Addr) (c : Nat) (ports : List Int) (w : World) (hs : SegI w a ports) (hl : ports.length ≤ 4) (hp : 0 ≤ p ∧ p ≤ 16384) (hn : 1 ≤ n ∧ n ≤ 16) (hq : ∀ q ∈ ports, 0 ≤ q ∧ q ≤ 16384) :
    Calls Try.prog 52 #[.int .i64 p, .int .i64 n, .slice a ports.length c] w fun e w' => e = .returned (.bool (apB p n ports)) ∧ Keeps (fun _ => False) w w' := by
  obtain ⟨N, hN⟩ : ∃ N, N = ports.length := ⟨_, rfl⟩
  have HP : Hid (SegI w a ports ∧ N = ports.length ∧ ∀ q ∈ ports, 0 ≤ q ∧ q ≤ 16384) := ⟨hs, hN, hq⟩
  rw [← hN] at hl ⊢
  have b1 : (N : Int) ≤ 4 := by omega
  obtain ⟨p1, p2⟩ := hp
  obtain ⟨n1, n2⟩ := hn
  clear hs hN hq hl
  go_enter Try.func52, Try.ntmps52
  go_wp2
  go_loopw [11] (fun i wr => ∃ j : Nat, j ≤ N ∧ i = .int .i64 j ∧ (∀ i, i < j → apOk p n ports i = true) ∧ Keeps (fun _ => False) w wr) (fun i _ => N - (intOf i).toNat)
  case atStart => exact ⟨0, by omega, rfl, (fun i hi => by omega), Keeps.refl _ _⟩
  case round =>
    obtain ⟨j, hj, rfl, hok, hk⟩ := hrel
    by_cases hlt : j < N
    · have hlt' : (j : Int) < N := by omega
      have hjp : j < ports.length := by have := HP.out.2.1; omega
      rcases HP.out.1.kept hk (fun _ _ e => e) with h0 | ⟨gp, op, rfl, hcp⟩
      · rw [h0] at hjp; simp at hjp
      have cq := hcp j hjp
      obtain ⟨q, hqq⟩ : ∃ q, q = ports[j]'hjp := ⟨_, rfl⟩
      have hqb := HP.out.2.2 _ (List.getElem_mem hjp)
      rw [← hqq] at cq hqb
      have eq9 : ports.getD j 0 = q := by rw [hqq, List.getD_eq_getElem?_getD, List.getElem?_eq_getElem hjp]; rfl
      have HA : Hid (apOk p n ports j = !((bxq n q).meets ⟨p, 2, n⟩ || (ports.take j).any fun r => (bxq n q).meets (bxq n r))) := by
        show apOk p n ports j = _
        unfold apOk; rw [eq9]
      have HBad : Hid (apOk p n ports j = false → apB p n ports = false) := fun h => by
        unfold apB
        rw [List.all_eq_false]
        exact ⟨j, by rw [List.mem_range]; exact hjp, by rw [h]; simp⟩
      have HK : Hid (Keeps (fun _ => False) w wr ∧ (∀ i, i < j → apOk p n ports i = true) ∧ ∀ i, (hi : i < ports.length) → wr.cell? ⟨gp, op + i, none⟩ = some (.int .i64 (ports[i]'hi))) := ⟨hk, hok, hcp⟩
      obtain ⟨q1, q2⟩ := hqb
      have e1 : p + 2 + n = p + (2 + n) := by omega
      have e2 : q + 3 + n = q + (3 + n) := by omega
      have HM1 : Hid ((bxq n q).meets ⟨p, 2, n⟩ = (decide (q < p + 2 + n) && decide (p < q + 3 + n))) := by show (decide (q < p + (2 + n)) && decide (p < q + (3 + n))) = _; rw [e1, e2]
      clear hj hok hk hjp hcp hqq eq9 e1 e2
      obtain ⟨wo, hwo⟩ : ∃ wo, wo = wr := ⟨_, rfl⟩
      subst hwo
      by_cases m1 : q < p + 2 + n
      · by_cases m2 : p < q + 3 + n
        · have HE : Hid (apB p n ports = false) := HBad.out (by rw [HA.out, HM1.out, decide_eq_true m1, decide_eq_true m2]; rfl)
          go_wp2
          go_ret
          exact ⟨ret_bool HE.out.symm, HK.out.1⟩
        · have HM2 : Hid ((bxq n q).meets ⟨p, 2, n⟩ = false) := by show (bxq n q).meets ⟨p, 2, n⟩ = false; rw [HM1.out, decide_eq_false m2]; simp
          go_wp2
          go_loopw [35] (fun i wx => ∃ k : Nat, k ≤ j ∧ i = .int .i64 k ∧ ((ports.take k).any fun r => (bxq n q).meets (bxq n r)) = false ∧ Keeps (fun _ => False) wo wx) (fun i _ => j - (intOf i).toNat)
          case atStart => exact ⟨0, by omega, rfl, by simp, Keeps.refl _ _⟩
          case round =>
            obtain ⟨k, hkj, rfl, hany, hk2⟩ := hrel
            by_cases hlk : k < j
            · have hlk' : (k : Int) < j := by omega
              have hlN : (k : Int) < N := by omega
              have hkp : k < ports.length := by have := HP.out.2.1; omega
              have cr := cell_kept (HK.out.2.2 k hkp) hk2 fun e => e
              have cq2 := cell_kept cq hk2 fun e => e
              obtain ⟨r, hrr⟩ : ∃ r, r = ports[k]'hkp := ⟨_, rfl⟩
              have hrb := HP.out.2.2 _ (List.getElem_mem hkp)
              rw [← hrr] at cr hrb
              obtain ⟨r1, r2⟩ := hrb
              have e1 : r + 3 + n = r + (3 + n) := by omega
              have e2 : q + 3 + n = q + (3 + n) := by omega
              have HM3 : Hid ((bxq n q).meets (bxq n r) = (decide (q < r + 3 + n) && decide (r < q + 3 + n))) := by show (decide (q < r + (3 + n)) && decide (r < q + (3 + n))) = _; rw [e1, e2]
              have hgk : ports[k]? = some r := by rw [hrr]; exact List.getElem?_eq_getElem hkp
              have HN : Hid ((bxq n q).meets (bxq n r) = false → ((ports.take (k + 1)).any fun r => (bxq n q).meets (bxq n r)) = false) := fun h => by
                rw [List.take_add_one, hgk, List.any_append, hany]
                simp [h]
              have HY : Hid ((bxq n q).meets (bxq n r) = true → apB p n ports = false) := fun h => HBad.out (by
                have : ((ports.take j).any fun r => (bxq n q).meets (bxq n r)) = true := List.any_eq_true.2 ⟨r, by
                  refine List.mem_of_getElem? (i := k) ?_
                  rw [List.getElem?_take, if_pos hlk]; exact hgk, h⟩
                rw [HA.out, this]; simp)
              have HK2 : Hid (Keeps (fun _ => False) wo wr) := hk2
              have hw1 : IntKind.i64.wrap (r + 3) = r + 3 := by rw [IntKind.wrap_i64]; omega
              have hw2 : IntKind.i64.wrap (r + 3 + n) = r + 3 + n := by rw [IntKind.wrap_i64]; omega
              have hw3 : IntKind.i64.wrap (q + 3) = q + 3 := by rw [IntKind.wrap_i64]; omega
              have hw4 : IntKind.i64.wrap (q + 3 + n) = q + 3 + n := by rw [IntKind.wrap_i64]; omega
              clear hkj hany hk2 hkp hrr hgk e1 e2 cq
              by_cases x1 : q < r + 3 + n
              · by_cases x2 : r < q + 3 + n
                · have HE : Hid (apB p n ports = false) := HY.out (by rw [HM3.out, decide_eq_true x1, decide_eq_true x2]; rfl)
                  go_wp2
                  go_quiet (fail)
                  go_wp2
                  go_ret
                  exact ⟨ret_bool HE.out.symm, (HK.out.1.trans HK2.out fun _ _ e => e).drewN _⟩
                · have HE : Hid (((ports.take (k + 1)).any fun r => (bxq n q).meets (bxq n r)) = false) := HN.out (by rw [HM3.out, decide_eq_false x2]; simp)
                  go_wp2
                  go_quiet (fail)
                  go_wp2
                  go_roundw
                  case rel => exact ⟨k + 1, by omega, by go_num, HE.out, HK2.out.drewN _⟩
                  case measure => simp [intOf]; omega
              · have HE : Hid (((ports.take (k + 1)).any fun r => (bxq n q).meets (bxq n r)) = false) := HN.out (by rw [HM3.out, decide_eq_false x1]; simp)
                have x1' : (q < r + 3 + n) = False := eq_false x1
                go_wp2
                refine wp_region_held_drew (S := (fun w' => w'.cell? ⟨gp, op + j, none⟩ = some (.int .i64 q) ∧ w'.cell? ⟨gp, op + k, none⟩ = some (.int .i64 r))) Try.mixd ⟨cq2, cr⟩ (fun hHeld => ?_)
                simp only [List.size_toArray, List.length_cons, List.length_nil, Nat.reduceAdd, Array.replicate_succ, Array.replicate_zero, List.push_toArray, List.append_toArray, List.nil_append, List.cons_append]
                refine wpAnyH_take (i := 0) (oi := { dst := some 38, op := Op.move (Operand.tmp 2), type := 33, pos := "ref.go:135", after := #[], guard := none }) (v := .slice (some ⟨gp, op, none⟩) N c) rfl (by kernel_rfl) (by kernel_rfl) (by kernel_rfl) (fun _ _ _ h => h) (Or.inl ⟨by kernel_rfl, by (intro w hSw; (try dsimp only at hSw); go_simp)⟩) hHeld ?_
                simp only [Act.put, List.setIfInBounds_toArray, List.set_cons_zero, List.set_cons_succ]
                refine wpAnyH_take (i := 1) (oi := { dst := some 39, op := Op.move (Operand.tmp 7), type := 3, pos := "ref.go:135", after := #[], guard := none }) (v := .int .i64 (j : Int)) rfl (by kernel_rfl) (by kernel_rfl) (by kernel_rfl) (fun _ _ _ h => h) (Or.inl ⟨by kernel_rfl, by (intro w hSw; (try dsimp only at hSw); go_simp)⟩) hHeld ?_
                simp only [Act.put, List.setIfInBounds_toArray, List.set_cons_zero, List.set_cons_succ]
                refine wpAnyH_take (i := 2) (oi := { dst := some 40, op := Op.indexAddr 33 (Operand.tmp 38) (Operand.tmp 39), type := 0, pos := "ref.go:135", after := #[{ on := 0, ground := Ground.data }, { on := 1, ground := Ground.data }], guard := none }) (v := .pointer (some ⟨gp, op + j, none⟩)) rfl (by kernel_rfl) (by kernel_rfl) (by kernel_rfl) (fun _ _ _ h => h) (Or.inl ⟨by kernel_rfl, by (intro w hSw; (try dsimp only at hSw); go_simp)⟩) hHeld ?_
                simp only [Act.put, List.setIfInBounds_toArray, List.set_cons_zero, List.set_cons_succ]
                refine wpAnyH_take (i := 3) (oi := { dst := some 41, op := Op.load 3 (Operand.tmp 40), type := 3, pos := "ref.go:135", after := #[{ on := 2, ground := Ground.data }], guard := none }) (v := .int .i64 q) rfl (by kernel_rfl) (by kernel_rfl) (by kernel_rfl) (fun _ _ _ h => h) (Or.inl ⟨by kernel_rfl, by (intro w hSw; (try dsimp only at hSw); go_simp)⟩) hHeld ?_
                simp only [Act.put, List.setIfInBounds_toArray, List.set_cons_zero, List.set_cons_succ]
                refine wpAnyH_take (i := 4) (oi := { dst := some 42, op := Op.move (Operand.tmp 2), type := 33, pos := "ref.go:135", after := #[], guard := none }) (v := .slice (some ⟨gp, op, none⟩) N c) rfl (by kernel_rfl) (by kernel_rfl) (by kernel_rfl) (fun _ _ _ h => h) (Or.inl ⟨by kernel_rfl, by (intro w hSw; (try dsimp only at hSw); go_simp)⟩) hHeld ?_
                simp only [Act.put, List.setIfInBounds_toArray, List.set_cons_zero, List.set_cons_succ]
                refine wpAnyH_take (i := 5) (oi := { dst := some 43, op := Op.move (Operand.tmp 8), type := 3, pos := "ref.go:135", after := #[], guard := none }) (v := .int .i64 (k : Int)) rfl (by kernel_rfl) (by kernel_rfl) (by kernel_rfl) (fun _ _ _ h => h) (Or.inl ⟨by kernel_rfl, by (intro w hSw; (try dsimp only at hSw); go_simp)⟩) hHeld ?_
                simp only [Act.put, List.setIfInBounds_toArray, List.set_cons_zero, List.set_cons_succ]
                refine wpAnyH_take (i := 6) (oi := { dst := some 44, op := Op.indexAddr 33 (Operand.tmp 42) (Operand.tmp 43), type := 0, pos := "ref.go:135", after := #[{ on := 4, ground := Ground.data }, { on := 5, ground := Ground.data }], guard := none }) (v := .pointer (some ⟨gp, op + k, none⟩)) rfl (by kernel_rfl) (by kernel_rfl) (by kernel_rfl) (fun _ _ _ h => h) (Or.inl ⟨by kernel_rfl, by (intro w hSw; (try dsimp only at hSw); go_simp)⟩) hHeld ?_
                simp only [Act.put, List.setIfInBounds_toArray, List.set_cons_zero, List.set_cons_succ]
                refine wpAnyH_take (i := 7) (oi := { dst := some 45, op := Op.load 3 (Operand.tmp 44), type := 3, pos := "ref.go:135", after := #[{ on := 6, ground := Ground.data }], guard := none }) (v := .int .i64 r) rfl (by kernel_rfl) (by kernel_rfl) (by kernel_rfl) (fun _ _ _ h => h) (Or.inl ⟨by kernel_rfl, by (intro w hSw; (try dsimp only at hSw); go_simp)⟩) hHeld ?_
                simp only [Act.put, List.setIfInBounds_toArray, List.set_cons_zero, List.set_cons_succ]
                refine wpAnyH_take (i := 8) (oi := { dst := some 46, op := Op.binOp BinOp.add 3 (Operand.tmp 45) (Operand.const (Value.int IntKind.i64 3)) 3, type := 3, pos := "ref.go:135", after := #[{ on := 7, ground := Ground.data }], guard := none }) (v := .int .i64 (r + 3)) rfl (by kernel_rfl) (by kernel_rfl) (by kernel_rfl) (fun _ _ _ h => h) (Or.inl ⟨by kernel_rfl, by (intro w hSw; (try dsimp only at hSw); go_simp)⟩) hHeld ?_
                simp only [Act.put, List.setIfInBounds_toArray, List.set_cons_zero, List.set_cons_succ]
                refine wpAnyH_take (i := 9) (oi := { dst := some 47, op := Op.move (Operand.tmp 1), type := 3, pos := "ref.go:135", after := #[], guard := none }) (v := .int .i64 n) rfl (by kernel_rfl) (by kernel_rfl) (by kernel_rfl) (fun _ _ _ h => h) (Or.inl ⟨by kernel_rfl, by (intro w hSw; (try dsimp only at hSw); go_simp)⟩) hHeld ?_
                simp only [Act.put, List.setIfInBounds_toArray, List.set_cons_zero, List.set_cons_succ]
                refine wpAnyH_take (i := 10) (oi := { dst := some 48, op := Op.binOp BinOp.add 3 (Operand.tmp 46) (Operand.tmp 47) 3, type := 3, pos := "ref.go:135", after := #[{ on := 8, ground := Ground.data }, { on := 9, ground := Ground.data }], guard := none }) (v := .int .i64 (r + 3 + n)) rfl (by kernel_rfl) (by kernel_rfl) (by kernel_rfl) (fun _ _ _ h => h) (Or.inl ⟨by kernel_rfl, by (intro w hSw; (try dsimp only at hSw); go_simp)⟩) hHeld ?_
                simp only [Act.put, List.setIfInBounds_toArray, List.set_cons_zero, List.set_cons_succ]
                refine wpAnyH_take (i := 11) (oi := { dst := some 49, op := Op.binOp BinOp.lss 3 (Operand.tmp 41) (Operand.tmp 48) 3, type := 4, pos := "ref.go:135", after := #[{ on := 3, ground := Ground.data }, { on := 10, ground := Ground.data }], guard := none }) (v := .bool false) rfl (by kernel_rfl) (by kernel_rfl) (by kernel_rfl) (fun _ _ _ h => h) (Or.inl ⟨by kernel_rfl, by (intro w hSw; (try dsimp only at hSw); go_simp)⟩) hHeld ?_
                simp only [Act.put, List.setIfInBounds_toArray, List.set_cons_zero, List.set_cons_succ]
                refine wpAnyH_take (i := 12) (oi := { dst := some 50, op := Op.move (Operand.tmp 49), type := 4, pos := "ref.go:135", after := #[{ on := 11, ground := Ground.data }], guard := none }) (v := .bool false) rfl (by kernel_rfl) (by kernel_rfl) (by kernel_rfl) (fun _ _ _ h => h) (Or.inl ⟨by kernel_rfl, by (intro w hSw; (try dsimp only at hSw); go_simp)⟩) hHeld ?_
                simp only [Act.put, List.setIfInBounds_toArray, List.set_cons_zero, List.set_cons_succ]
                refine wpAnyH_take (i := 13) (oi := { dst := some 51, op := Op.move (Operand.tmp 2), type := 33, pos := "ref.go:135", after := #[{ on := 12, ground := Ground.guard }], guard := some (12, true) }) (v := undef) rfl (by kernel_rfl) (by kernel_rfl) (by kernel_rfl) (fun _ _ _ h => h) (Or.inr ⟨by kernel_rfl, rfl⟩) hHeld ?_
                simp only [Act.put, List.setIfInBounds_toArray, List.set_cons_zero, List.set_cons_succ]
                refine wpAnyH_take (i := 14) (oi := { dst := some 52, op := Op.move (Operand.tmp 8), type := 3, pos := "ref.go:135", after := #[{ on := 12, ground := Ground.guard }], guard := some (12, true) }) (v := undef) rfl (by kernel_rfl) (by kernel_rfl) (by kernel_rfl) (fun _ _ _ h => h) (Or.inr ⟨by kernel_rfl, rfl⟩) hHeld ?_
                simp only [Act.put, List.setIfInBounds_toArray, List.set_cons_zero, List.set_cons_succ]
                refine wpAnyH_take (i := 15) (oi := { dst := some 53, op := Op.indexAddr 33 (Operand.tmp 51) (Operand.tmp 52), type := 0, pos := "ref.go:135", after := #[{ on := 13, ground := Ground.data }, { on := 14, ground := Ground.data }, { on := 12, ground := Ground.guard }], guard := some (12, true) }) (v := undef) rfl (by kernel_rfl) (by kernel_rfl) (by kernel_rfl) (fun _ _ _ h => h) (Or.inr ⟨by kernel_rfl, rfl⟩) hHeld ?_
                simp only [Act.put, List.setIfInBounds_toArray, List.set_cons_zero, List.set_cons_succ]
                refine wpAnyH_take (i := 16) (oi := { dst := some 54, op := Op.load 3 (Operand.tmp 53), type := 3, pos := "ref.go:135", after := #[{ on := 15, ground := Ground.data }, { on := 12, ground := Ground.guard }], guard := some (12, true) }) (v := undef) rfl (by kernel_rfl) (by kernel_rfl) (by kernel_rfl) (fun _ _ _ h => h) (Or.inr ⟨by kernel_rfl, rfl⟩) hHeld ?_
                simp only [Act.put, List.setIfInBounds_toArray, List.set_cons_zero, List.set_cons_succ]
                refine wpAnyH_take (i := 17) (oi := { dst := some 55, op := Op.move (Operand.tmp 2), type := 33, pos := "ref.go:135", after := #[{ on := 12, ground := Ground.guard }], guard := some (12, true) }) (v := undef) rfl (by kernel_rfl) (by kernel_rfl) (by kernel_rfl) (fun _ _ _ h => h) (Or.inr ⟨by kernel_rfl, rfl⟩) hHeld ?_
                simp only [Act.put, List.setIfInBounds_toArray, List.set_cons_zero, List.set_cons_succ]
                refine wpAnyH_take (i := 18) (oi := { dst := some 56, op := Op.move (Operand.tmp 7), type := 3, pos := "ref.go:135", after := #[{ on := 12, ground := Ground.guard }], guard := some (12, true) }) (v := undef) rfl (by kernel_rfl) (by kernel_rfl) (by kernel_rfl) (fun _ _ _ h => h) (Or.inr ⟨by kernel_rfl, rfl⟩) hHeld ?_
                simp only [Act.put, List.setIfInBounds_toArray, List.set_cons_zero, List.set_cons_succ]
                refine wpAnyH_take (i := 19) (oi := { dst := some 57, op := Op.indexAddr 33 (Operand.tmp 55) (Operand.tmp 56), type := 0, pos := "ref.go:135", after := #[{ on := 17, ground := Ground.data }, { on := 18, ground := Ground.data }, { on := 12, ground := Ground.guard }], guard := some (12, true) }) (v := undef) rfl (by kernel_rfl) (by kernel_rfl) (by kernel_rfl) (fun _ _ _ h => h) (Or.inr ⟨by kernel_rfl, rfl⟩) hHeld ?_
                simp only [Act.put, List.setIfInBounds_toArray, List.set_cons_zero, List.set_cons_succ]
                refine wpAnyH_take (i := 20) (oi := { dst := some 58, op := Op.load 3 (Operand.tmp 57), type := 3, pos := "ref.go:135", after := #[{ on := 19, ground := Ground.data }, { on := 12, ground := Ground.guard }], guard := some (12, true) }) (v := undef) rfl (by kernel_rfl) (by kernel_rfl) (by kernel_rfl) (fun _ _ _ h => h) (Or.inr ⟨by kernel_rfl, rfl⟩) hHeld ?_
                simp only [Act.put, List.setIfInBounds_toArray, List.set_cons_zero, List.set_cons_succ]
                refine wpAnyH_take (i := 21) (oi := { dst := some 59, op := Op.binOp BinOp.add 3 (Operand.tmp 58) (Operand.const (Value.int IntKind.i64 3)) 3, type := 3, pos := "ref.go:135", after := #[{ on := 20, ground := Ground.data }, { on := 12, ground := Ground.guard }], guard := some (12, true) }) (v := undef) rfl (by kernel_rfl) (by kernel_rfl) (by kernel_rfl) (fun _ _ _ h => h) (Or.inr ⟨by kernel_rfl, rfl⟩) hHeld ?_
                simp only [Act.put, List.setIfInBounds_toArray, List.set_cons_zero, List.set_cons_succ]
                refine wpAnyH_take (i := 22) (oi := { dst := some 60, op := Op.move (Operand.tmp 1), type := 3, pos := "ref.go:135", after := #[{ on := 12, ground := Ground.guard }], guard := some (12, true) }) (v := undef) rfl (by kernel_rfl) (by kernel_rfl) (by kernel_rfl) (fun _ _ _ h => h) (Or.inr ⟨by kernel_rfl, rfl⟩) hHeld ?_
                simp only [Act.put, List.setIfInBounds_toArray, List.set_cons_zero, List.set_cons_succ]
                refine wpAnyH_take (i := 23) (oi := { dst := some 61, op := Op.binOp BinOp.add 3 (Operand.tmp 59) (Operand.tmp 60) 3, type := 3, pos := "ref.go:135", after := #[{ on := 21, ground := Ground.data }, { on := 22, ground := Ground.data }, { on := 12, ground := Ground.guard }], guard := some (12, true) }) (v := undef) rfl (by kernel_rfl) (by kernel_rfl) (by kernel_rfl) (fun _ _ _ h => h) (Or.inr ⟨by kernel_rfl, rfl⟩) hHeld ?_
                simp only [Act.put, List.setIfInBounds_toArray, List.set_cons_zero, List.set_cons_succ]
                refine wpAnyH_take (i := 24) (oi := { dst := some 62, op := Op.binOp BinOp.lss 3 (Operand.tmp 54) (Operand.tmp 61) 3, type := 4, pos := "ref.go:135", after := #[{ on := 16, ground := Ground.data }, { on := 23, ground := Ground.data }, { on := 12, ground := Ground.guard }], guard := some (12, true) }) (v := undef) rfl (by kernel_rfl) (by kernel_rfl) (by kernel_rfl) (fun _ _ _ h => h) (Or.inr ⟨by kernel_rfl, rfl⟩) hHeld ?_
                simp only [Act.put, List.setIfInBounds_toArray, List.set_cons_zero, List.set_cons_succ]
                refine wpAnyH_take (i := 25) (oi := { dst := some 63, op := Op.pick (Operand.tmp 50) (Operand.tmp 62) (Operand.const (Value.bool false)), type := 4, pos := "ref.go:135", after := #[{ on := 12, ground := Ground.data }, { on := 24, ground := Ground.data }], guard := none }) (v := .bool false) rfl (by kernel_rfl) (by kernel_rfl) (by kernel_rfl) (fun _ _ _ h => h) (Or.inl ⟨by kernel_rfl, by (intro w hSw; (try dsimp only at hSw); go_simp)⟩) hHeld ?_
                simp only [Act.put, List.setIfInBounds_toArray, List.set_cons_zero, List.set_cons_succ]
                refine wpAnyH_done (by kernel_rfl) ?_ _
                clear hHeld
                go_wp2
                go_roundw
                case rel => exact ⟨k + 1, by omega, by go_num, HE.out, HK2.out.drew⟩
                case measure => simp [intOf]; omega
            · obtain rfl : k = j := by omega
              have HF : Hid (apOk p n ports k = true ∧ Keeps (fun _ => False) w wr) := ⟨by rw [HA.out, HM2.out, hany]; rfl, HK.out.1.trans hk2 fun _ _ e => e⟩
              clear hkj hany hk2 hlk
              go_wp2
              go_roundw
              case rel =>
                refine ⟨k + 1, by omega, by go_num, (fun i hi => ?_), HF.out.2⟩
                by_cases e : i = k
                · rw [e]; exact HF.out.1
                · exact HK.out.2.1 i (by omega)
              case measure => simp [intOf]; omega
      · have HM2 : Hid ((bxq n q).meets ⟨p, 2, n⟩ = false) := by show (bxq n q).meets ⟨p, 2, n⟩ = false; rw [HM1.out, decide_eq_false m1]; simp
        go_wp2
        go_loopw [35] (fun i wx => ∃ k : Nat, k ≤ j ∧ i = .int .i64 k ∧ ((ports.take k).any fun r => (bxq n q).meets (bxq n r)) = false ∧ Keeps (fun _ => False) wo wx) (fun i _ => j - (intOf i).toNat)
        case atStart => exact ⟨0, by omega, rfl, by simp, Keeps.refl _ _⟩
        case round =>
          obtain ⟨k, hkj, rfl, hany, hk2⟩ := hrel
          by_cases hlk : k < j
          · have hlk' : (k : Int) < j := by omega
            have hlN : (k : Int) < N := by omega
            have hkp : k < ports.length := by have := HP.out.2.1; omega
            have cr := cell_kept (HK.out.2.2 k hkp) hk2 fun e => e
            have cq2 := cell_kept cq hk2 fun e => e
            obtain ⟨r, hrr⟩ : ∃ r, r = ports[k]'hkp := ⟨_, rfl⟩
            have hrb := HP.out.2.2 _ (List.getElem_mem hkp)
            rw [← hrr] at cr hrb
            obtain ⟨r1, r2⟩ := hrb
            have e1 : r + 3 + n = r + (3 + n) := by omega
            have e2 : q + 3 + n = q + (3 + n) := by omega
            have HM3 : Hid ((bxq n q).meets (bxq n r) = (decide (q < r + 3 + n) && decide (r < q + 3 + n))) := by show (decide (q < r + (3 + n)) && decide (r < q + (3 + n))) = _; rw [e1, e2]
            have hgk : ports[k]? = some r := by rw [hrr]; exact List.getElem?_eq_getElem hkp
            have HN : Hid ((bxq n q).meets (bxq n r) = false → ((ports.take (k + 1)).any fun r => (bxq n q).meets (bxq n r)) = false) := fun h => by
              rw [List.take_add_one, hgk, List.any_append, hany]
              simp [h]
            have HY : Hid ((bxq n q).meets (bxq n r) = true → apB p n ports = false) := fun h => HBad.out (by
              have : ((ports.take j).any fun r => (bxq n q).meets (bxq n r)) = true := List.any_eq_true.2 ⟨r, by
                refine List.mem_of_getElem? (i := k) ?_
                rw [List.getElem?_take, if_pos hlk]; exact hgk, h⟩
              rw [HA.out, this]; simp)
            have HK2 : Hid (Keeps (fun _ => False) wo wr) := hk2
            have hw1 : IntKind.i64.wrap (r + 3) = r + 3 := by rw [IntKind.wrap_i64]; omega
            have hw2 : IntKind.i64.wrap (r + 3 + n) = r + 3 + n := by rw [IntKind.wrap_i64]; omega
            have hw3 : IntKind.i64.wrap (q + 3) = q + 3 := by rw [IntKind.wrap_i64]; omega
            have hw4 : IntKind.i64.wrap (q + 3 + n) = q + 3 + n := by rw [IntKind.wrap_i64]; omega
            clear hkj hany hk2 hkp hrr hgk e1 e2 cq
            by_cases x1 : q < r + 3 + n
            · by_cases x2 : r < q + 3 + n
              · have HE : Hid (apB p n ports = false) := HY.out (by rw [HM3.out, decide_eq_true x1, decide_eq_true x2]; rfl)
                go_wp2
                go_quiet (fail)
                go_wp2
                go_ret
                exact ⟨ret_bool HE.out.symm, (HK.out.1.trans HK2.out fun _ _ e => e).drewN _⟩
              · have HE : Hid (((ports.take (k + 1)).any fun r => (bxq n q).meets (bxq n r)) = false) := HN.out (by rw [HM3.out, decide_eq_false x2]; simp)
                go_wp2
                go_quiet (fail)
                go_wp2
                go_roundw
                case rel => exact ⟨k + 1, by omega, by go_num, HE.out, HK2.out.drewN _⟩
                case measure => simp [intOf]; omega
            · have HE : Hid (((ports.take (k + 1)).any fun r => (bxq n q).meets (bxq n r)) = false) := HN.out (by rw [HM3.out, decide_eq_false x1]; simp)
              have x1' : (q < r + 3 + n) = False := eq_false x1
              go_wp2
              refine wp_region_held_drew (S := (fun w' => w'.cell? ⟨gp, op + j, none⟩ = some (.int .i64 q) ∧ w'.cell? ⟨gp, op + k, none⟩ = some (.int .i64 r))) Try.mixd ⟨cq2, cr⟩ (fun hHeld => ?_)
              simp only [List.size_toArray, List.length_cons, List.length_nil, Nat.reduceAdd, Array.replicate_succ, Array.replicate_zero, List.push_toArray, List.append_toArray, List.nil_append, List.cons_append]
              refine wpAnyH_take (i := 0) (oi := { dst := some 38, op := Op.move (Operand.tmp 2), type := 33, pos := "ref.go:135", after := #[], guard := none }) (v := .slice (some ⟨gp, op, none⟩) N c) rfl (by kernel_rfl) (by kernel_rfl) (by kernel_rfl) (fun _ _ _ h => h) (Or.inl ⟨by kernel_rfl, by (intro w hSw; (try dsimp only at hSw); go_simp)⟩) hHeld ?_
              simp only [Act.put, List.setIfInBounds_toArray, List.set_cons_zero, List.set_cons_succ]
              refine wpAnyH_take (i := 1) (oi := { dst := some 39, op := Op.move (Operand.tmp 7), type := 3, pos := "ref.go:135", after := #[], guard := none }) (v := .int .i64 (j : Int)) rfl (by kernel_rfl) (by kernel_rfl) (by kernel_rfl) (fun _ _ _ h => h) (Or.inl ⟨by kernel_rfl, by (intro w hSw; (try dsimp only at hSw); go_simp)⟩) hHeld ?_
              simp only [Act.put, List.setIfInBounds_toArray, List.set_cons_zero, List.set_cons_succ]
              refine wpAnyH_take (i := 2) (oi := { dst := some 40, op := Op.indexAddr 33 (Operand.tmp 38) (Operand.tmp 39), type := 0, pos := "ref.go:135", after := #[{ on := 0, ground := Ground.data }, { on := 1, ground := Ground.data }], guard := none }) (v := .pointer (some ⟨gp, op + j, none⟩)) rfl (by kernel_rfl) (by kernel_rfl) (by kernel_rfl) (fun _ _ _ h => h) (Or.inl ⟨by kernel_rfl, by (intro w hSw; (try dsimp only at hSw); go_simp)⟩) hHeld ?_
              simp only [Act.put, List.setIfInBounds_toArray, List.set_cons_zero, List.set_cons_succ]
              refine wpAnyH_take (i := 3) (oi := { dst := some 41, op := Op.load 3 (Operand.tmp 40), type := 3, pos := "ref.go:135", after := #[{ on := 2, ground := Ground.data }], guard := none }) (v := .int .i64 q) rfl (by kernel_rfl) (by kernel_rfl) (by kernel_rfl) (fun _ _ _ h => h) (Or.inl ⟨by kernel_rfl, by (intro w hSw; (try dsimp only at hSw); go_simp)⟩) hHeld ?_
              simp only [Act.put, List.setIfInBounds_toArray, List.set_cons_zero, List.set_cons_succ]
              refine wpAnyH_take (i := 4) (oi := { dst := some 42, op := Op.move (Operand.tmp 2), type := 33, pos := "ref.go:135", after := #[], guard := none }) (v := .slice (some ⟨gp, op, none⟩) N c) rfl (by kernel_rfl) (by kernel_rfl) (by kernel_rfl) (fun _ _ _ h => h) (Or.inl ⟨by kernel_rfl, by (intro w hSw; (try dsimp only at hSw); go_simp)⟩) hHeld ?_
              simp only [Act.put, List.setIfInBounds_toArray, List.set_cons_zero, List.set_cons_succ]
              refine wpAnyH_take (i := 5) (oi := { dst := some 43, op := Op.move (Operand.tmp 8), type := 3, pos := "ref.go:135", after := #[], guard := none }) (v := .int .i64 (k : Int)) rfl (by kernel_rfl) (by kernel_rfl) (by kernel_rfl) (fun _ _ _ h => h) (Or.inl ⟨by kernel_rfl, by (intro w hSw; (try dsimp only at hSw); go_simp)⟩) hHeld ?_
              simp only [Act.put, List.setIfInBounds_toArray, List.set_cons_zero, List.set_cons_succ]
              refine wpAnyH_take (i := 6) (oi := { dst := some 44, op := Op.indexAddr 33 (Operand.tmp 42) (Operand.tmp 43), type := 0, pos := "ref.go:135", after := #[{ on := 4, ground := Ground.data }, { on := 5, ground := Ground.data }], guard := none }) (v := .pointer (some ⟨gp, op + k, none⟩)) rfl (by kernel_rfl) (by kernel_rfl) (by kernel_rfl) (fun _ _ _ h => h) (Or.inl ⟨by kernel_rfl, by (intro w hSw; (try dsimp only at hSw); go_simp)⟩) hHeld ?_
              simp only [Act.put, List.setIfInBounds_toArray, List.set_cons_zero, List.set_cons_succ]
              refine wpAnyH_take (i := 7) (oi := { dst := some 45, op := Op.load 3 (Operand.tmp 44), type := 3, pos := "ref.go:135", after := #[{ on := 6, ground := Ground.data }], guard := none }) (v := .int .i64 r) rfl (by kernel_rfl) (by kernel_rfl) (by kernel_rfl) (fun _ _ _ h => h) (Or.inl ⟨by kernel_rfl, by (intro w hSw; (try dsimp only at hSw); go_simp)⟩) hHeld ?_
              simp only [Act.put, List.setIfInBounds_toArray, List.set_cons_zero, List.set_cons_succ]
              refine wpAnyH_take (i := 8) (oi := { dst := some 46, op := Op.binOp BinOp.add 3 (Operand.tmp 45) (Operand.const (Value.int IntKind.i64 3)) 3, type := 3, pos := "ref.go:135", after := #[{ on := 7, ground := Ground.data }], guard := none }) (v := .int .i64 (r + 3)) rfl (by kernel_rfl) (by kernel_rfl) (by kernel_rfl) (fun _ _ _ h => h) (Or.inl ⟨by kernel_rfl, by (intro w hSw; (try dsimp only at hSw); go_simp)⟩) hHeld ?_
              simp only [Act.put, List.setIfInBounds_toArray, List.set_cons_zero, List.set_cons_succ]
              refine wpAnyH_take (i := 9) (oi := { dst := some 47, op := Op.move (Operand.tmp 1), type := 3, pos := "ref.go:135", after := #[], guard := none }) (v := .int .i64 n) rfl (by kernel_rfl) (by kernel_rfl) (by kernel_rfl) (fun _ _ _ h => h) (Or.inl ⟨by kernel_rfl, by (intro w hSw; (try dsimp only at hSw); go_simp)⟩) hHeld ?_
              simp only [Act.put, List.setIfInBounds_toArray, List.set_cons_zero, List.set_cons_succ]
              refine wpAnyH_take (i := 10) (oi := { dst := some 48, op := Op.binOp BinOp.add 3 (Operand.tmp 46) (Operand.tmp 47) 3, type := 3, pos := "ref.go:135", after := #[{ on := 8, ground := Ground.data }, { on := 9, ground := Ground.data }], guard := none }) (v := .int .i64 (r + 3 + n)) rfl (by kernel_rfl) (by kernel_rfl) (by kernel_rfl) (fun _ _ _ h => h) (Or.inl ⟨by kernel_rfl, by (intro w hSw; (try dsimp only at hSw); go_simp)⟩) hHeld ?_
              simp only [Act.put, List.setIfInBounds_toArray, List.set_cons_zero, List.set_cons_succ]
              refine wpAnyH_take (i := 11) (oi := { dst := some 49, op := Op.binOp BinOp.lss 3 (Operand.tmp 41) (Operand.tmp 48) 3, type := 4, pos := "ref.go:135", after := #[{ on := 3, ground := Ground.data }, { on := 10, ground := Ground.data }], guard := none }) (v := .bool false) rfl (by kernel_rfl) (by kernel_rfl) (by kernel_rfl) (fun _ _ _ h => h) (Or.inl ⟨by kernel_rfl, by (intro w hSw; (try dsimp only at hSw); go_simp)⟩) hHeld ?_
              simp only [Act.put, List.setIfInBounds_toArray, List.set_cons_zero, List.set_cons_succ]
              refine wpAnyH_take (i := 12) (oi := { dst := some 50, op := Op.move (Operand.tmp 49), type := 4, pos := "ref.go:135", after := #[{ on := 11, ground := Ground.data }], guard := none }) (v := .bool false) rfl (by kernel_rfl) (by kernel_rfl) (by kernel_rfl) (fun _ _ _ h => h) (Or.inl ⟨by kernel_rfl, by (intro w hSw; (try dsimp only at hSw); go_simp)⟩) hHeld ?_
              simp only [Act.put, List.setIfInBounds_toArray, List.set_cons_zero, List.set_cons_succ]
              refine wpAnyH_take (i := 13) (oi := { dst := some 51, op := Op.move (Operand.tmp 2), type := 33, pos := "ref.go:135", after := #[{ on := 12, ground := Ground.guard }], guard := some (12, true) }) (v := undef) rfl (by kernel_rfl) (by kernel_rfl) (by kernel_rfl) (fun _ _ _ h => h) (Or.inr ⟨by kernel_rfl, rfl⟩) hHeld ?_
              simp only [Act.put, List.setIfInBounds_toArray, List.set_cons_zero, List.set_cons_succ]
              refine wpAnyH_take (i := 14) (oi := { dst := some 52, op := Op.move (Operand.tmp 8), type := 3, pos := "ref.go:135", after := #[{ on := 12, ground := Ground.guard }], guard := some (12, true) }) (v := undef) rfl (by kernel_rfl) (by kernel_rfl) (by kernel_rfl) (fun _ _ _ h => h) (Or.inr ⟨by kernel_rfl, rfl⟩) hHeld ?_
              simp only [Act.put, List.setIfInBounds_toArray, List.set_cons_zero, List.set_cons_succ]
              refine wpAnyH_take (i := 15) (oi := { dst := some 53, op := Op.indexAddr 33 (Operand.tmp 51) (Operand.tmp 52), type := 0, pos := "ref.go:135", after := #[{ on := 13, ground := Ground.data }, { on := 14, ground := Ground.data }, { on := 12, ground := Ground.guard }], guard := some (12, true) }) (v := undef) rfl (by kernel_rfl) (by kernel_rfl) (by kernel_rfl) (fun _ _ _ h => h) (Or.inr ⟨by kernel_rfl, rfl⟩) hHeld ?_
              simp only [Act.put, List.setIfInBounds_toArray, List.set_cons_zero, List.set_cons_succ]
              refine wpAnyH_take (i := 16) (oi := { dst := some 54, op := Op.load 3 (Operand.tmp 53), type := 3, pos := "ref.go:135", after := #[{ on := 15, ground := Ground.data }, { on := 12, ground := Ground.guard }], guard := some (12, true) }) (v := undef) rfl (by kernel_rfl) (by kernel_rfl) (by kernel_rfl) (fun _ _ _ h => h) (Or.inr ⟨by kernel_rfl, rfl⟩) hHeld ?_
              simp only [Act.put, List.setIfInBounds_toArray, List.set_cons_zero, List.set_cons_succ]
              refine wpAnyH_take (i := 17) (oi := { dst := some 55, op := Op.move (Operand.tmp 2), type := 33, pos := "ref.go:135", after := #[{ on := 12, ground := Ground.guard }], guard := some (12, true) }) (v := undef) rfl (by kernel_rfl) (by kernel_rfl) (by kernel_rfl) (fun _ _ _ h => h) (Or.inr ⟨by kernel_rfl, rfl⟩) hHeld ?_
              simp only [Act.put, List.setIfInBounds_toArray, List.set_cons_zero, List.set_cons_succ]
              refine wpAnyH_take (i := 18) (oi := { dst := some 56, op := Op.move (Operand.tmp 7), type := 3, pos := "ref.go:135", after := #[{ on := 12, ground := Ground.guard }], guard := some (12, true) }) (v := undef) rfl (by kernel_rfl) (by kernel_rfl) (by kernel_rfl) (fun _ _ _ h => h) (Or.inr ⟨by kernel_rfl, rfl⟩) hHeld ?_
              simp only [Act.put, List.setIfInBounds_toArray, List.set_cons_zero, List.set_cons_succ]
              refine wpAnyH_take (i := 19) (oi := { dst := some 57, op := Op.indexAddr 33 (Operand.tmp 55) (Operand.tmp 56), type := 0, pos := "ref.go:135", after := #[{ on := 17, ground := Ground.data }, { on := 18, ground := Ground.data }, { on := 12, ground := Ground.guard }], guard := some (12, true) }) (v := undef) rfl (by kernel_rfl) (by kernel_rfl) (by kernel_rfl) (fun _ _ _ h => h) (Or.inr ⟨by kernel_rfl, rfl⟩) hHeld ?_
              simp only [Act.put, List.setIfInBounds_toArray, List.set_cons_zero, List.set_cons_succ]
              refine wpAnyH_take (i := 20) (oi := { dst := some 58, op := Op.load 3 (Operand.tmp 57), type := 3, pos := "ref.go:135", after := #[{ on := 19, ground := Ground.data }, { on := 12, ground := Ground.guard }], guard := some (12, true) }) (v := undef) rfl (by kernel_rfl) (by kernel_rfl) (by kernel_rfl) (fun _ _ _ h => h) (Or.inr ⟨by kernel_rfl, rfl⟩) hHeld ?_
              simp only [Act.put, List.setIfInBounds_toArray, List.set_cons_zero, List.set_cons_succ]
              refine wpAnyH_take (i := 21) (oi := { dst := some 59, op := Op.binOp BinOp.add 3 (Operand.tmp 58) (Operand.const (Value.int IntKind.i64 3)) 3, type := 3, pos := "ref.go:135", after := #[{ on := 20, ground := Ground.data }, { on := 12, ground := Ground.guard }], guard := some (12, true) }) (v := undef) rfl (by kernel_rfl) (by kernel_rfl) (by kernel_rfl) (fun _ _ _ h => h) (Or.inr ⟨by kernel_rfl, rfl⟩) hHeld ?_
              simp only [Act.put, List.setIfInBounds_toArray, List.set_cons_zero, List.set_cons_succ]
              refine wpAnyH_take (i := 22) (oi := { dst := some 60, op := Op.move (Operand.tmp 1), type := 3, pos := "ref.go:135", after := #[{ on := 12, ground := Ground.guard }], guard := some (12, true) }) (v := undef) rfl (by kernel_rfl) (by kernel_rfl) (by kernel_rfl) (fun _ _ _ h => h) (Or.inr ⟨by kernel_rfl, rfl⟩) hHeld ?_
              simp only [Act.put, List.setIfInBounds_toArray, List.set_cons_zero, List.set_cons_succ]
              refine wpAnyH_take (i := 23) (oi := { dst := some 61, op := Op.binOp BinOp.add 3 (Operand.tmp 59) (Operand.tmp 60) 3, type := 3, pos := "ref.go:135", after := #[{ on := 21, ground := Ground.data }, { on := 22, ground := Ground.data }, { on := 12, ground := Ground.guard }], guard := some (12, true) }) (v := undef) rfl (by kernel_rfl) (by kernel_rfl) (by kernel_rfl) (fun _ _ _ h => h) (Or.inr ⟨by kernel_rfl, rfl⟩) hHeld ?_
              simp only [Act.put, List.setIfInBounds_toArray, List.set_cons_zero, List.set_cons_succ]
              refine wpAnyH_take (i := 24) (oi := { dst := some 62, op := Op.binOp BinOp.lss 3 (Operand.tmp 54) (Operand.tmp 61) 3, type := 4, pos := "ref.go:135", after := #[{ on := 16, ground := Ground.data }, { on := 23, ground := Ground.data }, { on := 12, ground := Ground.guard }], guard := some (12, true) }) (v := undef) rfl (by kernel_rfl) (by kernel_rfl) (by kernel_rfl) (fun _ _ _ h => h) (Or.inr ⟨by kernel_rfl, rfl⟩) hHeld ?_
              simp only [Act.put, List.setIfInBounds_toArray, List.set_cons_zero, List.set_cons_succ]
              refine wpAnyH_take (i := 25) (oi := { dst := some 63, op := Op.pick (Operand.tmp 50) (Operand.tmp 62) (Operand.const (Value.bool false)), type := 4, pos := "ref.go:135", after := #[{ on := 12, ground := Ground.data }, { on := 24, ground := Ground.data }], guard := none }) (v := .bool false) rfl (by kernel_rfl) (by kernel_rfl) (by kernel_rfl) (fun _ _ _ h => h) (Or.inl ⟨by kernel_rfl, by (intro w hSw; (try dsimp only at hSw); go_simp)⟩) hHeld ?_
              simp only [Act.put, List.setIfInBounds_toArray, List.set_cons_zero, List.set_cons_succ]
              refine wpAnyH_done (by kernel_rfl) ?_ _
              clear hHeld
              go_wp2
              go_roundw
              case rel => exact ⟨k + 1, by omega, by go_num, HE.out, HK2.out.drew⟩
              case measure => simp [intOf]; omega
          · obtain rfl : k = j := by omega
            have HF : Hid (apOk p n ports k = true ∧ Keeps (fun _ => False) w wr) := ⟨by rw [HA.out, HM2.out, hany]; rfl, HK.out.1.trans hk2 fun _ _ e => e⟩
            clear hkj hany hk2 hlk
            go_wp2
            go_roundw
            case rel =>
              refine ⟨k + 1, by omega, by go_num, (fun i hi => ?_), HF.out.2⟩
              by_cases e : i = k
              · rw [e]; exact HF.out.1
              · exact HK.out.2.1 i (by omega)
            case measure => simp [intOf]; omega
    · obtain rfl : j = N := by omega
      have HF : Hid (apB p n ports = true ∧ Keeps (fun _ => False) w wr) := by
        refine ⟨?_, hk⟩
        unfold apB
        rw [List.all_eq_true]
        exact fun i hi => hok i (by rw [List.mem_range] at hi; have := HP.out.2.1; omega)
      clear hok hk hlt hj
      go_wp2
      go_ret
      exact ⟨ret_bool HF.out.1.symm, HF.out.2⟩

end Go.Proofs.Ytfcgpjojjehkiaa
