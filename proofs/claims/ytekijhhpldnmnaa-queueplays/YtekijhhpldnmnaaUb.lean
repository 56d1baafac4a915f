import Derived.Test.YtekijhhpldnmnaaUa
import Derived.Deep.RegionHeld3
import Derived.Deep.RegionHeld2
import Derived.Deep.CutBlock
import Derived.Deep.CutRange
namespace Go.Proofs.Ytekijhhpldnmnaa
open Go.RowKit
set_option linter.unusedVariables false
set_option linter.unusedSimpArgs false

/-- What is laid for some ports. -/
def dlY (xs : List UInt32) (n d : Int) (ms : List (List UInt32)) (l : List Int) : List UInt32 := l.foldl (fun ys q => lay ys q.toNat (dlP xs n d ms q)) xs
theorem dlY_snoc (xs : List UInt32) (n d : Int) (ms : List (List UInt32)) (l : List Int) (j : Nat) (q : Int) (h : l[j]? = some q) : dlY xs n d ms (l.take (j + 1)) = lay (dlY xs n d ms (l.take j)) q.toNat (dlP xs n d ms q) := by
  unfold dlY
  rw [List.take_add_one, h, List.foldl_append]
  rfl
theorem dlY_length {xs : List UInt32} {n d : Int} {ms : List (List UInt32)} {l : List Int} (h : ∀ q ∈ l, q.toNat + (dlP xs n d ms q).length ≤ xs.length) : (dlY xs n d ms l).length = xs.length := by
  have : ∀ (ys : List UInt32), ys.length = xs.length → (l.foldl (fun ys q => lay ys q.toNat (dlP xs n d ms q)) ys).length = xs.length := by
    induction l with
    | nil => intro ys hy; exact hy
    | cons q t ih =>
      intro ys hy
      rw [List.foldl_cons]
      exact ih (fun x hx => h x (List.mem_cons_of_mem _ hx)) _ (by rw [lay_length _ _ _ (by rw [hy]; exact h q (List.mem_cons_self ..)), hy])
  exact this xs rfl
theorem dlX_Y (xs : List UInt32) (p n d : Int) (ports : List Int) : dlX xs p n d ports = lay (dlY xs n d (rdA xs p 1 n d).ms ports) p.toNat (List.replicate (rsz 1 n d) 0) := rfl
theorem MsR.at2 {lo : Nat} {w : World} {a : Option Addr} {L c : Nat} {ms : List (List UInt32)} (h : MsR lo w (.slice a L c) ms) {i : Nat} {m : List UInt32} (hi : ms[i]? = some m) :
    ∃ sg so B, a = some ⟨sg, so, none⟩ ∧ B < w.heap.size ∧ ∀ wr, Keeps (fun _ => False) w wr → wr.cell? ⟨sg, so + i, none⟩ = some (.slice (some ⟨B, 0, none⟩) m.length m.length) ∧ Blk wr B (wvs m) 52 := by
  obtain ⟨vals, h1, h2, h3, h4⟩ := h
  obtain ⟨B, q1, q2, q3⟩ := h4 i m hi
  obtain ⟨g, o, ha, hc⟩ := h1.at q2
  exact ⟨g, o, B, ha, q3.lt, fun wr k => ⟨cell_kept hc k fun e => e, q3.kept k fun e => e⟩⟩

set_option maxRecDepth 20000 in
set_option maxHeartbeats 4000000 in
theorem rdeliver_any (D M c : Nat) (p n d : Int) (xs : List UInt32) (pa : Option Addr) (pc : Nat) (ports : List Int) (w : World) (hB : Blk w D (wvs xs) 52) (hM : M = xs.length) (hm : M ≤ 256) (hs : SegI w pa ports) :
    Calls Try.prog 32 #[.slice (some ⟨D, 0, none⟩) M c, .int .i64 p, .int .i64 n, .int .i64 d, .slice pa ports.length pc] w fun e w' => NxD w D M (dlF false xs p n d ports) (dlE false xs p n d ports) e w' := by
  have HB9 : Hid (Blk w D (wvs xs) 52) := hB
  have hbn := bounds_any n d w
  obtain ⟨N, hN⟩ : ∃ N, N = ports.length := ⟨_, rfl⟩
  rw [← hN]
  by_cases hf : fitE false n d = 0
  · rw [bnd_yes hf] at hbn
    have HBn : Hid (Calls _ _ _ _ _) := hbn
    obtain ⟨_, f1, f2, f3, f4⟩ := fit_ok hf
    obtain ⟨n', rfl⟩ : ∃ k : Nat, n = k := ⟨n.toNat, by omega⟩
    obtain ⟨d', rfl⟩ : ∃ k : Nat, d = k := ⟨d.toNat, by omega⟩
    by_cases hlen : 4 < N
    · have hE : dlE false xs p n' d' ports = 2 := by unfold dlE; rw [if_neg (fun q => q hf), if_pos (by omega)]
      have hX := dlF_no hE (by decide)
      rw [hE, hX]
      have l1 : (4 : Int) < N := by omega
      clear hbn hf hB hM hm hs hN hE hX
      go_enter Try.func32, Try.ntmps32
      go_wp2_with fail
      refine HBn.out.mono ?_
      rintro e w1 ⟨rfl, rfl⟩
      go_wp2
      go_returns
      exact ⟨D, c, rfl, .inl rfl, HB9.out, Keeps.refl _ _⟩
    have hlen' : ¬ 4 < ports.length := by omega
    have l1 : ¬ (4 : Int) < N := by omega
    have HSW : Hid (Calls Try.prog 24 #[.int .i64 n', .int .i64 d'] w fun e w' => e = .returned (.int .i64 (rsz 1 n' d' : Nat)) ∧ w' = w) := stageWords_any n' d' w (by omega) (by omega)
    have HPW : Hid (∀ w, Calls Try.prog 25 #[.int .i64 n', .int .i64 d'] w fun e w' => e = .returned (.int .i64 (rsz 3 n' d' : Nat)) ∧ w' = w) := fun w => portWords_any n' d' w (by omega) (by omega)
    have hz1 : rsz 1 n' d' ≤ 137 ∧ rsz 3 n' d' ≤ 139 := by
      have := Nat.mul_le_mul (show d' ≤ 8 by omega) (show 1 + n' ≤ 17 by omega)
      rw [rsz_nat, rsz_nat]; omega
    have HFS := rfits_any (some ⟨D, 0, none⟩) M c p (rsz 1 n' d' : Nat) w hm (by omega)
    have HFP : Hid (∀ (q : Int) w, Calls Try.prog 57 #[.slice (some ⟨D, 0, none⟩) M c, .int .i64 q, .int .i64 (rsz 3 n' d' : Nat)] w fun e w' => e = .returned (.bool (decide (0 ≤ q ∧ q + (rsz 3 n' d' : Nat) ≤ M))) ∧ w' = w) := fun q w => rfits_any (some ⟨D, 0, none⟩) M c q (rsz 3 n' d' : Nat) w hm (by omega)
    obtain ⟨R1, hR1⟩ : ∃ R1, R1 = rsz 1 n' d' := ⟨_, rfl⟩
    obtain ⟨R3, hR3⟩ : ∃ R3, R3 = rsz 3 n' d' := ⟨_, rfl⟩
    rw [← hR1] at HSW HFS
    rw [← hR3] at HPW HFP
    by_cases hi : 0 ≤ p ∧ p + (R1 : Int) ≤ M
    · rw [decide_eq_true hi] at HFS
      have HFS : Hid (Calls _ _ _ _ _) := HFS
      have HC : Hid (∀ j, j < N → ∃ gp op q, ports[j]? = some q ∧ pa = some ⟨gp, op, none⟩ ∧ ∀ wr, Keeps (fun _ => False) w wr → wr.cell? ⟨gp, op + j, none⟩ = some (.int .i64 q)) := fun j hj => by
        rcases hs with rfl | ⟨gp, op, rfl, hc⟩
        · rw [hN] at hj; exact absurd hj (by simp)
        · exact ⟨gp, op, _, List.getElem?_eq_getElem (by omega), rfl, fun wr k => cell_kept (hc j (by omega)) k fun e => e⟩
      have hi' : 0 ≤ p ∧ p + (rsz 1 n' d' : Int) ≤ xs.length := by rw [← hR1, ← hM]; exact hi
      obtain ⟨DE, hDE⟩ : ∃ DE, DE = dlE false xs p n' d' ports := ⟨_, rfl⟩
      obtain ⟨DX, hDX⟩ : ∃ DX, DX = dlF false xs p n' d' ports := ⟨_, rfl⟩
      rw [← hDE, ← hDX]
      have HALL : Hid (R1 = rsz 1 n' d' ∧ R3 = rsz 3 n' d' ∧ N = ports.length ∧ M = xs.length ∧ M ≤ 256 ∧ fitE false n' d' = 0 ∧ ¬ 4 < ports.length ∧ (0 ≤ p ∧ p + (rsz 1 n' d' : Int) ≤ xs.length) ∧ DE = dlE false xs p n' d' ports ∧ DX = dlF false xs p n' d' ports) := ⟨hR1, hR3, hN, hM, hm, hf, hlen', hi', hDE, hDX⟩
      have HP3 : Hid (∀ (j : Nat) (q : Int), ports[j]? = some q → ¬ (0 ≤ q ∧ q + (R3 : Int) ≤ M) → DE = 51 ∧ DX = xs) := fun j q hq hn => by
        have hE := dl_pin hf hlen' hi' (List.mem_of_getElem? hq) (by rw [← hR3, ← hM]; exact hn)
        exact ⟨by rw [hDE, hE], by rw [hDX]; exact dlF_no hE (by decide)⟩
      clear hbn hf hB hM hm hs hN hR1 hR3 hlen' hi hi' hDE hDX hz1
      go_enter Try.func32, Try.ntmps32
      go_wp2_with fail
      refine HBn.out.mono ?_
      rintro e w1 ⟨rfl, rfl⟩
      go_wp2_with fail
      refine HSW.out.mono ?_
      rintro e w2 ⟨rfl, hw2⟩
      obtain rfl := hw2.symm
      go_wp2_with fail
      refine HFS.out.mono ?_
      rintro e w2 ⟨rfl, hw2⟩
      obtain rfl := hw2.symm
      clear HBn HSW HFS
      go_wp2
      go_loopw [12] (fun i wr => ∃ j : Nat, j ≤ N ∧ i = .int .i64 j ∧ Keeps (fun _ => False) w1 wr ∧ ∀ i q, i < j → ports[i]? = some q → 0 ≤ q ∧ q + (R3 : Int) ≤ M) (fun i _ => N - (intOf i).toNat)
      case atStart => exact ⟨0, by omega, rfl, Keeps.refl _ _, fun i q h => absurd h (by omega)⟩
      case round =>
        obtain ⟨j, hj, rfl, hk, hall⟩ := hrel
        by_cases hlt : j < N
        · have hlt' : (j : Int) < N := by omega
          obtain ⟨gp, op, q, hq, rfl, hc⟩ := HC.out j hlt
          have hS := hc _ hk.drew
          have HFT := HFP.out q
          by_cases hin : 0 ≤ q ∧ q + (R3 : Int) ≤ M
          · rw [decide_eq_true hin] at HFT
            have HFT : Hid (∀ w, Calls Try.prog 57 _ w _) := HFT
            have HR : Hid (Keeps (fun _ => False) w1 wr ∧ ∀ i q, i < j + 1 → ports[i]? = some q → 0 ≤ q ∧ q + (R3 : Int) ≤ M) := ⟨hk, fun i q' h1 h2 => by
              by_cases e : i = j
              · subst e; rw [hq] at h2; cases h2; exact hin
              · exact hall i q' (by omega) h2⟩
            have HJ : Hid (j < N) := hlt
            clear hall hk hq hin hc hlt
            go_wp2
            refine wp_region_held_drew (S := (fun w' => w'.cell? ⟨gp, op + j, none⟩ = some (.int .i64 q))) Try.mixd hS (fun hHeld => ?_)
            simp only [List.size_toArray, List.length_cons, List.length_nil, Nat.reduceAdd, Array.replicate_succ, Array.replicate_zero, List.push_toArray, List.append_toArray, List.nil_append, List.cons_append]
            refine wpAnyH_take (i := 0) (oi := { dst := some 46, op := Op.move (Operand.tmp 0), type := 22, pos := "ref.go:182", after := #[], guard := none }) (v := .slice (some ⟨D, 0, none⟩) M c) rfl (by kernel_rfl) (by kernel_rfl) (by kernel_rfl) (fun _ _ _ h => h) (Or.inl ⟨by kernel_rfl, by (intro w hSw; (try dsimp only at hSw); go_simp; try omega)⟩) hHeld ?_
            simp only [Act.put, List.setIfInBounds_toArray, List.set_cons_zero, List.set_cons_succ]
            refine wpAnyH_take (i := 1) (oi := { dst := some 47, op := Op.move (Operand.tmp 4), type := 33, pos := "ref.go:182", after := #[], guard := none }) (v := .slice (some ⟨gp, op, none⟩) N pc) rfl (by kernel_rfl) (by kernel_rfl) (by kernel_rfl) (fun _ _ _ h => h) (Or.inl ⟨by kernel_rfl, by (intro w hSw; (try dsimp only at hSw); go_simp; try omega)⟩) hHeld ?_
            simp only [Act.put, List.setIfInBounds_toArray, List.set_cons_zero, List.set_cons_succ]
            refine wpAnyH_take (i := 2) (oi := { dst := some 48, op := Op.move (Operand.tmp 12), type := 3, pos := "ref.go:182", after := #[], guard := none }) (v := .int .i64 (j : Int)) rfl (by kernel_rfl) (by kernel_rfl) (by kernel_rfl) (fun _ _ _ h => h) (Or.inl ⟨by kernel_rfl, by (intro w hSw; (try dsimp only at hSw); go_simp; try omega)⟩) hHeld ?_
            simp only [Act.put, List.setIfInBounds_toArray, List.set_cons_zero, List.set_cons_succ]
            refine wpAnyH_take (i := 3) (oi := { dst := some 49, op := Op.indexAddr 33 (Operand.tmp 47) (Operand.tmp 48), type := 0, pos := "ref.go:182", after := #[{ on := 1, ground := Ground.data }, { on := 2, ground := Ground.data }], guard := none }) (v := .pointer (some ⟨gp, op + j, none⟩)) rfl (by kernel_rfl) (by kernel_rfl) (by kernel_rfl) (fun _ _ _ h => h) (Or.inl ⟨by kernel_rfl, by (intro w hSw; (try dsimp only at hSw); go_simp; try omega)⟩) hHeld ?_
            simp only [Act.put, List.setIfInBounds_toArray, List.set_cons_zero, List.set_cons_succ]
            refine wpAnyH_take (i := 4) (oi := { dst := some 50, op := Op.load 3 (Operand.tmp 49), type := 3, pos := "ref.go:182", after := #[{ on := 3, ground := Ground.data }], guard := none }) (v := .int .i64 q) rfl (by kernel_rfl) (by kernel_rfl) (by kernel_rfl) (fun _ _ _ h => h) (Or.inl ⟨by kernel_rfl, by (intro w hSw; (try dsimp only at hSw); go_simp; try omega)⟩) hHeld ?_
            simp only [Act.put, List.setIfInBounds_toArray, List.set_cons_zero, List.set_cons_succ]
            refine wpAnyH_take (i := 5) (oi := { dst := some 51, op := Op.move (Operand.tmp 2), type := 3, pos := "ref.go:182", after := #[], guard := none }) (v := .int .i64 n') rfl (by kernel_rfl) (by kernel_rfl) (by kernel_rfl) (fun _ _ _ h => h) (Or.inl ⟨by kernel_rfl, by (intro w hSw; (try dsimp only at hSw); go_simp; try omega)⟩) hHeld ?_
            simp only [Act.put, List.setIfInBounds_toArray, List.set_cons_zero, List.set_cons_succ]
            refine wpAnyH_take (i := 6) (oi := { dst := some 52, op := Op.move (Operand.tmp 3), type := 3, pos := "ref.go:182", after := #[], guard := none }) (v := .int .i64 d') rfl (by kernel_rfl) (by kernel_rfl) (by kernel_rfl) (fun _ _ _ h => h) (Or.inl ⟨by kernel_rfl, by (intro w hSw; (try dsimp only at hSw); go_simp; try omega)⟩) hHeld ?_
            simp only [Act.put, List.setIfInBounds_toArray, List.set_cons_zero, List.set_cons_succ]
            refine wpAnyH_ready (rs := [7]) (by kernel_rfl) (by simp) ?_
            refine AllReadyH.cons (o := { dst := some 53, op := Op.call { callee := Callee.value (Operand.func 25), args := #[Operand.tmp 51, Operand.tmp 52], argTypes := #[3, 3] }, type := 3, pos := "ref.go:182", after := #[{ on := 5, ground := Ground.data }, { on := 6, ground := Ground.data }], guard := none }) rfl (fun Kq hK => ?_) AllReadyH.nil
            go_simp
            refine (HPW.out _).mono ?_
            rintro e w5 ⟨rfl, rfl⟩
            refine hK.out _ _ hS (fun hHeld => ?_)
            simp only [Act.put, List.setIfInBounds_toArray, List.set_cons_zero, List.set_cons_succ]
            refine wpAnyH_ready (rs := [8]) (by kernel_rfl) (by simp) ?_
            refine AllReadyH.cons (o := { dst := some 54, op := Op.call { callee := Callee.value (Operand.func 57), args := #[Operand.tmp 46, Operand.tmp 50, Operand.tmp 53], argTypes := #[22, 3, 3] }, type := 4, pos := "ref.go:182", after := #[{ on := 0, ground := Ground.data }, { on := 4, ground := Ground.data }, { on := 7, ground := Ground.data }, { on := 7, ground := Ground.chain }], guard := none }) rfl (fun Kq hK => ?_) AllReadyH.nil
            go_simp
            refine (HFT.out _).mono ?_
            rintro e w5 ⟨rfl, rfl⟩
            refine hK.out _ _ hS (fun hHeld => ?_)
            simp only [Act.put, List.setIfInBounds_toArray, List.set_cons_zero, List.set_cons_succ]
            refine wpAnyH_take (i := 9) (oi := { dst := some 55, op := Op.unOp UnOp.not 4 (Operand.tmp 54), type := 4, pos := "ref.go:182", after := #[{ on := 8, ground := Ground.data }], guard := none }) (v := .bool false) rfl (by kernel_rfl) (by kernel_rfl) (by kernel_rfl) (fun _ _ _ h => h) (Or.inl ⟨by kernel_rfl, by (intro w hSw; (try dsimp only at hSw); go_simp; try omega)⟩) hHeld ?_
            simp only [Act.put, List.setIfInBounds_toArray, List.set_cons_zero, List.set_cons_succ]
            refine wpAnyH_done (by kernel_rfl) ?_ _
            clear hHeld
            go_wp2
            go_roundw
            case rel => exact ⟨j + 1, by have := HJ.out; omega, by go_num, HR.out.1.drew, HR.out.2⟩
            case measure => have := HJ.out; simp [intOf]; omega
          · rw [decide_eq_false hin] at HFT
            have HFT : Hid (∀ w, Calls Try.prog 57 _ w _) := HFT
            have HR : Hid ((DE = 51 ∧ DX = xs) ∧ Keeps (fun _ => False) w1 wr ∧ Blk wr D (wvs xs) 52) := ⟨HP3.out j q hq hin, hk, HB9.out.kept hk fun e => e⟩
            clear hall hk hq hin hc hlt
            go_wp2
            refine wp_region_held_drew (S := (fun w' => w'.cell? ⟨gp, op + j, none⟩ = some (.int .i64 q))) Try.mixd hS (fun hHeld => ?_)
            simp only [List.size_toArray, List.length_cons, List.length_nil, Nat.reduceAdd, Array.replicate_succ, Array.replicate_zero, List.push_toArray, List.append_toArray, List.nil_append, List.cons_append]
            refine wpAnyH_take (i := 0) (oi := { dst := some 46, op := Op.move (Operand.tmp 0), type := 22, pos := "ref.go:182", after := #[], guard := none }) (v := .slice (some ⟨D, 0, none⟩) M c) rfl (by kernel_rfl) (by kernel_rfl) (by kernel_rfl) (fun _ _ _ h => h) (Or.inl ⟨by kernel_rfl, by (intro w hSw; (try dsimp only at hSw); go_simp; try omega)⟩) hHeld ?_
            simp only [Act.put, List.setIfInBounds_toArray, List.set_cons_zero, List.set_cons_succ]
            refine wpAnyH_take (i := 1) (oi := { dst := some 47, op := Op.move (Operand.tmp 4), type := 33, pos := "ref.go:182", after := #[], guard := none }) (v := .slice (some ⟨gp, op, none⟩) N pc) rfl (by kernel_rfl) (by kernel_rfl) (by kernel_rfl) (fun _ _ _ h => h) (Or.inl ⟨by kernel_rfl, by (intro w hSw; (try dsimp only at hSw); go_simp; try omega)⟩) hHeld ?_
            simp only [Act.put, List.setIfInBounds_toArray, List.set_cons_zero, List.set_cons_succ]
            refine wpAnyH_take (i := 2) (oi := { dst := some 48, op := Op.move (Operand.tmp 12), type := 3, pos := "ref.go:182", after := #[], guard := none }) (v := .int .i64 (j : Int)) rfl (by kernel_rfl) (by kernel_rfl) (by kernel_rfl) (fun _ _ _ h => h) (Or.inl ⟨by kernel_rfl, by (intro w hSw; (try dsimp only at hSw); go_simp; try omega)⟩) hHeld ?_
            simp only [Act.put, List.setIfInBounds_toArray, List.set_cons_zero, List.set_cons_succ]
            refine wpAnyH_take (i := 3) (oi := { dst := some 49, op := Op.indexAddr 33 (Operand.tmp 47) (Operand.tmp 48), type := 0, pos := "ref.go:182", after := #[{ on := 1, ground := Ground.data }, { on := 2, ground := Ground.data }], guard := none }) (v := .pointer (some ⟨gp, op + j, none⟩)) rfl (by kernel_rfl) (by kernel_rfl) (by kernel_rfl) (fun _ _ _ h => h) (Or.inl ⟨by kernel_rfl, by (intro w hSw; (try dsimp only at hSw); go_simp; try omega)⟩) hHeld ?_
            simp only [Act.put, List.setIfInBounds_toArray, List.set_cons_zero, List.set_cons_succ]
            refine wpAnyH_take (i := 4) (oi := { dst := some 50, op := Op.load 3 (Operand.tmp 49), type := 3, pos := "ref.go:182", after := #[{ on := 3, ground := Ground.data }], guard := none }) (v := .int .i64 q) rfl (by kernel_rfl) (by kernel_rfl) (by kernel_rfl) (fun _ _ _ h => h) (Or.inl ⟨by kernel_rfl, by (intro w hSw; (try dsimp only at hSw); go_simp; try omega)⟩) hHeld ?_
            simp only [Act.put, List.setIfInBounds_toArray, List.set_cons_zero, List.set_cons_succ]
            refine wpAnyH_take (i := 5) (oi := { dst := some 51, op := Op.move (Operand.tmp 2), type := 3, pos := "ref.go:182", after := #[], guard := none }) (v := .int .i64 n') rfl (by kernel_rfl) (by kernel_rfl) (by kernel_rfl) (fun _ _ _ h => h) (Or.inl ⟨by kernel_rfl, by (intro w hSw; (try dsimp only at hSw); go_simp; try omega)⟩) hHeld ?_
            simp only [Act.put, List.setIfInBounds_toArray, List.set_cons_zero, List.set_cons_succ]
            refine wpAnyH_take (i := 6) (oi := { dst := some 52, op := Op.move (Operand.tmp 3), type := 3, pos := "ref.go:182", after := #[], guard := none }) (v := .int .i64 d') rfl (by kernel_rfl) (by kernel_rfl) (by kernel_rfl) (fun _ _ _ h => h) (Or.inl ⟨by kernel_rfl, by (intro w hSw; (try dsimp only at hSw); go_simp; try omega)⟩) hHeld ?_
            simp only [Act.put, List.setIfInBounds_toArray, List.set_cons_zero, List.set_cons_succ]
            refine wpAnyH_ready (rs := [7]) (by kernel_rfl) (by simp) ?_
            refine AllReadyH.cons (o := { dst := some 53, op := Op.call { callee := Callee.value (Operand.func 25), args := #[Operand.tmp 51, Operand.tmp 52], argTypes := #[3, 3] }, type := 3, pos := "ref.go:182", after := #[{ on := 5, ground := Ground.data }, { on := 6, ground := Ground.data }], guard := none }) rfl (fun Kq hK => ?_) AllReadyH.nil
            go_simp
            refine (HPW.out _).mono ?_
            rintro e w5 ⟨rfl, rfl⟩
            refine hK.out _ _ hS (fun hHeld => ?_)
            simp only [Act.put, List.setIfInBounds_toArray, List.set_cons_zero, List.set_cons_succ]
            refine wpAnyH_ready (rs := [8]) (by kernel_rfl) (by simp) ?_
            refine AllReadyH.cons (o := { dst := some 54, op := Op.call { callee := Callee.value (Operand.func 57), args := #[Operand.tmp 46, Operand.tmp 50, Operand.tmp 53], argTypes := #[22, 3, 3] }, type := 4, pos := "ref.go:182", after := #[{ on := 0, ground := Ground.data }, { on := 4, ground := Ground.data }, { on := 7, ground := Ground.data }, { on := 7, ground := Ground.chain }], guard := none }) rfl (fun Kq hK => ?_) AllReadyH.nil
            go_simp
            refine (HFT.out _).mono ?_
            rintro e w5 ⟨rfl, rfl⟩
            refine hK.out _ _ hS (fun hHeld => ?_)
            simp only [Act.put, List.setIfInBounds_toArray, List.set_cons_zero, List.set_cons_succ]
            refine wpAnyH_take (i := 9) (oi := { dst := some 55, op := Op.unOp UnOp.not 4 (Operand.tmp 54), type := 4, pos := "ref.go:182", after := #[{ on := 8, ground := Ground.data }], guard := none }) (v := .bool true) rfl (by kernel_rfl) (by kernel_rfl) (by kernel_rfl) (fun _ _ _ h => h) (Or.inl ⟨by kernel_rfl, by (intro w hSw; (try dsimp only at hSw); go_simp; try omega)⟩) hHeld ?_
            simp only [Act.put, List.setIfInBounds_toArray, List.set_cons_zero, List.set_cons_succ]
            refine wpAnyH_done (by kernel_rfl) ?_ _
            clear hHeld
            go_wp2
            go_returns
            refine ⟨D, c, ?_, .inl rfl, ?_, HR.out.2.1.drew⟩
            · rw [HR.out.1.1]; rfl
            · rw [HR.out.1.2]; exact HR.out.2.2.kept (Keeps.refl (fun _ => False) _).drew fun e => e
        · obtain rfl : N = j := by omega
          have hin : ∀ q ∈ ports, 0 ≤ q ∧ q + (rsz 3 n' d' : Int) ≤ xs.length := fun q hq => by
            obtain ⟨i, hi2⟩ := List.getElem?_of_mem hq
            have := hall i q (by rw [HALL.out.2.2.1]; exact (List.getElem?_eq_some_iff.1 hi2).1) hi2
            rw [← HALL.out.2.1, ← HALL.out.2.2.2.1]; exact this
          have HST : Hid (Calls _ _ _ _ _) := stage_any D M c n' d' p xs wr (HB9.out.kept hk fun e => e) HALL.out.2.2.2.1 HALL.out.2.2.2.2.1 HALL.out.2.2.2.2.2.1
          obtain ⟨E, hE⟩ : ∃ E, E = lkE false xs p 1 n' d' := ⟨_, rfl⟩
          obtain ⟨s, hs⟩ : ∃ s, s = rdA xs p 1 n' d' := ⟨_, rfl⟩
          rw [← hE, ← hs] at HST
          have HS1 : Hid (E = lkE false xs p 1 n' d' ∧ s = rdA xs p 1 n' d' ∧ (∀ q ∈ ports, 0 ≤ q ∧ q + (rsz 3 n' d' : Int) ≤ xs.length) ∧ Keeps (fun _ => False) w1 wr) := ⟨hE, hs, hin, hk⟩
          obtain ⟨w2, hw2⟩ : ∃ w2, w2 = wr := ⟨_, rfl⟩
          subst hw2
          clear hk hall hE hs hin hlt hj HFP HP3
          go_wp2_with fail
          refine HST.out.mono ?_
          intro e w3 hpp
          rcases hpp with ⟨hE, v, rfl, hms, hk⟩ | ⟨hE, rfl, hk⟩
          · obtain ⟨a, cc, hv, hcc, hlc⟩ := hms.form
            obtain ⟨SL, hSL⟩ : ∃ SL, SL = s.ms.length := ⟨_, rfl⟩
            rw [← hSL] at hv hlc
            subst hv
            obtain ⟨SF, hSF⟩ : ∃ F, F = s.f := ⟨_, rfl⟩
            obtain ⟨SX, hSX⟩ : ∃ X, X = s.lost.toNat := ⟨_, rfl⟩
            rw [← hSF, ← hSX]
            have hE0 : lkE false xs p 1 n' d' = 0 := by rw [← HS1.out.1]; exact hE
            obtain ⟨_, p', n9, d9, rfl, en, ed, LI⟩ := lkE_ok (.inl rfl) hE0
            obtain rfl : n' = n9 := by omega
            obtain rfl : d' = d9 := by omega
            rw [← HS1.out.2.1] at LI
            obtain ⟨T, hT⟩ : ∃ T, T = w3.heap.size := ⟨_, rfl⟩
            have hk4 : Keeps (fun _ => False) w3 (w3.alloc (.cells #[.int .i64 SF, .slice a SL cc, .int .u32 SX] 92)) := (Keeps.refl _ w3).alloc _
            have hT4 : Blk (w3.alloc (.cells #[.int .i64 SF, .slice a SL cc, .int .u32 SX] 92)) T [.int .i64 SF, .slice a SL cc, .int .u32 SX] 92 := by rw [hT]; exact Blk.new w3 _ 92
            obtain ⟨W4, hW4⟩ : ∃ W4, W4 = w3.alloc (.cells #[.int .i64 SF, .slice a SL cc, .int .u32 SX] 92) := ⟨_, rfl⟩
            rw [← hW4] at hk4 hT4
            have HM4 : Hid (Blk W4 T [.int .i64 SF, .slice a SL cc, .int .u32 SX] 92 ∧ Keeps (fun _ => False) w1 W4 ∧ Keeps (fun _ => False) w3 W4 ∧ MsR w2.heap.size w3 (.slice a SL cc) s.ms ∧ SL = s.ms.length ∧ Lies xs p' 1 n' d' s ∧ lkE false xs p' 1 n' d' = 0 ∧ W4 = w3.alloc (.cells #[.int .i64 SF, .slice a SL cc, .int .u32 SX] 92) ∧ T = w3.heap.size) :=
              ⟨hT4, (HS1.out.2.2.2.trans hk fun _ _ e => e).trans hk4 fun _ _ e => e, hk4, hms, hSL, LI, hE0, hW4, hT⟩
            have hS8 : (SL : Int) ≤ 8 := by have := LI.ok.m; omega
            clear hE hms hk hSL hSF hSX hE0 en ed LI hT hk4 hT4 hW4 HST hcc
            go_wp2
            rw [← HM4.out.2.2.2.2.2.2.2.2]
            go_loopw [15] (fun i wr => ∃ j : Nat, j ≤ N ∧ i = .int .i64 j ∧ Keeps (fun _ => False) W4 wr ∧ ∀ i q, i < j → ports[i]? = some q → lkE false xs q 3 n' d' = 0) (fun i _ => N - (intOf i).toNat)
            case atStart =>
              refine ⟨0, by omega, rfl, ?_, fun i q h => absurd h (by omega)⟩
              rw [HM4.out.2.2.2.2.2.2.2.1]; exact Keeps.refl _ _
            case round =>
              obtain ⟨j, hj, rfl, hk, hall⟩ := hrel
              have hk1 : Keeps (fun _ => False) w1 wr := HM4.out.2.1.trans hk fun _ _ e => e
              by_cases hlt : j < N
              · have hlt' : (j : Int) < N := by omega
                obtain ⟨gp, op, q, hq, rfl, hc⟩ := HC.out j hlt
                have hS := hc _ hk1
                have HPT : Hid (Calls _ _ _ _ _) := port_any D M c n' d' q xs wr (HB9.out.kept hk1 fun e => e) HALL.out.2.2.2.1 HALL.out.2.2.2.2.1 HALL.out.2.2.2.2.2.1
                obtain ⟨E3, hE3⟩ : ∃ E3, E3 = lkE false xs q 3 n' d' := ⟨_, rfl⟩
                obtain ⟨r, hr⟩ : ∃ r, r = rdA xs q 3 n' d' := ⟨_, rfl⟩
                rw [← hE3, ← hr] at HPT
                have HR : Hid (E3 = lkE false xs q 3 n' d' ∧ ports[j]? = some q ∧ Keeps (fun _ => False) W4 wr ∧ (∀ i q, i < j → ports[i]? = some q → lkE false xs q 3 n' d' = 0) ∧ Blk wr D (wvs xs) 52 ∧ Keeps (fun _ => False) w1 wr ∧ j < N) := ⟨hE3, hq, hk, hall, HB9.out.kept hk1 fun e => e, hk1, hlt⟩
                clear hk hall hq hc hk1 hE3 hr hlt hj
                obtain ⟨w5, hw5⟩ : ∃ w5, w5 = wr := ⟨_, rfl⟩
                subst hw5
                go_wp2_with fail
                refine HPT.out.mono ?_
                intro e w6 hpp
                rcases hpp with ⟨hE, v, rfl, hms, hk⟩ | ⟨hE, rfl, hk⟩
                · obtain ⟨ra, rc, hv, hcc, hlc⟩ := hms.form
                  obtain ⟨RL, hRL⟩ : ∃ RL, RL = r.ms.length := ⟨_, rfl⟩
                  rw [← hRL] at hv hlc
                  subst hv
                  obtain ⟨F, hF⟩ : ∃ F, F = r.f := ⟨_, rfl⟩
                  obtain ⟨X, hX⟩ : ∃ X, X = r.lost.toNat := ⟨_, rfl⟩
                  rw [← hF, ← hX]
                  have HR2 : Hid (Keeps (fun _ => False) W4 w6 ∧ ∀ i q, i < j + 1 → ports[i]? = some q → lkE false xs q 3 n' d' = 0) := ⟨HR.out.2.2.1.trans hk fun _ _ e => e, fun i q' h1 h2 => by
                    by_cases e : i = j
                    · subst e; rw [HR.out.2.1] at h2; cases h2; rw [← HR.out.1]; exact hE
                    · exact HR.out.2.2.2.1 i q' (by omega) h2⟩
                  clear hE hms hk hRL hF hX hS HPT hcc
                  go_wp2
                  go_roundw
                  case rel => exact ⟨j + 1, by have := HR.out.2.2.2.2.2.2; omega, by go_num, HR2.out.1.alloc _, HR2.out.2⟩
                  case measure => have := HR.out.2.2.2.2.2.2; simp [intOf]; omega
                · have hde := dl_po HALL.out.2.2.2.2.2.1 HALL.out.2.2.2.2.2.2.1 HALL.out.2.2.2.2.2.2.2.1 HS1.out.2.2.1 HM4.out.2.2.2.2.2.2.1 (List.mem_of_getElem? HR.out.2.1) (by rw [← HR.out.1]; exact hE)
                  have HQ : Hid (DE = E3 ∧ DX = xs ∧ Keeps (fun _ => False) w1 w6 ∧ Blk w6 D (wvs xs) 52) := ⟨by rw [HALL.out.2.2.2.2.2.2.2.2.1, hde, HR.out.1], by rw [HALL.out.2.2.2.2.2.2.2.2.2]; exact dlF_no hde (by rw [← HR.out.1]; exact hE), HR.out.2.2.2.2.2.1.trans hk fun _ _ e => e, HR.out.2.2.2.2.1.kept hk fun e => e⟩
                  have hE9 : (E3 != 0) = true := bne_iff_ne.2 hE
                  clear hE hk hde hS HPT
                  go_wp2
                  go_returns
                  refine ⟨D, c, ?_, .inl rfl, ?_, HQ.out.2.2.1.alloc _⟩
                  · rw [HQ.out.1]; rfl
                  · rw [HQ.out.2.1]; exact HQ.out.2.2.2.alloc _
              · obtain rfl : N = j := by omega
                have hl3 : ∀ q ∈ ports, lkE false xs q 3 n' d' = 0 := fun q hq => by
                  obtain ⟨i, hi2⟩ := List.getElem?_of_mem hq
                  exact hall i q (by rw [HALL.out.2.2.1]; exact (List.getElem?_eq_some_iff.1 hi2).1) hi2
                have hde := dl_ok HALL.out.2.2.2.2.2.1 HALL.out.2.2.2.2.2.2.1 HALL.out.2.2.2.2.2.2.2.1 HS1.out.2.2.1 HM4.out.2.2.2.2.2.2.1 hl3
                have hdx : DX = lay (dlY xs n' d' s.ms ports) p' (enc 1 n' d' ⟨0, [], 0⟩) := by
                  rw [HALL.out.2.2.2.2.2.2.2.2.2, dlF_yes hde, dlX_Y, ← HS1.out.2.1, enc_none]; rfl
                obtain ⟨f1, f2, f3, f4⟩ := (fit_ok HALL.out.2.2.2.2.2.1).2
                have hpr : ∀ q ∈ ports, (rdA xs q 3 n' d').Ok 3 n' d' ∧ ∃ q' : Nat, q = q' ∧ q' + rsz 3 n' d' ≤ M := fun q hq => by
                  obtain ⟨_, q', n9, d9, rfl, en, ed, LI⟩ := lkE_ok (.inr rfl) (hl3 q hq)
                  obtain rfl : n' = n9 := by omega
                  obtain rfl : d' = d9 := by omega
                  have := HS1.out.2.2.1 _ hq
                  exact ⟨LI.ok, q', rfl, by have := HALL.out.2.2.2.1; omega⟩
                have hdp : ∀ q ∈ ports, (dlP xs n' d' s.ms q).length = rsz 3 n' d' := fun q hq => by
                  have h1 := bringN_ok (hpr q hq).1 s.ms (fun m hm => HM4.out.2.2.2.2.2.1.ok.l m hm)
                  have h2 := enc_length (.inr rfl) h1
                  rw [rsz_nat]
                  exact h2
                have HY : Hid (∀ j, j ≤ N → (dlY xs n' d' s.ms (ports.take j)).length = M) := fun j _ => by
                  rw [dlY_length, ← HALL.out.2.2.2.1]
                  intro q hq
                  have hq := List.mem_of_mem_take hq
                  obtain ⟨_, q', rfl, h2⟩ := hpr q hq
                  rw [hdp _ hq]
                  have := HALL.out.2.2.2.1
                  simpa [← this] using h2
                have hB5 := HB9.out.kept hk1 fun e => e
                have hcp := rcopied_any (some ⟨D, 0, none⟩) c xs wr (Blk.segw hB5) (by have := HALL.out.2.2.2; omega)
                obtain ⟨G, hG⟩ : ∃ G, G = wr.heap.size := ⟨_, rfl⟩
                rw [← HALL.out.2.2.2.1, ← hG] at hcp
                have HCP : Hid (Calls _ _ _ _ _) := hcp
                have HG : Hid (G = wr.heap.size ∧ Keeps (fun _ => False) W4 wr ∧ DE = 0 ∧ DX = lay (dlY xs n' d' s.ms ports) p' (enc 1 n' d' ⟨0, [], 0⟩) ∧ (∀ q ∈ ports, (rdA xs q 3 n' d').Ok 3 n' d' ∧ ∃ q' : Nat, q = q' ∧ q' + rsz 3 n' d' ≤ M) ∧ (∀ q ∈ ports, lkE false xs q 3 n' d' = 0)) := ⟨hG, hk, by rw [HALL.out.2.2.2.2.2.2.2.2.1, hde], hdx, hpr, hl3⟩
                obtain ⟨w5, hw5⟩ : ∃ w5, w5 = wr := ⟨_, rfl⟩
                subst hw5
                clear hk hall hl3 hde hdx hpr hdp hB5 hcp hG hk1 hlt hj hlc
                have HWG : Hid (W4.heap.size ≤ G ∧ D < G) := ⟨by rw [HG.out.1]; exact HG.out.2.1.size, by
                  have h1 := HB9.out.lt
                  have h2 := (HM4.out.2.1.trans HG.out.2.1 fun _ _ e => e).size
                  have h3 := HG.out.1
                  omega⟩
                go_wp2_with fail
                refine HCP.out.mono ?_
                rintro e w6 ⟨rfl, hb6, hk6⟩
                have H6 : Hid (Blk w6 G (wvs (dlY xs n' d' s.ms (ports.take 0))) 52 ∧ Keeps (fun _ => False) W4 w6) := ⟨hb6, HG.out.2.1.trans hk6 fun _ _ e => e⟩
                clear hb6 hk6 HCP
                go_wp2
                go_loopw [19] (fun i wr => ∃ j : Nat, j ≤ N ∧ i = .int .i64 j ∧ Blk wr G (wvs (dlY xs n' d' s.ms (ports.take j))) 52 ∧ Keeps (fun _ => False) W4 wr) (fun i _ => N - (intOf i).toNat)
                case atStart => exact ⟨0, by omega, rfl, H6.out⟩
                case round =>
                  obtain ⟨j, hj, rfl, hb, hk⟩ := hrel
                  have hk1 : Keeps (fun _ => False) w1 wr := HM4.out.2.1.trans hk fun _ _ e => e
                  by_cases hlt : j < N
                  · have hlt' : (j : Int) < N := by omega
                    obtain ⟨gp, op, q, hq, rfl, hc⟩ := HC.out j hlt
                    have hS := hc _ hk1
                    have HPT : Hid (Calls _ _ _ _ _) := port_any D M c n' d' q xs wr (HB9.out.kept hk1 fun e => e) HALL.out.2.2.2.1 HALL.out.2.2.2.2.1 HALL.out.2.2.2.2.2.1
                    obtain ⟨hrok, q', rfl, hq2⟩ := HG.out.2.2.2.2.1 q (List.mem_of_getElem? hq)
                    rw [HG.out.2.2.2.2.2 _ (List.mem_of_getElem? hq)] at HPT
                    obtain ⟨r, hr⟩ : ∃ r, r = rdA xs q' 3 n' d' := ⟨_, rfl⟩
                    rw [← hr] at HPT hrok
                    have HR : Hid (r = rdA xs q' 3 n' d' ∧ ports[j]? = some (q' : Int) ∧ Keeps (fun _ => False) W4 wr ∧ Blk wr G (wvs (dlY xs n' d' s.ms (ports.take j))) 52 ∧ r.Ok 3 n' d' ∧ q' + rsz 3 n' d' ≤ M ∧ j < N ∧ ∀ wr, Keeps (fun _ => False) w1 wr → wr.cell? ⟨gp, op + j, none⟩ = some (.int .i64 q')) := ⟨hr, hq, hk, hb, hrok, hq2, hlt, hc⟩
                    clear hk hq hc hk1 hr hlt hj hb hrok hq2 H6
                    obtain ⟨w7, hw7⟩ : ∃ w7, w7 = wr := ⟨_, rfl⟩
                    subst hw7
                    go_wp2_with fail
                    refine HPT.out.mono ?_
                    intro e w8 hpp
                    rcases hpp with ⟨hE, v, rfl, hms, hk⟩ | ⟨hE, rfl, hk⟩
                    · obtain ⟨ra, rc, hv, hcc, hlc⟩ := hms.form
                      obtain ⟨RL, hRL⟩ : ∃ RL, RL = r.ms.length := ⟨_, rfl⟩
                      rw [← hRL] at hv hlc
                      subst hv
                      obtain ⟨F, hF⟩ : ∃ F, F = r.f := ⟨_, rfl⟩
                      obtain ⟨X, hX⟩ : ∃ X, X = r.lost.toNat := ⟨_, rfl⟩
                      rw [← hF, ← hX]
                      obtain ⟨R, hR⟩ : ∃ R, R = w8.heap.size := ⟨_, rfl⟩
                      have hkA : Keeps (fun _ => False) w8 (w8.alloc (.cells #[.int .i64 F, .slice ra RL rc, .int .u32 X] 92)) := (Keeps.refl _ w8).alloc _
                      have hRB : Blk (w8.alloc (.cells #[.int .i64 F, .slice ra RL rc, .int .u32 X] 92)) R [.int .i64 F, .slice ra RL rc, .int .u32 X] 92 := by rw [hR]; exact Blk.new w8 _ 92
                      have HI : Hid (Keeps (fun _ => False) w7 (w8.alloc (.cells #[.int .i64 F, .slice ra RL rc, .int .u32 X] 92)) ∧ Blk (w8.alloc (.cells #[.int .i64 F, .slice ra RL rc, .int .u32 X] 92)) R [.int .i64 F, .slice ra RL rc, .int .u32 X] 92 ∧ MsT w7.heap.size (· ≠ G) (w8.alloc (.cells #[.int .i64 F, .slice ra RL rc, .int .u32 X] 92)) (.slice ra RL rc) (bringN d' r (s.ms.take 0)).ms ∧ RL = (bringN d' r (s.ms.take 0)).ms.length ∧ X = (bringN d' r (s.ms.take 0)).lost.toNat) := by
                        have hGlt := HR.out.2.2.2.1.lt
                        exact ⟨hk.trans hkA fun _ _ e => e, hRB, (hms.toT fun B hB => (by omega : B ≠ G)).grown hkA, hRL, hX⟩
                      have HRR : Hid (w7.heap.size ≤ R ∧ F = r.f ∧ R = w8.heap.size) := ⟨by rw [hR]; exact hk.size, hF, hR⟩
                      clear hE hms hk hRL hF hX hS HPT hcc hR hkA hRB hlc
                      go_wp2
                      rw [← HRR.out.2.2]
                      go_loopw [22] (fun i wr => ∃ (k : Nat) (ra : Option Addr) (RL rc XL : Nat), k ≤ SL ∧ i = .int .i64 k ∧ Keeps (fun _ => False) w7 wr ∧ Blk wr R [.int .i64 F, .slice ra RL rc, .int .u32 XL] 92 ∧ MsT w7.heap.size (· ≠ G) wr (.slice ra RL rc) (bringN d' r (s.ms.take k)).ms ∧ RL = (bringN d' r (s.ms.take k)).ms.length ∧ XL = (bringN d' r (s.ms.take k)).lost.toNat) (fun i _ => SL - (intOf i).toNat)
                      case atStart => exact ⟨0, ra, RL, rc, X, by omega, rfl, HI.out⟩
                      case round =>
                        obtain ⟨k, ra, RL, rc, XL, hk0, rfl, hkx, hRx, hmx, hRL, hXL⟩ := hrel
                        have hk4 : Keeps (fun _ => False) W4 wr := HR.out.2.2.1.trans hkx fun _ _ e => e
                        have cT := (HM4.out.1.kept hk4 fun e => e).cell (i := 1) rfl
                        have c0 := hRx.cell (i := 0) rfl
                        have c1 := hRx.cell (i := 1) rfl
                        have c2 := hRx.cell (i := 2) rfl
                        have fz1 := hRx.frozen 1
                        have fz2 := hRx.frozen 2
                        by_cases hkl : k < SL
                        · have hkl' : (k : Int) < SL := by omega
                          obtain ⟨m, hmk⟩ : ∃ m, s.ms[k]? = some m := ⟨_, List.getElem?_eq_getElem (by have := HM4.out.2.2.2.2.1; omega)⟩
                          have hml := HM4.out.2.2.2.2.2.1.ok.l m (List.mem_of_getElem? hmk)
                          have hsn := bringN_snoc d' r s.ms k m hmk
                          obtain ⟨rk, hrk⟩ : ∃ rk, rk = bringN d' r (s.ms.take k) := ⟨_, rfl⟩
                          have hro : rk.Ok 3 n' d' := by rw [hrk]; exact bringN_ok HR.out.2.2.2.2.1 _ fun x hx => HM4.out.2.2.2.2.2.1.ok.l x (List.mem_of_mem_take hx)
                          rw [← hrk] at hmx hRL hXL hsn
                          have hRd := hro.m
                          by_cases hRLd : RL < d'
                          · have hb1 : rk.bring d' m = rk.push m := by unfold Rw.bring; rw [if_neg (by omega)]
                            rw [hb1] at hsn
                            have hRLd' : (RL : Int) < d' := by omega
                            obtain ⟨sg, so, B, rfl, hBl, hat⟩ := HM4.out.2.2.2.1.at2 hmk
                            have hk3 : Keeps (fun _ => False) w3 wr.drew := (HM4.out.2.2.1.trans hk4 fun _ _ e => e).drew
                            have kd : Keeps (fun _ => False) wr wr.drew := (Keeps.refl _ wr).drew
                            obtain ⟨e1, e2⟩ := hat _ hk3
                            obtain ⟨ml, hmll⟩ : ∃ ml, ml = m.length := ⟨_, rfl⟩
                            obtain ⟨v9, W9, hrun, hm9, hk9⟩ := msT_app (hmx.grown kd) hkx.drew.size m B e2 (show B ≠ G by have := HM4.out.2.2.1.size; have := HWG.out.1; omega) (by omega)
                            rw [← hmll] at hrun e1
                            obtain ⟨a9, c9, hv9, hc9, hl9⟩ := hm9.1.form
                            obtain ⟨L9, hL9⟩ : ∃ L9, L9 = (rk.ms ++ [m]).length := ⟨_, rfl⟩
                            rw [← hL9] at hv9 hl9
                            subst hv9
                            have hRW : ¬ some R = blkO (.slice ra RL rc) := msS_away hmx.1 hRx (by decide)
                            have hTd := (HM4.out.1.kept hk4.drew fun e => e)
                            have hTb : ¬ some T = blkO (.slice ra RL rc) := msS_away (hmx.grown kd).1 hTd (by decide)
                            have hlo9 : ∀ b, b < w7.heap.size → ¬ some b = blkO (.slice ra RL rc) := fun b hb e => by have := hmx.2 b e.symm; omega
                            have hW7 : Keeps (fun _ => False) w7 W9 := hkx.drew.trans hk9 fun b hb e => hlo9 b hb e
                            have hR9 := (hRx.kept kd fun e => e).kept hk9 hRW
                            have hRs := hR9.setCell 1 (.slice a9 L9 c9)
                            have ks : Keeps (· = R) W9 (W9.setCell ⟨R, 1, none⟩ (.slice a9 L9 c9)) := (Keeps.refl _ _).setCell _ _ fun _ => rfl
                            have hsgl : sg < w7.heap.size ∧ T < w7.heap.size := by
                              have q1 := World.block_lt_of_cell? _ _ (hat w3 (Keeps.refl _ _)).1
                              have q2 := HM4.out.2.2.1.size
                              have q3 := HR.out.2.2.1.size
                              have q4 := HM4.out.1.lt
                              simp at q1
                              omega
                            have hSall : ∀ W, Keeps (fun _ => False) w7 W → W.cell? ⟨T, 1, none⟩ = some (.slice (some ⟨sg, so, none⟩) SL cc) ∧ W.cell? ⟨sg, so + k, none⟩ = some (.slice (some ⟨B, 0, none⟩) ml ml) := fun W hW => by
                              have h1 := HR.out.2.2.1.trans hW fun _ _ e => e
                              refine ⟨(HM4.out.1.kept h1 fun e => e).cell (i := 1) rfl, ?_⟩
                              rw [hmll]
                              exact (hat W (HM4.out.2.2.1.trans h1 fun _ _ e => e)).1
                            have hks7 : Keeps (fun _ => False) w7 (W9.setCell ⟨R, 1, none⟩ (.slice a9 L9 c9)) := hW7.trans ks fun b hb e => by have := HRR.out.1; omega
                            have HSS : Hid ((wr.drew.cell? ⟨T, 1, none⟩ = some (.slice (some ⟨sg, so, none⟩) SL cc) ∧ wr.drew.cell? ⟨sg, so + k, none⟩ = some (.slice (some ⟨B, 0, none⟩) ml ml)) ∧
                                ((wr.drew.alloc (.cells #[.slice (some ⟨B, 0, none⟩) ml ml] 22)).cell? ⟨T, 1, none⟩ = some (.slice (some ⟨sg, so, none⟩) SL cc) ∧ (wr.drew.alloc (.cells #[.slice (some ⟨B, 0, none⟩) ml ml] 22)).cell? ⟨sg, so + k, none⟩ = some (.slice (some ⟨B, 0, none⟩) ml ml)) ∧
                                (W9.cell? ⟨T, 1, none⟩ = some (.slice (some ⟨sg, so, none⟩) SL cc) ∧ W9.cell? ⟨sg, so + k, none⟩ = some (.slice (some ⟨B, 0, none⟩) ml ml)) ∧
                                ((W9.setCell ⟨R, 1, none⟩ (.slice a9 L9 c9)).cell? ⟨T, 1, none⟩ = some (.slice (some ⟨sg, so, none⟩) SL cc) ∧ (W9.setCell ⟨R, 1, none⟩ (.slice a9 L9 c9)).cell? ⟨sg, so + k, none⟩ = some (.slice (some ⟨B, 0, none⟩) ml ml))) :=
                              ⟨hSall _ hkx.drew, hSall _ (hkx.drew.alloc _), hSall _ hW7, hSall _ hks7⟩
                            have hRA : (wr.drew.alloc (.cells #[.slice (some ⟨B, 0, none⟩) ml ml] 22)).cell? ⟨R, 1, none⟩ = some (.slice ra RL rc) := (hRx.kept (kd.alloc _) fun e => e).cell (i := 1) rfl
                            have hRD : wr.drew.cell? ⟨R, 1, none⟩ = some (.slice ra RL rc) := (hRx.kept kd fun e => e).cell (i := 1) rfl
                            have hW9c := hR9.cell (i := 1) rfl
                            have hW9f := hR9.frozen 1
                            have HE : Hid (Keeps (fun _ => False) w7 (W9.setCell ⟨R, 1, none⟩ (.slice a9 L9 c9)) ∧ Blk (W9.setCell ⟨R, 1, none⟩ (.slice a9 L9 c9)) R [.int .i64 F, .slice a9 L9 c9, .int .u32 XL] 92 ∧ MsT w7.heap.size (· ≠ G) (W9.setCell ⟨R, 1, none⟩ (.slice a9 L9 c9)) (.slice a9 L9 c9) (bringN d' r (s.ms.take (k + 1))).ms ∧ L9 = (bringN d' r (s.ms.take (k + 1))).ms.length ∧ XL = (bringN d' r (s.ms.take (k + 1))).lost.toNat) := by
                              rw [hsn]
                              exact ⟨hks7, hRs, hm9.keptR hR9 ks, hL9, hXL⟩
                            have HKL : Hid (k < SL) := hkl
                            have hL9b : (L9 : Int) ≤ 1001 := by rw [hL9, List.length_append]; simp; omega
                            clear hkx hRx hmx hRL hXL hk4 hmk hml hsn hrk hro hRd hb1 hBl hat hk3 kd e1 e2 hmll hm9 hk9 hc9 hL9 hRW hTd hTb hlo9 hW7 hR9 hRs ks hsgl hSall hks7 hk0 hkl hRLd
                            go_wp2
                            refine wp_region_held_drew (S := (fun w' => w'.cell? ⟨T, 1, none⟩ = some (.slice (some ⟨sg, so, none⟩) SL cc) ∧ w'.cell? ⟨sg, so + k, none⟩ = some (.slice (some ⟨B, 0, none⟩) ml ml))) Try.mixd HSS.out.1 (fun hHeld => ?_)
                            simp only [List.size_toArray, List.length_cons, List.length_nil, Nat.reduceAdd, Array.replicate_succ, Array.replicate_zero, List.push_toArray, List.append_toArray, List.nil_append, List.cons_append]
                            refine wpAnyH_take (i := 0) (oi := { dst := some 121, op := Op.fieldAddr 92 (Operand.tmp 20) 1, type := 0, pos := "ref.go:201", after := #[], guard := none }) (v := .pointer (some ⟨R, 1, none⟩)) rfl (by kernel_rfl) (by kernel_rfl) (by kernel_rfl) (fun _ _ _ h => h) (Or.inl ⟨by kernel_rfl, by (intro w hSw; (try dsimp only at hSw); obtain ⟨hSw1, hSw2⟩ := hSw; go_simp; try omega)⟩) hHeld ?_
                            simp only [Act.put, List.setIfInBounds_toArray, List.set_cons_zero, List.set_cons_succ]
                            refine wpAnyH_take (i := 2) (oi := { dst := some 123, op := Op.fieldAddr 92 (Operand.tmp 13) 1, type := 0, pos := "ref.go:201", after := #[], guard := none }) (v := .pointer (some ⟨T, 1, none⟩)) rfl (by kernel_rfl) (by kernel_rfl) (by kernel_rfl) (fun _ _ _ h => h) (Or.inl ⟨by kernel_rfl, by (intro w hSw; (try dsimp only at hSw); obtain ⟨hSw1, hSw2⟩ := hSw; go_simp; try omega)⟩) hHeld ?_
                            simp only [Act.put, List.setIfInBounds_toArray, List.set_cons_zero, List.set_cons_succ]
                            refine wpAnyH_take (i := 3) (oi := { dst := some 124, op := Op.load 43 (Operand.tmp 123), type := 43, pos := "ref.go:201", after := #[{ on := 2, ground := Ground.data }], guard := none }) (v := .slice (some ⟨sg, so, none⟩) SL cc) rfl (by kernel_rfl) (by kernel_rfl) (by kernel_rfl) (fun _ _ _ h => h) (Or.inl ⟨by kernel_rfl, by (intro w hSw; (try dsimp only at hSw); obtain ⟨hSw1, hSw2⟩ := hSw; go_simp; try omega)⟩) hHeld ?_
                            simp only [Act.put, List.setIfInBounds_toArray, List.set_cons_zero, List.set_cons_succ]
                            refine wpAnyH_take (i := 4) (oi := { dst := some 125, op := Op.move (Operand.tmp 22), type := 3, pos := "ref.go:201", after := #[], guard := none }) (v := .int .i64 (k : Int)) rfl (by kernel_rfl) (by kernel_rfl) (by kernel_rfl) (fun _ _ _ h => h) (Or.inl ⟨by kernel_rfl, by (intro w hSw; (try dsimp only at hSw); obtain ⟨hSw1, hSw2⟩ := hSw; go_simp; try omega)⟩) hHeld ?_
                            simp only [Act.put, List.setIfInBounds_toArray, List.set_cons_zero, List.set_cons_succ]
                            refine wpAnyH_take (i := 5) (oi := { dst := some 126, op := Op.indexAddr 43 (Operand.tmp 124) (Operand.tmp 125), type := 0, pos := "ref.go:201", after := #[{ on := 3, ground := Ground.data }, { on := 4, ground := Ground.data }], guard := none }) (v := .pointer (some ⟨sg, so + k, none⟩)) rfl (by kernel_rfl) (by kernel_rfl) (by kernel_rfl) (fun _ _ _ h => h) (Or.inl ⟨by kernel_rfl, by (intro w hSw; (try dsimp only at hSw); obtain ⟨hSw1, hSw2⟩ := hSw; go_simp; try omega)⟩) hHeld ?_
                            simp only [Act.put, List.setIfInBounds_toArray, List.set_cons_zero, List.set_cons_succ]
                            refine wpAnyH_take (i := 6) (oi := { dst := some 127, op := Op.load 22 (Operand.tmp 126), type := 22, pos := "ref.go:201", after := #[{ on := 5, ground := Ground.data }], guard := none }) (v := .slice (some ⟨B, 0, none⟩) ml ml) rfl (by kernel_rfl) (by kernel_rfl) (by kernel_rfl) (fun _ _ _ h => h) (Or.inl ⟨by kernel_rfl, by (intro w hSw; (try dsimp only at hSw); obtain ⟨hSw1, hSw2⟩ := hSw; go_simp; try omega)⟩) hHeld ?_
                            simp only [Act.put, List.setIfInBounds_toArray, List.set_cons_zero, List.set_cons_succ]
                            refine wpAnyH_ready (rs := [1, 7]) (by kernel_rfl) (by simp) ?_
                            refine AllReadyH.cons (o := { dst := some 122, op := Op.load 43 (Operand.tmp 121), type := 43, pos := "ref.go:201", after := #[{ on := 0, ground := Ground.data }], guard := none }) rfl (fun Kq hK => ?_) (AllReadyH.cons (o := { dst := some 128, op := Op.buildSlice 43 1 #[(0, Operand.tmp 127)], type := 43, pos := "ref.go:201", after := #[{ on := 6, ground := Ground.data }], guard := none }) rfl (fun Kq hK => ?_) AllReadyH.nil)
                            · go_simp
                              refine hK.out _ _ HSS.out.1 (fun hHeld => ?_)
                              simp only [Act.put, List.setIfInBounds_toArray, List.set_cons_zero, List.set_cons_succ]
                              refine wpAnyH_ready (rs := [7]) (by kernel_rfl) (by simp) ?_
                              refine AllReadyH.cons (o := { dst := some 128, op := Op.buildSlice 43 1 #[(0, Operand.tmp 127)], type := 43, pos := "ref.go:201", after := #[{ on := 6, ground := Ground.data }], guard := none }) rfl (fun Kq hK => ?_) AllReadyH.nil
                              go_simp
                              refine hK.out _ _ HSS.out.2.1 (fun hHeld => ?_)
                              simp only [Act.put, List.setIfInBounds_toArray, List.set_cons_zero, List.set_cons_succ]
                              refine wpAnyH_ready (rs := [8]) (by kernel_rfl) (by simp) ?_
                              refine AllReadyH.cons (o := { dst := some 129, op := Op.call { callee := Callee.builtin Builtin.append, args := #[Operand.tmp 122, Operand.tmp 128], argTypes := #[43, 43] }, type := 43, pos := "ref.go:201", after := #[{ on := 1, ground := Ground.data }, { on := 7, ground := Ground.data }], guard := none }) rfl (fun Kq hK => ?_) AllReadyH.nil
                              rw [if_pos (by kernel_rfl)]
                              refine opAppend_run _ _ 43 43 rfl (.slice ra RL rc) (.slice (some ⟨wr.heap.size, 0, none⟩) 1 1) (.slice a9 L9 c9) W9 rfl rfl (hrun _) ?_
                              refine hK.out _ _ HSS.out.2.2.1 (fun hHeld => ?_)
                              simp only [Act.put, List.setIfInBounds_toArray, List.set_cons_zero, List.set_cons_succ]
                              refine wpAnyH_take (i := 9) (oi := { dst := some 130, op := Op.fieldAddr 92 (Operand.tmp 20) 1, type := 0, pos := "ref.go:201", after := #[{ on := 0, ground := Ground.phase }, { on := 1, ground := Ground.phase }, { on := 2, ground := Ground.phase }, { on := 3, ground := Ground.phase }, { on := 4, ground := Ground.phase }, { on := 5, ground := Ground.phase }, { on := 6, ground := Ground.phase }, { on := 7, ground := Ground.phase }, { on := 8, ground := Ground.phase }], guard := none }) (v := .pointer (some ⟨R, 1, none⟩)) rfl (by kernel_rfl) (by kernel_rfl) (by kernel_rfl) (fun _ _ _ h => h) (Or.inl ⟨by kernel_rfl, by (intro w hSw; (try dsimp only at hSw); obtain ⟨hSw1, hSw2⟩ := hSw; go_simp; try omega)⟩) hHeld ?_
                              simp only [Act.put, List.setIfInBounds_toArray, List.set_cons_zero, List.set_cons_succ]
                              refine wpAnyH_ready (rs := [10]) (by kernel_rfl) (by simp) ?_
                              refine AllReadyH.cons (o := { dst := none, op := Op.store 43 (Operand.tmp 130) (Operand.tmp 129), type := 0, pos := "ref.go:201", after := #[{ on := 9, ground := Ground.data }, { on := 8, ground := Ground.data }, { on := 8, ground := Ground.chain }, { on := 0, ground := Ground.phase }, { on := 1, ground := Ground.phase }, { on := 2, ground := Ground.phase }, { on := 3, ground := Ground.phase }, { on := 4, ground := Ground.phase }, { on := 5, ground := Ground.phase }, { on := 6, ground := Ground.phase }, { on := 7, ground := Ground.phase }, { on := 8, ground := Ground.phase }], guard := none }) rfl (fun Kq hK => ?_) AllReadyH.nil
                              go_simp
                              refine hK.out _ _ HSS.out.2.2.2 (fun hHeld => ?_)
                              simp only [Act.put, List.setIfInBounds_toArray, List.set_cons_zero, List.set_cons_succ]
                              refine wpAnyH_done (by kernel_rfl) ?_ _
                              clear hHeld
                              go_wp2
                              go_roundw
                              case rel => exact ⟨k + 1, a9, L9, c9, XL, by have := HKL.out; omega, by go_num, HE.out⟩
                              case measure => have := HKL.out; simp [intOf]; omega
                            · go_simp
                              refine hK.out _ _ HSS.out.2.1 (fun hHeld => ?_)
                              simp only [Act.put, List.setIfInBounds_toArray, List.set_cons_zero, List.set_cons_succ]
                              refine wpAnyH_ready (rs := [1]) (by kernel_rfl) (by simp) ?_
                              refine AllReadyH.cons (o := { dst := some 122, op := Op.load 43 (Operand.tmp 121), type := 43, pos := "ref.go:201", after := #[{ on := 0, ground := Ground.data }], guard := none }) rfl (fun Kq hK => ?_) AllReadyH.nil
                              have hS6b : (wr.alloc (.cells #[.slice (some ⟨B, 0, none⟩) ml ml] 22)).cell? ⟨R, 1, none⟩ = some (.slice ra RL rc) := hRA
                              go_simp
                              refine hK.out _ _ HSS.out.2.1 (fun hHeld => ?_)
                              simp only [Act.put, List.setIfInBounds_toArray, List.set_cons_zero, List.set_cons_succ]
                              clear hS6b
                              refine wpAnyH_ready (rs := [8]) (by kernel_rfl) (by simp) ?_
                              refine AllReadyH.cons (o := { dst := some 129, op := Op.call { callee := Callee.builtin Builtin.append, args := #[Operand.tmp 122, Operand.tmp 128], argTypes := #[43, 43] }, type := 43, pos := "ref.go:201", after := #[{ on := 1, ground := Ground.data }, { on := 7, ground := Ground.data }], guard := none }) rfl (fun Kq hK => ?_) AllReadyH.nil
                              rw [if_pos (by kernel_rfl)]
                              refine opAppend_run _ _ 43 43 rfl (.slice ra RL rc) (.slice (some ⟨wr.heap.size, 0, none⟩) 1 1) (.slice a9 L9 c9) W9 rfl rfl (hrun _) ?_
                              refine hK.out _ _ HSS.out.2.2.1 (fun hHeld => ?_)
                              simp only [Act.put, List.setIfInBounds_toArray, List.set_cons_zero, List.set_cons_succ]
                              refine wpAnyH_take (i := 9) (oi := { dst := some 130, op := Op.fieldAddr 92 (Operand.tmp 20) 1, type := 0, pos := "ref.go:201", after := #[{ on := 0, ground := Ground.phase }, { on := 1, ground := Ground.phase }, { on := 2, ground := Ground.phase }, { on := 3, ground := Ground.phase }, { on := 4, ground := Ground.phase }, { on := 5, ground := Ground.phase }, { on := 6, ground := Ground.phase }, { on := 7, ground := Ground.phase }, { on := 8, ground := Ground.phase }], guard := none }) (v := .pointer (some ⟨R, 1, none⟩)) rfl (by kernel_rfl) (by kernel_rfl) (by kernel_rfl) (fun _ _ _ h => h) (Or.inl ⟨by kernel_rfl, by (intro w hSw; (try dsimp only at hSw); obtain ⟨hSw1, hSw2⟩ := hSw; go_simp; try omega)⟩) hHeld ?_
                              simp only [Act.put, List.setIfInBounds_toArray, List.set_cons_zero, List.set_cons_succ]
                              refine wpAnyH_ready (rs := [10]) (by kernel_rfl) (by simp) ?_
                              refine AllReadyH.cons (o := { dst := none, op := Op.store 43 (Operand.tmp 130) (Operand.tmp 129), type := 0, pos := "ref.go:201", after := #[{ on := 9, ground := Ground.data }, { on := 8, ground := Ground.data }, { on := 8, ground := Ground.chain }, { on := 0, ground := Ground.phase }, { on := 1, ground := Ground.phase }, { on := 2, ground := Ground.phase }, { on := 3, ground := Ground.phase }, { on := 4, ground := Ground.phase }, { on := 5, ground := Ground.phase }, { on := 6, ground := Ground.phase }, { on := 7, ground := Ground.phase }, { on := 8, ground := Ground.phase }], guard := none }) rfl (fun Kq hK => ?_) AllReadyH.nil
                              go_simp
                              refine hK.out _ _ HSS.out.2.2.2 (fun hHeld => ?_)
                              simp only [Act.put, List.setIfInBounds_toArray, List.set_cons_zero, List.set_cons_succ]
                              refine wpAnyH_done (by kernel_rfl) ?_ _
                              clear hHeld
                              go_wp2
                              go_roundw
                              case rel => exact ⟨k + 1, a9, L9, c9, XL, by have := HKL.out; omega, by go_num, HE.out⟩
                              case measure => have := HKL.out; simp [intOf]; omega
                          · have hb1 : rk.bring d' m = rk.lose := by unfold Rw.bring; rw [if_pos (by omega)]
                            rw [hb1] at hsn
                            have hRLd' : ¬ (RL : Int) < d' := by omega
                            have HKL : Hid (k < SL) := hkl
                            by_cases hx : XL < 4294967295
                            · have hx9 : ((XL : Int) != 4294967295) = true := bne_iff_ne.2 (by omega)
                              have HE : Hid (∀ z : Int, z = XL + 1 → Keeps (fun _ => False) w7 (wr.setCell ⟨R, 2, none⟩ (.int .u32 z)) ∧ Blk (wr.setCell ⟨R, 2, none⟩ (.int .u32 z)) R [.int .i64 F, .slice ra RL rc, .int .u32 ((XL + 1 : Nat) : Int)] 92 ∧ MsT w7.heap.size (· ≠ G) (wr.setCell ⟨R, 2, none⟩ (.int .u32 z)) (.slice ra RL rc) (bringN d' r (s.ms.take (k + 1))).ms ∧ RL = (bringN d' r (s.ms.take (k + 1))).ms.length ∧ XL + 1 = (bringN d' r (s.ms.take (k + 1))).lost.toNat) := fun z hz => by
                                rw [hsn]
                                have ks : Keeps (· = R) wr (wr.setCell ⟨R, 2, none⟩ (.int .u32 z)) := (Keeps.refl _ _).setCell _ _ fun _ => rfl
                                have hRs := hRx.setCell 2 (.int .u32 z)
                                rw [hz] at hRs ks ⊢
                                refine ⟨hkx.trans ks fun b hb e => (by have := HRR.out.1; omega), hRs, hmx.keptR hRx ks, hRL, ?_⟩
                                show XL + 1 = (if rk.lost.toNat < 4294967295 then rk.lost + 1 else rk.lost).toNat
                                rw [if_pos (by omega), UInt32.toNat_add, ← hXL]
                                show XL + 1 = (XL + 1) % 4294967296
                                omega
                              have hxw : ((XL : Int) + 1) % 4294967296 = (XL : Int) + 1 := by omega
                              clear hkx hRx hmx hRL hXL hk4 hmk hml hsn hrk hro hRd hb1 hk0 hkl hRLd hx
                              go_wp2
                              go_roundw
                              case rel => exact ⟨k + 1, ra, RL, rc, XL + 1, by have := HKL.out; omega, by go_num, HE.out _ (by first | rfl | assumption | omega)⟩
                              case measure => have := HKL.out; simp [intOf]; omega
                            · have hx9 : ((XL : Int) != 4294967295) = false := bne_eq_false_iff_eq.2 (by have := rk.lost.toNat_lt; omega)
                              have HE : Hid (Keeps (fun _ => False) w7 wr ∧ Blk wr R [.int .i64 F, .slice ra RL rc, .int .u32 XL] 92 ∧ MsT w7.heap.size (· ≠ G) wr (.slice ra RL rc) (bringN d' r (s.ms.take (k + 1))).ms ∧ RL = (bringN d' r (s.ms.take (k + 1))).ms.length ∧ XL = (bringN d' r (s.ms.take (k + 1))).lost.toNat) := by
                                rw [hsn]
                                refine ⟨hkx, hRx, hmx, hRL, ?_⟩
                                show XL = (if rk.lost.toNat < 4294967295 then rk.lost + 1 else rk.lost).toNat
                                rw [if_neg (by omega)]; exact hXL
                              clear hkx hRx hmx hRL hXL hk4 hmk hml hsn hrk hro hRd hb1 hk0 hkl hRLd hx
                              go_wp2
                              go_roundw
                              case rel => exact ⟨k + 1, ra, RL, rc, XL, by have := HKL.out; omega, by go_num, HE.out⟩
                              case measure => have := HKL.out; simp [intOf]; omega
                        · obtain rfl : SL = k := by omega
                          rw [List.take_of_length_le (by have := HM4.out.2.2.2.2.1; omega)] at hmx hRL hXL
                          obtain ⟨rk, hrk⟩ : ∃ rk, rk = bringN d' r s.ms := ⟨_, rfl⟩
                          have hro : rk.Ok 3 n' d' := by rw [hrk]; exact bringN_ok HR.out.2.2.2.2.1 _ fun x hx => HM4.out.2.2.2.2.2.1.ok.l x hx
                          have hrf : rk.f = F := by rw [hrk, bringN_f]; exact HRR.out.2.1.symm
                          rw [← hrk] at hmx hRL hXL
                          have kd : Keeps (fun _ => False) wr wr.drew := (Keeps.refl _ wr).drew
                          obtain ⟨_, f1, f2, f3, f4⟩ := fit_ok HALL.out.2.2.2.2.2.1
                          have hGw : Blk wr.drew G (wvs (dlY xs n' d' s.ms (ports.take j))) 52 := HR.out.2.2.2.1.kept hkx.drew fun e => e
                          have HLP : Hid (Calls _ _ _ _ _) := layPort_any G M M q' n' d' F XL (dlY xs n' d' s.ms (ports.take j)) (.slice ra RL rc) rk wr.drew hXL (.inl hrf.symm) (fun h => hro.z (by rw [h])) (by rw [← hrf]; exact hro.f) hGw (HY.out j (by have := HR.out.2.2.2.2.2.2.1; omega)).symm HALL.out.2.2.2.2.1 (hmx.grown kd).1 hro.le (by omega) (by omega) HR.out.2.2.2.2.2.1 hro.m
                          have hGR : G < w7.heap.size ∧ gp < w7.heap.size := by
                            have q1 := World.block_lt_of_cell? _ _ (HR.out.2.2.2.2.2.2.2 w1 (Keeps.refl _ _))
                            have q2 := (HM4.out.2.1.trans HR.out.2.2.1 fun _ _ e => e).size
                            simp at q1
                            exact ⟨HR.out.2.2.2.1.lt, by omega⟩
                          have hgG : gp ≠ G := by
                            have q1 := World.block_lt_of_cell? _ _ (HR.out.2.2.2.2.2.2.2 w1 (Keeps.refl _ _))
                            have q2 := HM4.out.2.1.size
                            have q3 := HWG.out.1
                            simp at q1
                            omega
                          have hRd := hRx.kept kd fun e => e
                          have hRG : R ≠ G := by have := HRR.out.1; omega
                          have hcd : wr.drew.cell? ⟨gp, op + j, none⟩ = some (.int .i64 q') := HR.out.2.2.2.2.2.2.2 _ ((HM4.out.2.1.trans hk4 fun _ _ e => e).drew)
                          have HS3 : Hid (wr.drew.cell? ⟨gp, op + j, none⟩ = some (.int .i64 q') ∧ wr.drew.cell? ⟨R, 0, none⟩ = some (.int .i64 F) ∧ wr.drew.cell? ⟨R, 1, none⟩ = some (.slice ra RL rc) ∧ wr.drew.cell? ⟨R, 2, none⟩ = some (.int .u32 XL)) := ⟨hcd, hRd.cell (i := 0) rfl, hRd.cell (i := 1) rfl, hRd.cell (i := 2) rfl⟩
                          have HS5 : Hid (∀ w5, Keeps (· = G) wr.drew w5 → w5.cell? ⟨gp, op + j, none⟩ = some (.int .i64 q') ∧ w5.cell? ⟨R, 0, none⟩ = some (.int .i64 F) ∧ w5.cell? ⟨R, 1, none⟩ = some (.slice ra RL rc) ∧ w5.cell? ⟨R, 2, none⟩ = some (.int .u32 XL)) := fun w5 h5 => by
                            have hR5 := hRd.kept h5 hRG
                            exact ⟨cell_kept hcd h5 hgG, hR5.cell (i := 0) rfl, hR5.cell (i := 1) rfl, hR5.cell (i := 2) rfl⟩
                          have HEN : Hid (∀ w5, Blk w5 G (wvs (lay (dlY xs n' d' s.ms (ports.take j)) q' (enc 3 n' d' rk))) 52 → Keeps (· = G) wr.drew w5 → Blk w5 G (wvs (dlY xs n' d' s.ms (ports.take (j + 1)))) 52 ∧ Keeps (fun _ => False) W4 w5) := fun w5 hb5 h5 => by
                            refine ⟨?_, hk4.drew.trans h5 fun b hb e => (by have := HWG.out.1; omega)⟩
                            rw [dlY_snoc _ _ _ _ _ _ _ HR.out.2.1]
                            have : dlP xs n' d' s.ms (q' : Int) = enc 3 n' d' rk := by rw [hrk, HR.out.1]; rfl
                            rw [this]
                            exact hb5
                          have HJN : Hid (j < N) := HR.out.2.2.2.2.2.2.1
                          have cT' := cT
                          clear hkx hRx hmx hRL hXL hk4 hrk hro hrf kd f1 f2 f3 f4 hGw hGR hgG hRd hRG hcd hk0 hkl
                          go_wp2
                          refine wp_region_held_drew (S := (fun w' => w'.cell? ⟨gp, op + j, none⟩ = some (.int .i64 q') ∧ w'.cell? ⟨R, 0, none⟩ = some (.int .i64 F) ∧ w'.cell? ⟨R, 1, none⟩ = some (.slice ra RL rc) ∧ w'.cell? ⟨R, 2, none⟩ = some (.int .u32 XL))) Try.mixd HS3.out (fun hHeld => ?_)
                          simp only [List.size_toArray, List.length_cons, List.length_nil, Nat.reduceAdd, Array.replicate_succ, Array.replicate_zero, List.push_toArray, List.append_toArray, List.nil_append, List.cons_append]
                          refine wpAnyH_take (i := 0) (oi := { dst := some 138, op := Op.move (Operand.tmp 18), type := 22, pos := "ref.go:206", after := #[], guard := none }) (v := .slice (some ⟨G, 0, none⟩) M M) rfl (by kernel_rfl) (by kernel_rfl) (by kernel_rfl) (fun _ _ _ h => h) (Or.inl ⟨by kernel_rfl, by (intro w hSw; (try dsimp only at hSw); go_simp; try omega)⟩) hHeld ?_
                          simp only [Act.put, List.setIfInBounds_toArray, List.set_cons_zero, List.set_cons_succ]
                          refine wpAnyH_take (i := 1) (oi := { dst := some 139, op := Op.move (Operand.tmp 4), type := 33, pos := "ref.go:206", after := #[], guard := none }) (v := .slice (some ⟨gp, op, none⟩) N pc) rfl (by kernel_rfl) (by kernel_rfl) (by kernel_rfl) (fun _ _ _ h => h) (Or.inl ⟨by kernel_rfl, by (intro w hSw; (try dsimp only at hSw); go_simp; try omega)⟩) hHeld ?_
                          simp only [Act.put, List.setIfInBounds_toArray, List.set_cons_zero, List.set_cons_succ]
                          refine wpAnyH_take (i := 2) (oi := { dst := some 140, op := Op.move (Operand.tmp 19), type := 3, pos := "ref.go:206", after := #[], guard := none }) (v := .int .i64 (j : Int)) rfl (by kernel_rfl) (by kernel_rfl) (by kernel_rfl) (fun _ _ _ h => h) (Or.inl ⟨by kernel_rfl, by (intro w hSw; (try dsimp only at hSw); go_simp; try omega)⟩) hHeld ?_
                          simp only [Act.put, List.setIfInBounds_toArray, List.set_cons_zero, List.set_cons_succ]
                          refine wpAnyH_take (i := 3) (oi := { dst := some 141, op := Op.indexAddr 33 (Operand.tmp 139) (Operand.tmp 140), type := 0, pos := "ref.go:206", after := #[{ on := 1, ground := Ground.data }, { on := 2, ground := Ground.data }], guard := none }) (v := .pointer (some ⟨gp, op + j, none⟩)) rfl (by kernel_rfl) (by kernel_rfl) (by kernel_rfl) (fun _ _ _ h => h) (Or.inl ⟨by kernel_rfl, by (intro w hSw; (try dsimp only at hSw); go_simp; try omega)⟩) hHeld ?_
                          simp only [Act.put, List.setIfInBounds_toArray, List.set_cons_zero, List.set_cons_succ]
                          refine wpAnyH_take (i := 4) (oi := { dst := some 142, op := Op.load 3 (Operand.tmp 141), type := 3, pos := "ref.go:206", after := #[{ on := 3, ground := Ground.data }], guard := none }) (v := .int .i64 q') rfl (by kernel_rfl) (by kernel_rfl) (by kernel_rfl) (fun _ _ _ h => h) (Or.inl ⟨by kernel_rfl, by (intro w hSw; (try dsimp only at hSw); obtain ⟨hSw1, hSw2, hSw3, hSw4⟩ := hSw; go_simp)⟩) hHeld ?_
                          simp only [Act.put, List.setIfInBounds_toArray, List.set_cons_zero, List.set_cons_succ]
                          refine wpAnyH_take (i := 5) (oi := { dst := some 143, op := Op.move (Operand.tmp 2), type := 3, pos := "ref.go:206", after := #[], guard := none }) (v := .int .i64 n') rfl (by kernel_rfl) (by kernel_rfl) (by kernel_rfl) (fun _ _ _ h => h) (Or.inl ⟨by kernel_rfl, by (intro w hSw; (try dsimp only at hSw); go_simp; try omega)⟩) hHeld ?_
                          simp only [Act.put, List.setIfInBounds_toArray, List.set_cons_zero, List.set_cons_succ]
                          refine wpAnyH_take (i := 6) (oi := { dst := some 144, op := Op.move (Operand.tmp 3), type := 3, pos := "ref.go:206", after := #[], guard := none }) (v := .int .i64 d') rfl (by kernel_rfl) (by kernel_rfl) (by kernel_rfl) (fun _ _ _ h => h) (Or.inl ⟨by kernel_rfl, by (intro w hSw; (try dsimp only at hSw); go_simp; try omega)⟩) hHeld ?_
                          simp only [Act.put, List.setIfInBounds_toArray, List.set_cons_zero, List.set_cons_succ]
                          refine wpAnyH_take (i := 7) (oi := { dst := some 145, op := Op.load 92 (Operand.tmp 20), type := 92, pos := "ref.go:206", after := #[], guard := none }) (v := .agg #[.int .i64 F, .slice ra RL rc, .int .u32 XL]) rfl (by kernel_rfl) (by kernel_rfl) (by kernel_rfl) (fun _ _ _ h => h) (Or.inl ⟨by kernel_rfl, by (intro w hSw; (try dsimp only at hSw); obtain ⟨hSw1, hSw2, hSw3, hSw4⟩ := hSw; go_simp)⟩) hHeld ?_
                          simp only [Act.put, List.setIfInBounds_toArray, List.set_cons_zero, List.set_cons_succ]
                          refine wpAnyH_ready (rs := [8]) (by kernel_rfl) (by simp) ?_
                          refine AllReadyH.cons (o := { dst := some 146, op := Op.call { callee := Callee.value (Operand.func 59), args := #[Operand.tmp 138, Operand.tmp 142, Operand.tmp 143, Operand.tmp 144, Operand.tmp 145], argTypes := #[22, 3, 3, 3, 92] }, type := 0, pos := "ref.go:206", after := #[{ on := 0, ground := Ground.data }, { on := 4, ground := Ground.data }, { on := 5, ground := Ground.data }, { on := 6, ground := Ground.data }, { on := 7, ground := Ground.data }], guard := none }) rfl (fun Kq hK => ?_) AllReadyH.nil
                          go_simp
                          refine HLP.out.mono ?_
                          rintro e w5 ⟨rfl, hb5, hk5⟩
                          refine hK.out _ _ (HS5.out w5 hk5) (fun hHeld => ?_)
                          simp only [Act.put, List.setIfInBounds_toArray, List.set_cons_zero, List.set_cons_succ]
                          refine wpAnyH_done (by kernel_rfl) ?_ _
                          clear hHeld
                          have HF := HEN.out w5 hb5 hk5
                          have HF : Hid (Blk w5 G (wvs (dlY xs n' d' s.ms (ports.take (j + 1)))) 52 ∧ Keeps (fun _ => False) W4 w5) := HF
                          clear hb5 hk5
                          go_wp2
                          go_roundw
                          case rel => exact ⟨j + 1, by have := HJN.out; omega, by go_num, HF.out⟩
                          case measure => have := HJN.out; simp [intOf]; omega
                    · exact absurd rfl hE
                  · obtain rfl : N = j := by omega
                    rw [List.take_of_length_le (by have := HALL.out.2.2.1; omega)] at hb
                    have HLS : Hid (Calls _ _ _ _ _) := layStage_any G M M p' n' d' 0 0 (dlY xs n' d' s.ms ports) (.slice none 0 0) ⟨0, [], 0⟩ wr hb (by have := HY.out N (by omega); rw [List.take_of_length_le (by have := HALL.out.2.2.1; omega)] at this; exact this.symm) HALL.out.2.2.2.2.1 (MsS.none _ _) (fun m hm => by cases hm) (by have := fit_ok HALL.out.2.2.2.2.2.1; omega) (by have := fit_ok HALL.out.2.2.2.2.2.1; omega) (by have := HALL.out.2.2.2.2.2.2.2.1; have := HALL.out.2.2.2.1; omega) (Nat.zero_le _) rfl
                    have HK : Hid (Keeps (fun _ => False) w1 wr) := hk1
                    clear hb hk hk1 hlt H6
                    go_wp2_with fail
                    refine HLS.out.mono ?_
                    rintro e w9 ⟨rfl, hb9, hk9⟩
                    have HF : Hid (Blk w9 G (wvs DX) 52 ∧ Keeps (fun _ => False) w1 w9) := by
                      rw [HG.out.2.2.2.1]
                      refine ⟨hb9, HK.out.trans hk9 fun b hb e => ?_⟩
                      have h1 := HWG.out.1
                      have h2 := HM4.out.2.1.size
                      omega
                    clear hb9 hk9 HLS HK
                    go_wp2
                    go_returns
                    refine ⟨G, M, ?_, .inr (by have h1 := HWG.out.1; have h2 := HM4.out.2.1.size; omega), HF.out⟩
                    rw [HG.out.2.2.1]; rfl
          · have hde := dl_st HALL.out.2.2.2.2.2.1 HALL.out.2.2.2.2.2.2.1 HALL.out.2.2.2.2.2.2.2.1 HS1.out.2.2.1 (by rw [← HS1.out.1]; exact hE)
            have HQ : Hid (DE = E ∧ DX = xs ∧ Keeps (fun _ => False) w1 w3 ∧ Blk w3 D (wvs xs) 52) := ⟨by rw [HALL.out.2.2.2.2.2.2.2.2.1, hde, HS1.out.1], by rw [HALL.out.2.2.2.2.2.2.2.2.2]; exact dlF_no hde (by rw [← HS1.out.1]; exact hE), HS1.out.2.2.2.trans hk fun _ _ e => e, (HB9.out.kept HS1.out.2.2.2 fun e => e).kept hk fun e => e⟩
            have hE9 : (E != 0) = true := bne_iff_ne.2 hE
            clear hE hk hde HST
            go_wp2
            go_returns
            refine ⟨D, c, ?_, .inl rfl, ?_, HQ.out.2.2.1.alloc _⟩
            · rw [HQ.out.1]; rfl
            · rw [HQ.out.2.1]; exact HQ.out.2.2.2.alloc _
    · rw [decide_eq_false hi] at HFS
      have HFS : Hid (Calls _ _ _ _ _) := HFS
      have hE := dl_in (xs := xs) (p := p) hf hlen' (by rw [← hR1, ← hM]; exact hi)
      have hX := dlF_no hE (by decide)
      rw [hE, hX]
      clear hbn hf hB hM hm hs hN hE hX hR1 hR3 hlen' hi hz1
      go_enter Try.func32, Try.ntmps32
      go_wp2_with fail
      refine HBn.out.mono ?_
      rintro e w1 ⟨rfl, rfl⟩
      go_wp2_with fail
      refine HSW.out.mono ?_
      rintro e w2 ⟨rfl, hw2⟩
      obtain rfl := hw2.symm
      go_wp2_with fail
      refine HFS.out.mono ?_
      rintro e w2 ⟨rfl, hw2⟩
      obtain rfl := hw2.symm
      go_wp2
      go_returns
      exact ⟨D, c, rfl, .inl rfl, HB9.out, Keeps.refl _ _⟩
  · rw [bnd_no hf] at hbn
    have HBn : Hid (Calls _ _ _ _ _) := hbn
    have hE : dlE false xs p n d ports = 1 := by unfold dlE; rw [if_pos hf, fitE_one hf]
    rw [hE, show dlF false xs p n d ports = xs by unfold dlF; rw [if_neg (by rw [hE]; decide)]]
    clear hbn hf hB hM hm hs hE hN
    go_enter Try.func32, Try.ntmps32
    go_wp2_with fail
    refine HBn.out.mono ?_
    rintro e w1 ⟨rfl, rfl⟩
    go_wp2
    go_returns
    exact ⟨D, c, rfl, .inl rfl, HB9.out, Keeps.refl _ _⟩

end Go.Proofs.Ytekijhhpldnmnaa
