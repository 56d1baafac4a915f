import Derived.Test.YtljhdijledclhaaRd
namespace Go.Proofs.Ytljhdijledclhaa
open Go.RowKit
set_option linter.unusedVariables false
set_option linter.unusedSimpArgs false

/-- The places below s at which two lists differ. -/
def dfi (xs ys : List UInt32) (s : Nat) : List Int := ((List.range s).filter fun p => decide (Unl xs ys p)).map fun p : Nat => (p : Int)
theorem dfi_zero (xs ys : List UInt32) : dfi xs ys 0 = [] := rfl
theorem dfi_yes {xs ys : List UInt32} {s : Nat} (h : Unl xs ys s) : dfi xs ys (s + 1) = dfi xs ys s ++ [(s : Int)] := by
  unfold dfi
  rw [List.range_succ, List.filter_append, List.map_append]
  simp [h]
theorem dfi_no {xs ys : List UInt32} {s : Nat} (h : ¬ Unl xs ys s) : dfi xs ys (s + 1) = dfi xs ys s := by
  unfold dfi
  rw [List.range_succ, List.filter_append, List.map_append]
  simp [h]
theorem dfi_len (xs ys : List UInt32) (s : Nat) : (dfi xs ys s).length ≤ s := by
  unfold dfi
  rw [List.length_map]
  exact Nat.le_trans (List.length_filter_le _ _) (by simp)

theorem ivs_append (a b : List Int) : ivs (a ++ b) = ivs a ++ ivs b := by simp [ivs]

/-- A row of ints of one's own. -/
structure OwnI (w wr : World) (v : Value) (ks : List Int) : Prop where
  own : wr.ownsRow 0 3 1 v ks.length (ivs ks)
  new : ∀ k, v.ownBlock = some k → w.heap.size ≤ k
  k : Keeps (fun _ => False) w wr

theorem OwnI.nil (w : World) : OwnI w w (.slice none 0 0) [] := ⟨⟨by simp [ivs], .inl ⟨rfl, rfl⟩⟩, (fun k e => by cases e), Keeps.refl _ _⟩

theorem OwnI.step {w wr : World} {v : Value} {ks : List Int} (h : OwnI w wr v ks) (hl : ks.length ≤ 4294967296) (x : Int) :
    ∃ v' W', (∀ ty, (Builtin.append_ #[62, 62] ty #[v, .slice (some ⟨wr.heap.size, 0, none⟩) 1 1]).run Try.prog (wr.alloc (.cells #[.int .i64 x] 3)) = .ok v' W') ∧ OwnI w W' v' (ks ++ [x]) := by
  obtain ⟨v', W', hr, hown, hg⟩ := append_int x v ks.length _ h.own hl
  refine ⟨v', W', hr, ?_, ?_, ?_⟩
  · rw [List.length_append, ivs_append]; exact hown
  · intro k hk
    rcases hg.fresh with e | ⟨q, e, hq⟩
    · exact h.new k (by rw [← e]; exact hk)
    · rw [e] at hk; cases hk; have := h.k.size; omega
  · exact h.k.trans hg.keeps fun b hb e => by have := h.new b e.symm; omega
theorem OwnI.any {w wr : World} {v : Value} {ks : List Int} (h : OwnI w wr v ks) : ∃ a c, v = .slice a ks.length c := by
  obtain ⟨a, c, h1, -⟩ := owns_slice h.own
  exact ⟨a, c, h1⟩
theorem OwnI.quiet {w wr wr' : World} {v : Value} {ks : List Int} (h : OwnI w wr v ks) (hK : Keeps (fun _ => False) wr wr') : OwnI w wr' v ks :=
  ⟨owns_kept h.own hK fun _ _ e => e, h.new, h.k.trans hK fun _ _ e => e⟩

/-- The walk of a round in which the place is told. -/
theorem OwnI.yes {w wr : World} {v : Value} {xs ys : List UInt32} {s : Nat} (h : OwnI w wr v (dfi xs ys s)) (hs : s ≤ 16384) (hu : Unl xs ys s) :
    ∃ v' W', (∀ ty, (Builtin.append_ #[62, 62] ty #[v, .slice (some ⟨wr.heap.size, 0, none⟩) 1 1]).run Try.prog (wr.alloc (.cells #[.int .i64 (s : Int)] 3)) = .ok v' W') ∧ OwnI w W' v' (dfi xs ys (s + 1)) := by
  rw [dfi_yes hu]
  exact h.step (by have := dfi_len xs ys s; omega) _

set_option maxRecDepth 20000 in
set_option maxHeartbeats 4000000 in
theorem rdiffer_any (b g c h : Nat) (xs ys : List UInt32) (w : World) (hx : Rm w b g xs) (hy : Rm w c h ys) :
    Calls Try.prog 35 #[.pointer (some ⟨b, 0, none⟩), .pointer (some ⟨c, 0, none⟩)] w fun e w' => ∃ a k, e = .returned (.slice a (dfi xs ys (max xs.length ys.length)).length k) ∧ OwnI w w' (.slice a (dfi xs ys (max xs.length ys.length)).length k) (dfi xs ys (max xs.length ys.length)) := by
  have HP : Hid (Rm w b g xs ∧ Rm w c h ys) := ⟨hx, hy⟩
  have hs1 := hx.small
  have hs2 := hy.small
  obtain ⟨L, hL⟩ : ∃ L, L = xs.length := ⟨_, rfl⟩
  obtain ⟨M, hM⟩ : ∃ M, M = ys.length := ⟨_, rfl⟩
  have HL : Hid (L = xs.length ∧ M = ys.length) := ⟨hL, hM⟩
  rw [← hL, ← hM]
  have b1 : (L : Int) ≤ 16384 := by omega
  have b2 : (M : Int) ≤ 16384 := by omega
  clear hx hy hs1 hs2 hL hM
  go_enter Try.func35, Try.ntmps35
  go_wp2
  go_loopw [5, 6] (fun v i wr => ∃ j : Nat, j ≤ max L M ∧ i = .int .i64 j ∧ OwnI w wr v (dfi xs ys j)) (fun _ i _ => max L M - (intOf i).toNat)
  case atStart => exact ⟨0, by omega, rfl, OwnI.nil w⟩
  case round =>
    obtain ⟨j, hj, rfl, hO⟩ := hrel
    have hRx := HP.out.1.grown hO.k
    have hRy := HP.out.2.grown hO.k
    obtain ⟨cx, -, hbx⟩ := hRx.blk
    obtain ⟨cy, -, hby⟩ := hRy.blk
    have c1 := hbx.cell (i := 0) rfl
    have c2 := hby.cell (i := 0) rfl
    rw [← HL.out.1] at c1
    rw [← HL.out.2] at c2
    have HM : Hid (j ≤ max L M) := hj
    by_cases h1 : j < L
    · have h1' : (j : Int) < L := by omega
      have h1n : ¬ ((L : Int) ≤ (j : Int)) := by omega
      by_cases h2 : j < M
      · have h2' : (j : Int) < M := by omega
        have h2n : ¬ ((M : Int) ≤ (j : Int)) := by omega
        have hjx : j < xs.length := by rw [← HL.out.1]; exact h1
        have hjy : j < ys.length := by rw [← HL.out.2]; exact h2
        have d1 := hRx.cell j hjx
        have d2 := hRy.cell j hjy
        by_cases he : xs[j]'hjx = ys[j]'hjy
        · have hno : ¬ Unl xs ys j := fun h => by
            rcases h with h | h | h
            · omega
            · omega
            · exact h (by rw [List.getElem?_eq_getElem hjx, List.getElem?_eq_getElem hjy, he])
          rw [← he] at d2
          obtain ⟨u, hu⟩ : ∃ u : Nat, u = (xs[j]'hjx).toNat := ⟨_, rfl⟩
          rw [← hu] at d1 d2
          have hO' := hO
          rw [← dfi_no hno] at hO'
          have HO' : Hid (OwnI w wr _ (dfi xs ys (j + 1))) := hO'
          obtain ⟨av, cv, rfl⟩ := hO.any
          clear hO hO' hRx hRy hbx hby hjx hjy he hno hu hj
          go_wp2
          go_quiet (fail)
          go_wp2
          go_roundw
          case rel => exact ⟨j + 1, by have := HM.out; omega, by go_num, HO'.out.quiet ((Keeps.refl _ _).drewN _)⟩
          case measure => have := HM.out; simp [intOf]; omega
        · have hyes : Unl xs ys j := .inr (.inr fun e => he (by
            rw [List.getElem?_eq_getElem hjx, List.getElem?_eq_getElem hjy] at e
            exact Option.some.inj e))
          have hne : ((((xs[j]'hjx).toNat : Int)) != (((ys[j]'hjy).toNat : Int))) = true := by
            rw [bne_iff_ne]
            intro e
            exact he (UInt32.toNat_inj.1 (by omega))
          obtain ⟨u, hu⟩ : ∃ u : Nat, u = (xs[j]'hjx).toNat := ⟨_, rfl⟩
          obtain ⟨u2, hu2⟩ : ∃ u : Nat, u = (ys[j]'hjy).toNat := ⟨_, rfl⟩
          rw [← hu] at d1 hne
          rw [← hu2] at d2 hne
          have HY : Hid (∀ wr', Keeps (fun _ => False) wr wr' → ∃ v' W', (∀ ty, (Builtin.append_ #[62, 62] ty #[_, .slice (some ⟨wr'.heap.size, 0, none⟩) 1 1]).run Try.prog (wr'.alloc (.cells #[.int .i64 (j : Int)] 3)) = .ok v' W') ∧ OwnI w W' v' (dfi xs ys (j + 1))) :=
            fun wr' hK => (hO.quiet hK).yes (by omega) hyes
          obtain ⟨av, cv, rfl⟩ := hO.any
          obtain ⟨nv, hnv⟩ : ∃ n, n = (dfi xs ys j).length := ⟨_, rfl⟩
          rw [← hnv] at HY ⊢
          clear hO hRx hRy hbx hby hjx hjy he hyes hu hu2 hj hnv
          go_wp2
          go_quiet (fail)
          obtain ⟨v', W', hap, hO'⟩ := HY.out (wr.drewN nq) ((Keeps.refl _ wr).drewN nq)
          have HAP : Hid (∀ ty, _) := hap
          have HO' : Hid (OwnI w W' v' (dfi xs ys (j + 1))) := hO'
          clear hap hO'
          go_wp2_with (at_builtin; go_must (refine wpList_append_run rfl (.tmp 65) (.tmp 67) 62 62 rfl (.slice av nv cv) (.slice (some ⟨wr.heap.size, 0, none⟩) 1 1) v' W' rfl rfl HAP.out ?_; refine Hid.out ?_))
          unfold Hid
          go_wp2
          go_roundw
          case rel => exact ⟨j + 1, by have := HM.out; omega, by go_num, HO'.out⟩
          case measure => have := HM.out; simp [intOf]; omega
      · have h2' : (M : Int) ≤ (j : Int) := by omega
        have h2N : M ≤ j := by omega
        have h1N : ¬ (L ≤ j) := by omega
        have h2B : decide (M ≤ j) = true := decide_eq_true h2N
        have h1B : decide (L ≤ j) = false := decide_eq_false h1N
        have hyes : Unl xs ys j := .inr (.inl (by rw [← HL.out.2]; omega))
        have HY : Hid (∀ wr', Keeps (fun _ => False) wr wr' → ∃ v' W', (∀ ty, (Builtin.append_ #[62, 62] ty #[_, .slice (some ⟨wr'.heap.size, 0, none⟩) 1 1]).run Try.prog (wr'.alloc (.cells #[.int .i64 (j : Int)] 3)) = .ok v' W') ∧ OwnI w W' v' (dfi xs ys (j + 1))) :=
          fun wr' hK => (hO.quiet hK).yes (by omega) hyes
        obtain ⟨av, cv, rfl⟩ := hO.any
        obtain ⟨nv, hnv⟩ : ∃ n, n = (dfi xs ys j).length := ⟨_, rfl⟩
        rw [← hnv] at HY ⊢
        clear hO hRx hRy hbx hby hyes hj hnv
        go_wp2
        go_quiet (fail)
        obtain ⟨v', W', hap, hO'⟩ := HY.out (wr.drewN nq) ((Keeps.refl _ wr).drewN nq)
        have HAP : Hid (∀ ty, _) := hap
        have HO' : Hid (OwnI w W' v' (dfi xs ys (j + 1))) := hO'
        clear hap hO'
        go_wp2_with (at_builtin; go_must (refine wpList_append_run rfl (.tmp 65) (.tmp 67) 62 62 rfl (.slice av nv cv) (.slice (some ⟨wr.heap.size, 0, none⟩) 1 1) v' W' rfl rfl HAP.out ?_; refine Hid.out ?_))
        unfold Hid
        go_wp2
        go_roundw
        case rel => exact ⟨j + 1, by have := HM.out; omega, by go_num, HO'.out⟩
        case measure => have := HM.out; simp [intOf]; omega
    · have h1' : (L : Int) ≤ (j : Int) := by omega
      have h1n : ¬ ((j : Int) < (L : Int)) := by omega
      by_cases h2 : j < M
      · have h2' : (j : Int) < M := by omega
        have hyes : Unl xs ys j := .inl (by rw [← HL.out.1]; omega)
        have HY : Hid (∀ wr', Keeps (fun _ => False) wr wr' → ∃ v' W', (∀ ty, (Builtin.append_ #[62, 62] ty #[_, .slice (some ⟨wr'.heap.size, 0, none⟩) 1 1]).run Try.prog (wr'.alloc (.cells #[.int .i64 (j : Int)] 3)) = .ok v' W') ∧ OwnI w W' v' (dfi xs ys (j + 1))) :=
          fun wr' hK => (hO.quiet hK).yes (by omega) hyes
        obtain ⟨av, cv, rfl⟩ := hO.any
        obtain ⟨nv, hnv⟩ : ∃ n, n = (dfi xs ys j).length := ⟨_, rfl⟩
        rw [← hnv] at HY ⊢
        clear hO hRx hRy hbx hby hyes hj hnv
        go_wp2
        go_quiet (fail)
        obtain ⟨v', W', hap, hO'⟩ := HY.out (wr.drewN nq) ((Keeps.refl _ wr).drewN nq)
        have HAP : Hid (∀ ty, _) := hap
        have HO' : Hid (OwnI w W' v' (dfi xs ys (j + 1))) := hO'
        clear hap hO'
        go_wp2_with (at_builtin; go_must (refine wpList_append_run rfl (.tmp 65) (.tmp 67) 62 62 rfl (.slice av nv cv) (.slice (some ⟨wr.heap.size, 0, none⟩) 1 1) v' W' rfl rfl HAP.out ?_; refine Hid.out ?_))
        unfold Hid
        go_wp2
        go_roundw
        case rel => exact ⟨j + 1, by have := HM.out; omega, by go_num, HO'.out⟩
        case measure => have := HM.out; simp [intOf]; omega
      · have h2n : ¬ ((j : Int) < (M : Int)) := by omega
        obtain rfl : j = max L M := by have := HM.out; omega
        obtain ⟨av, cv, rfl⟩ := hO.any
        have HF : Hid (OwnI w wr (.slice av (dfi xs ys (max L M)).length cv) (dfi xs ys (max L M))) := hO
        clear hO hRx hRy hbx hby hj
        obtain ⟨j, hjm⟩ : ∃ j, j = max L M := ⟨_, rfl⟩
        rw [← hjm] at h1' h1n h2n HF ⊢
        clear h1 h2 HM
        go_wp2
        go_ret
        subst hjm
        exact ⟨av, cv, rfl, HF.out⟩

end Go.Proofs.Ytljhdijledclhaa
