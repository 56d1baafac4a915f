import Derived.Test.YtajhkilclmicjaaGr
namespace Go.Proofs.Ytajhkilclmicjaa
open Go.RowKit Go.Shelf
set_option linter.unusedVariables false

def numF (mark : Int) (i m : Nat) : Int := wrap64 (wrap64 (mark + 10 * (i : Int)) + (m : Int))
def nums (mark : Int) (i : Nat) : List Int := (List.range 9).map (numF mark i)
theorem nums_take (mark : Int) (i m : Nat) (h : m < 9) : (nums mark i).take (m + 1) = (nums mark i).take m ++ [numF mark i m] := by
  rw [List.take_add_one]
  simp [nums, h]

set_option maxRecDepth 20000 in
set_option maxHeartbeats 4000000 in
theorem grown_any (G : Nat) (vs : Nat → Value) (cur : Nat → List Int) (D : Nat → Prop) (cap : Nat) (mark : Int) (w : World) (h : Four w G vs cur D) (h3 : ∀ i, i < 4 → (cur i).length ≤ 2) :
    Calls Try.prog 23 #[.slice (some ⟨G, 0, none⟩) 4 cap, .int .i64 mark] w fun e w' => e = .returned (.bool true) ∧ Keeps (Owned vs) w w' := by
  have H1 : Hid (Calls _ _ _ _ _) := copied_any G vs cur cap w h.lst h3
  have HS : Hid (Four w G vs cur D ∧ ∀ i, i < 4 → (cur i).length ≤ 2) := ⟨h, h3⟩
  clear h h3
  go_enter Try.func23, Try.ntmps23
  go_wp2_with fail
  refine H1.out.mono ?_
  rintro e w1 ⟨G2, vs2, cap2, rfl, hLD, hK1⟩
  have HW : Hid (LD w1 G2 vs2 cur (fun b => w.heap.size ≤ b ∧ b < w1.heap.size) ∧ Keeps (fun _ => False) w w1 ∧ Four w1 G vs cur D) := ⟨hLD, hK1, HS.out.1.kept hK1 (fun h => h) fun _ _ h => h⟩
  clear H1 hLD hK1
  go_wp2
  go_loopw [6, 16] (fun ov i wr => ∃ (j : Nat) (R : Nat → Value), j ≤ 4 ∧ i = .int .i64 j ∧ GI w1 wr G vs cur (nums mark) ov R j) (fun _ i _ => 4 - (intOf i).toNat)
  case atStart => exact ⟨0, vs, by omega, rfl, HW.out.2.2.gi⟩
  case round =>
    obtain ⟨j, R, hj, rfl, hI⟩ := hrel
    by_cases hlt : j < 4
    · have cc := hI.blk.cell (four_get vs hlt)
      have hr := hI.row j hlt
      simp only [Nat.lt_irrefl, if_false, Nat.add_zero, List.append_nil, hI.un j (Nat.le_refl _)] at hr
      obtain ⟨n, hn⟩ : ∃ n, n = (cur j).length := ⟨_, rfl⟩
      rw [← hn] at hr
      obtain ⟨a, c, hv⟩ := owns_form hr
      rw [hv] at cc
      have hnz : n ≤ 2 := by have := HS.out.2 j hlt; omega
      have hjz : (j : Int) < 4 := by omega
      obtain ⟨oa, oc, rfl⟩ := owns_form hI.out
      have HJ : Hid (j < 4 ∧ n = (cur j).length ∧ vs j = .slice a n c ∧ GI w1 wr G vs cur (nums mark) (.slice oa j oc) R j ∧ wr.ownsRow 0 3 1 (vs j) n (flat (cur j)) ∧ n ≤ 2) := ⟨hlt, hn, hv, hI, hr, hnz⟩
      clear hI hr hv hn hlt hj hnz
      obtain ⟨wo, hwo⟩ : ∃ wo, wo = wr := ⟨_, rfl⟩
      subst hwo
      go_wp2
      clear cc
      go_loopw [8, 23] (fun kv i wr => ∃ (m : Nat), m ≤ 9 ∧ i = .int .i64 m ∧ wr.ownsRow 0 3 1 kv (n + m) (flat (cur j ++ (nums mark j).take m)) ∧ Grew wo (vs j) wr kv ∧ Old wr (vs j) (cur j)) (fun _ i _ => 9 - (intOf i).toNat)
      case atStart => exact ⟨0, by omega, rfl, by rw [List.take_zero, List.append_nil, ← HJ.out.2.2.1]; exact HJ.out.2.2.2.2.1, by rw [← HJ.out.2.2.1]; exact Grew.refl _ _, HJ.out.2.2.2.1.old j HJ.out.1⟩
      case round =>
        obtain ⟨m, hm, rfl, hO, hG, hold⟩ := hrel
        by_cases hmn : m < 9
        · obtain ⟨ka, kc, rfl⟩ := owns_form hO
          have hn2 := HJ.out.2.2.2.2.2
          obtain ⟨x, hx⟩ : ∃ x, x = numF mark j m := ⟨_, rfl⟩
          obtain ⟨v', W', happ, hown', hgr, hcase⟩ := append_int2 x ka (n + m) kc _ hO (by omega)
          have HAP : Hid (∀ ty, (Builtin.append_ #[59, 59] ty #[.slice ka (n + m) kc, .slice (some ⟨wr.heap.size, 0, none⟩) 1 1]).run Try.prog (wr.alloc (.cells #[.int .i64 x] 3)) = .ok v' W') := happ
          have HR : Hid (W'.ownsRow 0 3 1 v' (n + (m + 1)) (flat (cur j ++ (nums mark j).take (m + 1))) ∧ Grew wo (vs j) W' v' ∧ Old W' (vs j) (cur j) ∧ m < 9 ∧ x = numF mark j m) := by
            rw [List.append_assoc] at hown'
            refine ⟨?_, hG.trans hgr, hold.step hown' hgr hcase, hmn, hx⟩
            rw [nums_take mark j m hmn, ← hx]
            exact hown'
          have hmz : (m : Int) < 9 := by omega
          clear happ hown' hgr hcase hO hG hold hm hmn hx hn2
          unfold numF at HR
          go_wp2_with (at_builtin; go_must (rw [← HR.out.2.2.2.2]; refine wpList_append_run rfl (.tmp 26) (.tmp 33) 59 59 rfl (.slice ka (n + m) kc) (.slice (some ⟨wr.heap.size, 0, none⟩) 1 1) v' W' rfl rfl HAP.out ?_; refine Hid.out ?_))
          unfold Hid
          go_wp2
          go_roundw
          case rel => exact ⟨m + 1, by have := HR.out.2.2.2.1; omega, by go_num, HR.out.1, HR.out.2.1, HR.out.2.2.1⟩
          case measure => have := HR.out.2.2.2.1; simp [intOf]; omega
        · obtain rfl : m = 9 := by omega
          obtain ⟨hlt, hn, hvj, hI, hr, hn2⟩ := HJ.out
          rw [List.take_of_length_le (by simp [nums])] at hO
          obtain ⟨ka, kc, rfl⟩ := owns_form hO
          have ho1 := owns_kept hI.out hG.keeps fun g hg he => by
            have h1 := hI.of g hg
            have h2 := (hI.vo j hlt g he.symm).1
            omega
          obtain ⟨v', W', happ, hown', hgr⟩ := append_row ka (n + 9) kc (.slice oa j oc) j _ ho1 (by omega)
          have HR : Hid ((∃ R', GI w1 W' G vs cur (nums mark) v' R' (j + 1)) ∧ j < 4) := ⟨⟨_, hI.more hlt (by rw [← hn]; exact hO) hG hold hown' hgr⟩, hlt⟩
          have HAP : Hid (∀ ty, (Builtin.append_ #[27, 27] ty #[.slice oa j oc, .slice (some ⟨wr.heap.size, 0, none⟩) 1 1]).run Try.prog (wr.alloc (.cells #[.slice ka (n + 9) kc] 59)) = .ok v' W') := happ
          clear happ hown' hgr ho1 hO hG hold hm hmn hlt hn hvj hI hr hn2
          go_wp2_with (at_builtin; go_must (refine wpList_append_run rfl (.tmp 36) (.tmp 38) 27 27 rfl (.slice oa j oc) (.slice (some ⟨wr.heap.size, 0, none⟩) 1 1) v' W' rfl rfl HAP.out ?_; refine Hid.out ?_))
          unfold Hid
          go_wp2
          go_roundw
          case rel =>
            obtain ⟨⟨R', g1⟩, g2⟩ := HR.out
            exact ⟨j + 1, R', by omega, by go_num, g1⟩
          case measure => have := HR.out.2; simp [intOf]; omega
    · obtain rfl : j = 4 := by omega
      obtain ⟨q1, q2, q3⟩ := HW.out
      obtain ⟨q4, q5⟩ := HS.out
      have hld : LD wr G2 vs2 cur (fun b => w.heap.size ≤ b ∧ b < w1.heap.size) := q1.kept hI.keeps fun b hb he => by
        obtain ⟨i, hi, hg⟩ := he
        have := (q4.own i hi b hg).2.2
        omega
      obtain ⟨Go, co, hov, hoc⟩ : ∃ Go co, u6 = .slice (some ⟨Go, 0, none⟩) 4 co ∧ ∀ i, i < 4 → wr.cell? ⟨Go, i, none⟩ = some (R i) := by
        rcases hI.out.2 with ⟨_, h0⟩ | ⟨Go, co, cu, e, _⟩
        · omega
        · refine ⟨Go, co, e, fun i hi => ?_⟩
          have := hI.out.cells (g := Go) (by rw [e]; rfl) i (R i) (by simp [hi])
          rw [addr_add, Nat.zero_add] at this
          exact this
      have hR : ∀ i, i < 4 → ∃ g cp, R i = .slice (some ⟨g, 0, none⟩) ((cur i).length + 9) cp ∧ ∀ m, m < 9 → wr.cell? ⟨g, (cur i).length + m, none⟩ = some (.int .i64 (numF mark i m)) := fun i hi => by
        have h1 := hI.row i hi
        simp only [hi, if_true] at h1
        rcases h1.2 with ⟨_, h0⟩ | ⟨g, cp, cu, e, _⟩
        · omega
        · refine ⟨g, cp, e, fun m hm => ?_⟩
          have := h1.cells (g := g) (by rw [e]; rfl) ((cur i).length + m) (.int .i64 (numF mark i m)) (by
            rw [flat_append, List.getElem?_append_right (by rw [flat_length]; omega), flat_length, Nat.add_sub_cancel_left]
            simp [flat, nums, hm])
          rw [addr_add, Nat.zero_add] at this
          exact this
      have H2 : Hid (Calls _ _ _ _ _) := same_any G G2 vs vs2 cur cap cap2 wr (hI.lst q3.row) hld.lst q5
      have HR : Hid (LD wr G2 vs2 cur (fun b => w.heap.size ≤ b ∧ b < w1.heap.size) ∧ (∀ i, i < 4 → wr.cell? ⟨Go, i, none⟩ = some (R i)) ∧ (∀ i, i < 4 → ∃ g cp, R i = .slice (some ⟨g, 0, none⟩) ((cur i).length + 9) cp ∧ ∀ m, m < 9 → wr.cell? ⟨g, (cur i).length + m, none⟩ = some (.int .i64 (numF mark i m))) ∧ Keeps (Owned vs) w wr) :=
        ⟨hld, hoc, hR, (q2.mono fun _ _ h => h.elim).trans hI.keeps fun b hb he => he⟩
      subst hov
      clear hI hj hlt q1 q2 q3 q4 q5 hld hoc hR
      obtain ⟨wo, hwo⟩ : ∃ wo, wo = wr := ⟨_, rfl⟩
      subst hwo
      go_wp2_with fail
      refine H2.out.mono ?_
      rintro e w5 ⟨rfl, hK5⟩
      have H5 : Hid (Keeps (fun _ => False) wo w5) := hK5
      clear H2 hK5
      go_wp2
      go_loopw [47] (fun i wr => ∃ j : Nat, j ≤ 4 ∧ i = .int .i64 j ∧ Keeps (fun _ => False) wo wr) (fun i _ => 4 - (intOf i).toNat)
      case atStart => exact ⟨0, by omega, rfl, H5.out⟩
      case round =>
        obtain ⟨j, hj, rfl, hK⟩ := hrel
        by_cases hlt : j < 4
        · have hjz : (j : Int) < 4 := by omega
          have HJ : Hid (j < 4 ∧ Keeps (fun _ => False) wo wr) := ⟨hlt, hK⟩
          obtain ⟨wp, hwp⟩ : ∃ wp, wp = wr := ⟨_, rfl⟩
          subst hwp
          clear hlt hK hj H5
          go_wp2
          go_loopw [50] (fun i wr => ∃ m : Nat, m ≤ 9 ∧ i = .int .i64 m ∧ Keeps (fun _ => False) wo wr) (fun i _ => 9 - (intOf i).toNat)
          case atStart => exact ⟨0, by omega, rfl, HJ.out.2⟩
          case round =>
            obtain ⟨m, hm, rfl, hK⟩ := hrel
            obtain ⟨hlt, -⟩ := HJ.out
            by_cases hmn : m < 9
            · obtain ⟨r1, r2, r3, r4⟩ := HR.out
              have cw := (r1.lst.kept hK).cell j hlt
              obtain ⟨a, c, hv, hs, _⟩ := (r1.lst.kept hK).seg j hlt
              rw [hv] at cw
              have co' := cell_kept (r2 j hlt) hK fun h => h
              obtain ⟨g, cp, e, hc⟩ := r3 j hlt
              rw [e] at co'
              have cx := cell_kept (hc m hmn) hK fun h => h
              have hn2 := HS.out.2 j hlt
              obtain ⟨n, hn⟩ : ∃ n, n = (cur j).length := ⟨_, rfl⟩
              rw [← hn] at cw co' cx hn2
              unfold numF at cx
              have hmz : (m : Int) < 9 := by omega
              have hnz : (n : Int) ≤ 2 := by omega
              have HM : Hid (m < 9 ∧ Keeps (fun _ => False) wo wr) := ⟨hmn, hK⟩
              clear r1 r2 r3 r4 hv hs e hc hn hn2 hm hmn hlt hK
              go_wp2
              go_quiet (fail)
              have HM2 : Hid (Keeps (fun _ => False) wo (wr.drewN nq)) := HM.out.2.drewN nq
              clear cw co' cx
              go_wp2
              go_roundw
              case rel => exact ⟨m + 1, by have := HM.out.1; omega, by go_num, HM2.out⟩
              case measure => have := HM.out.1; simp [intOf]; omega
            · obtain rfl : m = 9 := by omega
              have HM : Hid (Keeps (fun _ => False) wo wr ∧ j < 4) := ⟨hK, hlt⟩
              clear hK hm hmn hlt
              go_wp2
              go_roundw
              case rel => exact ⟨j + 1, by have := HM.out.2; omega, by go_num, HM.out.1⟩
              case measure => have := HM.out.2; simp [intOf]; omega
        · obtain rfl : j = 4 := by omega
          have HF : Hid (Keeps (Owned vs) w wr) := HR.out.2.2.2.trans hK fun _ _ h => h.elim
          clear hK hj hlt H5
          go_wp2
          go_ret
          exact ⟨rfl, HF.out⟩

end Go.Proofs.Ytajhkilclmicjaa
