import Derived.Test.YthepajjbflmchaaL
import Derived.Deep.CutBlock
import Derived.Deep.CutRange
namespace Go.Proofs.Ythepajjbflmchaa
open Go.RowKit
set_option linter.unusedVariables false

theorem meets_37 (w : World) : Calls Try.prog 7 #[.int .i64 3, .int .u32 7, .int .i64 2] w fun e w' => e = .returned (.bool true) ∧ Keeps (fun _ => False) w w' :=
  meets_any 3 7 2 w (by omega) (by omega) (by omega)

set_option maxHeartbeats 400000 in
theorem others_no (a : Option Addr) (L cap : Nat) (o : OpB) (w : World) (E : Int) (hE : ¬ E = 0)
    (h : ∀ W, Calls Try.prog 8 #[.slice a L cap] W fun e w' => e = .returned (.tuple #[.pointer none, .int .i64 E]) ∧ w' = W) :
    Calls Try.prog 6 #[.slice a L cap, o.v] w fun e w' => e = .returned (.bool true) ∧ Keeps (fun _ => False) w w' := by
  have H : Hid (∀ W, Calls Try.prog 8 #[.slice a L cap] W fun e w' => e = .returned (.tuple #[.pointer none, .int .i64 E]) ∧ w' = W) := h
  obtain ⟨W0, hW0⟩ : ∃ W0, W0 = w.alloc (.cells #[.int .i64 o.k, .int .i64 o.p, .int .i64 o.c, .int .u32 (o.x.toNat : Int)] 36) := ⟨_, rfl⟩
  have hk : Keeps (fun _ => False) w W0 := by rw [hW0]; exact (Keeps.refl _ w).alloc _
  have HW : Hid (W0 = _) := hW0
  have HK : Hid (Keeps _ _ _) := hk
  have HM : Hid (Calls _ _ _ _ _) := meets_37 W0
  clear h hW0 hk
  go_enter Try.func6, Try.ntmps6
  go_wp2_with fail
  rw [← HW.out]
  refine (H.out W0).mono ?_
  rintro e w1 ⟨rfl, hw⟩
  obtain rfl := hw.symm
  clear hw H
  go_wp2_with fail
  refine HM.out.mono ?_
  rintro e w2 ⟨rfl, hk⟩
  have HK2 : Hid (Keeps _ _ _) := hk
  clear hk HM
  go_wp2
  go_ret
  exact ⟨rfl, HK.out.trans HK2.out (fun _ _ e => e)⟩

set_option maxRecDepth 20000 in
set_option maxHeartbeats 1000000 in
theorem others_in (a : Option Addr) (cap n : Nat) (xs : List UInt32) (o : OpB) (w : World) (hx : SegW w a xs) (hn : xs.length = n * 16) (h1 : 1 ≤ n) (h2 : n ≤ 1024) (ho : o.Fine) :
    Calls Try.prog 6 #[.slice a xs.length cap, o.v] w fun e w' => e = .returned (.bool true) ∧ Keeps (fun _ => False) w w' := by
  obtain ⟨W0, hW0⟩ : ∃ W0, W0 = w.alloc (.cells #[.int .i64 o.k, .int .i64 o.p, .int .i64 o.c, .int .u32 (o.x.toNat : Int)] 36) := ⟨_, rfl⟩
  have hk : Keeps (fun _ => False) w W0 := by rw [hW0]; exact (Keeps.refl _ w).alloc _
  have hO : Blk W0 w.heap.size o.vs 36 := by rw [hW0]; exact Blk.new w _ 36
  have HF : Hid (Calls _ _ _ _ _) := of_in a cap n xs W0 (hx.kept hk (fun _ _ e => e)) hn h1 h2
  have HW : Hid (W0 = _) := hW0
  have HK : Hid (Keeps _ _ _) := hk
  have HO : Hid (Blk _ _ _ _) := hO
  have HS : Hid (xs.length ≤ 16384 ∧ o.Fine) := ⟨by omega, ho⟩
  obtain ⟨L, hL⟩ : ∃ L, L = xs.length := ⟨_, rfl⟩
  have HLL : Hid (L = xs.length) := hL
  rw [← hL] at HF ⊢
  have hL2 : (L : Int) ≤ 16384 := by omega
  clear hk hO hW0 hL hx hn h1 h2 ho
  obtain ⟨O, hO⟩ : ∃ O, O = w.heap.size := ⟨_, rfl⟩
  have HOO : Hid (O = w.heap.size) := hO
  rw [← hO] at HO
  clear hO
  go_enter Try.func6, Try.ntmps6
  go_wp2_with fail
  rw [← HW.out, ← HOO.out]
  refine HF.out.mono ?_
  rintro e w1 ⟨b, hb, rfl, hM, hk⟩
  obtain ⟨g, hg⟩ : ∃ g, g = W0.heap.size := ⟨_, rfl⟩
  rw [← hg] at hM hb
  have H1 : Hid (Mm w1 b g xs ∧ Keeps (fun _ => False) W0 w1 ∧ g < b ∧ g = W0.heap.size) := ⟨hM, hk, hb, hg⟩
  have HC : Hid (Calls _ _ _ _ _) := clone_any b g xs w1 hM
  clear hM hk hb hg HF
  go_wp2_with fail
  refine HC.out.mono ?_
  rintro e w2 ⟨b2, hb2, rfl, hM2, hk⟩
  obtain ⟨g2, hg2⟩ : ∃ g, g = w1.heap.size := ⟨_, rfl⟩
  rw [← hg2] at hM2 hb2
  have HB : Hid (Mm w2 b g xs ∧ Mm w2 b2 g2 xs ∧ Blk w2 O o.vs 36 ∧ Keeps (fun _ => False) w w2 ∧ (w.heap.size ≤ g ∧ O < g ∧ g < g2 ∧ g < b2)) := by
    have q1 := H1.out.1.row.lt
    have q2 := HO.out.lt
    have q3 := HK.out.size
    have q4 := H1.out.2.2.2
    exact ⟨H1.out.1.kept hk (fun e => e) (fun e => e), hM2, (HO.out.kept H1.out.2.1 (fun e => e)).kept hk (fun e => e), (HK.out.trans H1.out.2.1 (fun _ _ e => e)).trans hk (fun _ _ e => e), by omega⟩
  have c0 := HB.out.2.2.1.cell (i := 0) rfl
  have c1 := HB.out.2.2.1.cell (i := 1) rfl
  have c2 := HB.out.2.2.1.cell (i := 2) rfl
  obtain ⟨K, hK⟩ : ∃ K, K = o.k := ⟨_, rfl⟩
  obtain ⟨p, hp⟩ : ∃ K, K = o.p := ⟨_, rfl⟩
  obtain ⟨c, hc⟩ : ∃ K, K = o.c := ⟨_, rfl⟩
  have HKp : Hid (K = o.k ∧ p = o.p ∧ c = o.c) := ⟨hK, hp, hc⟩
  rw [← hK] at c0
  rw [← hp] at c1
  rw [← hc] at c2
  clear hb2 hM2 hk hg2 HC H1 HO HK HW HOO hK hp hc
  go_upto_block 0 with fail
  go_cut [8] from 17 (fun f wx => ∃ fI : Int, f = .int .i64 fI ∧ Oth w b g b2 g2 O xs o fI wx)
  case first =>
    by_cases hk0 : K = 0
    · have HT := look_any b g xs p w2 HB.out.1 (by rw [HKp.out.2.1]; exact HS.out.2.2)
      obtain ⟨E, hE⟩ : ∃ E, E = lkE xs p := ⟨_, rfl⟩
      obtain ⟨y1, hy1⟩ : ∃ E : Nat, E = lkC xs p := ⟨_, rfl⟩
      obtain ⟨y2, hy2⟩ : ∃ E : Nat, E = lkP xs p := ⟨_, rfl⟩
      rw [← hE, ← hy1, ← hy2] at HT
      have HT : Hid (Calls _ _ _ _ _) := HT
      have hk0' : (K == 0) = true := by rw [hk0]; rfl
      have HK0 : Hid (K = 0) := hk0
      clear hE hy1 hy2 hk0
      go_wp2_with fail
      refine HT.out.mono ?_
      rintro e w3 ⟨rfl, hk⟩
      have HK3 : Hid (Keeps _ _ _) := hk
      clear hk HT
      go_wp2
      go_meet
      case rel =>
        have k3 := HK3.out.alloc (.cells #[.int .i64 (y1 : Int), .int .i64 (y2 : Int)] 42)
        exact ⟨E, rfl, ⟨xs, HB.out.1.kept k3 (fun e => e) (fun e => e), res_same _ _ _ _ (.inr (by rw [← HKp.out.1]; exact HK0.out))⟩, HB.out.2.1.kept k3 (fun e => e) (fun e => e), HB.out.2.2.1.kept k3 (fun e => e), HB.out.2.2.2.1.trans k3 (fun _ _ e => e)⟩
    · have hk0' : (K == 0) = false := beq_eq_false_iff_ne.2 hk0
      by_cases hk1 : K = 1
      · have HT := come_any b g xs p c w2 HB.out.1 (by rw [HKp.out.2.1]; exact HS.out.2.2)
        obtain ⟨E, hE⟩ : ∃ E, E = coE xs p c := ⟨_, rfl⟩
        obtain ⟨B, hB⟩ : ∃ B, B = coB xs p c := ⟨_, rfl⟩
        have HE : Hid (E = coE xs p c ∧ K ≠ 0) := ⟨hE, hk0⟩
        rw [← hE, ← hB] at HT
        have HT : Hid (Calls _ _ _ _ _) := HT
        have hk1' : (K == 1) = true := by rw [hk1]; rfl
        clear hE hB hk0 hk1
        go_wp2_with fail
        refine HT.out.mono ?_
        rintro e w3 ⟨rfl, hM3, hk⟩
        have HK3 : Hid (Mm w3 b g (coX xs p c) ∧ Keeps (· = g) w2 w3) := ⟨hM3, hk⟩
        clear hk HT hM3
        go_wp2
        go_meet
        case rel =>
          have q := HB.out.2.2.2.2
          have hr := res_come xs K p c HE.out.2
          rw [← HE.out.1, HKp.out.1, HKp.out.2.1] at hr
          have h3 := HK3.out.1
          rw [HKp.out.2.1] at h3
          exact ⟨E, rfl, ⟨_, h3, hr⟩, HB.out.2.1.kept HK3.out.2 (by omega) (by omega), HB.out.2.2.1.kept HK3.out.2 (by omega), HB.out.2.2.2.1.trans HK3.out.2 (fun b hb e => by omega)⟩
      · have HT := open_any b g xs p c w2 HB.out.1 (by rw [HKp.out.2.1]; exact HS.out.2.2)
        obtain ⟨E, hE⟩ : ∃ E, E = opE xs p c := ⟨_, rfl⟩
        have HE : Hid (E = opE xs p c ∧ K ≠ 0) := ⟨hE, hk0⟩
        rw [← hE] at HT
        have HT : Hid (Calls _ _ _ _ _) := HT
        have hk1' : (K == 1) = false := beq_eq_false_iff_ne.2 hk1
        clear hE hk0 hk1
        go_wp2_with fail
        refine HT.out.mono ?_
        rintro e w3 ⟨rfl, hM3, hk⟩
        have HK3 : Hid (Mm w3 b g (opX xs p c) ∧ Keeps (· = g) w2 w3) := ⟨hM3, hk⟩
        clear hk HT hM3
        go_wp2
        go_meet
        case rel =>
          have q := HB.out.2.2.2.2
          have hr := res_open xs K p c HE.out.2
          rw [← HE.out.1, HKp.out.1, HKp.out.2.1] at hr
          have h3 := HK3.out.1
          rw [HKp.out.2.1] at h3
          exact ⟨E, rfl, ⟨_, h3, hr⟩, HB.out.2.1.kept HK3.out.2 (by omega) (by omega), HB.out.2.2.1.kept HK3.out.2 (by omega), HB.out.2.2.2.1.trans HK3.out.2 (fun b hb e => by omega)⟩
  case rest =>
    obtain ⟨f, rfl, ⟨ys, hM, hR⟩, hbef, hop, hkw⟩ := hcut
    have HW1 := words_any b2 g2 xs wc hbef
    rw [← HLL.out] at HW1
    have HW1 : Hid (Calls _ _ _ _ _) := HW1
    have H3 : Hid (Mm wc b g ys ∧ Res xs ys o.k o.p f ∧ Blk wc O o.vs 36 ∧ Keeps (fun _ => False) w wc) := ⟨hM, hR, hop, hkw⟩
    clear hM hR hbef hop hkw HB c0 c1 c2
    go_wp2_with fail
    refine HW1.out.mono ?_
    rintro e w4 ⟨rfl, hB4, hk⟩
    have HW2 := words_any b g ys w4 (H3.out.1.kept hk (fun e => e) (fun e => e))
    rw [H3.out.2.1.len, ← HLL.out] at HW2
    have HW2 : Hid (Calls _ _ _ _ _) := HW2
    obtain ⟨ga, hga⟩ : ∃ ga, ga = wc.heap.size := ⟨_, rfl⟩
    rw [← hga] at hB4 ⊢
    have H4 : Hid (Blk w4 ga (wvs xs) 23 ∧ Keeps (fun _ => False) wc w4) := ⟨hB4, hk⟩
    clear hB4 hk HW1 hga
    go_wp2_with fail
    refine HW2.out.mono ?_
    rintro e w5 ⟨rfl, hB5, hk⟩
    obtain ⟨gb, hgb⟩ : ∃ ga, ga = w4.heap.size := ⟨_, rfl⟩
    rw [← hgb] at hB5 ⊢
    have H5 : Hid (Blk w5 ga (wvs xs) 23 ∧ Blk w5 gb (wvs ys) 23 ∧ Blk w5 O o.vs 36 ∧ Keeps (fun _ => False) w w5) :=
      ⟨H4.out.1.kept hk (fun e => e), hB5, (H3.out.2.2.1.kept H4.out.2 (fun e => e)).kept hk (fun e => e), (H3.out.2.2.2.trans H4.out.2 (fun _ _ e => e)).trans hk (fun _ _ e => e)⟩
    have HR : Hid (Res xs ys o.k o.p f) := H3.out.2.1
    clear hB5 hk HW2 hgb H3 H4
    go_wp2_with fail
    go_loopw [15, 16] (fun ch i wr => ∃ (j q : Nat), j ≤ L ∧ q ≤ j ∧ ch = .int .i64 (q : Int) ∧ i = .int .i64 (j : Int) ∧ (q = 0 → ∀ t, t < j → xs[t]? = ys[t]?) ∧ Blk wr ga (wvs xs) 23 ∧ Blk wr gb (wvs ys) 23 ∧ Blk wr O o.vs 36 ∧ Keeps (fun _ => False) w wr) (fun ch i _ => L - (intOf i).toNat)
    case atStart => exact ⟨0, 0, by omega, by omega, rfl, rfl, fun _ t ht => by omega, H5.out.1, H5.out.2.1, H5.out.2.2.1, H5.out.2.2.2⟩
    case round =>
      clear H5
      obtain ⟨j, q, hj, hq, rfl, rfl, hsame, hBa, hBb, hBo, hkw⟩ := hrel
      have HI : Hid ((q = 0 → ∀ t, t < j → xs[t]? = ys[t]?) ∧ Blk wr ga (wvs xs) 23 ∧ Blk wr gb (wvs ys) 23 ∧ Blk wr O o.vs 36 ∧ Keeps (fun _ => False) w wr) := ⟨hsame, hBa, hBb, hBo, hkw⟩
      by_cases hlt : j < L
      · have hlt' : (j : Int) < L := by omega
        have hjx : j < xs.length := by rw [← HLL.out]; exact hlt
        have hjy : j < ys.length := by rw [HR.out.len]; exact hjx
        have d1 := hBa.cell (wvs_get xs j hjx)
        have d2 := hBb.cell (wvs_get ys j hjy)
        obtain ⟨v1, hv1⟩ : ∃ v : Nat, v = (xs[j]'hjx).toNat := ⟨_, rfl⟩
        obtain ⟨v2, hv2⟩ : ∃ v : Nat, v = (ys[j]'hjy).toNat := ⟨_, rfl⟩
        rw [← hv1] at d1
        rw [← hv2] at d2
        by_cases hv : v1 = v2
        · have hsm : xs[j]? = ys[j]? := by
            rw [List.getElem?_eq_getElem hjx, List.getElem?_eq_getElem hjy]
            congr 1
            apply UInt32.toNat_inj.1
            omega
          have HSM : Hid (xs[j]? = ys[j]?) := hsm
          subst hv
          clear hsame hBa hBb hBo hkw hv1 hv2 hsm hjx hjy
          go_wp2
          go_quiet (fail)
          go_wp2
          go_roundw
          case rel => exact ⟨j + 1, q, by omega, by omega, rfl, by go_num, fun h0 t ht => by
            by_cases h : t < j
            · exact HI.out.1 h0 t h
            · obtain rfl : t = j := by omega
              exact HSM.out, HI.out.2.1.drewN _, HI.out.2.2.1.drewN _, HI.out.2.2.2.1.drewN _, HI.out.2.2.2.2.drewN _⟩
          case measure => simp [intOf]; omega
        · have hd : xs[j]? ≠ ys[j]? := by
            rw [List.getElem?_eq_getElem hjx, List.getElem?_eq_getElem hjy]
            intro e
            apply hv
            rw [hv1, hv2]
            injection e with e
            rw [e]
          obtain ⟨hf0, hk0, hp⟩ := HR.out.dif j hd
          rw [← HKp.out.1] at hk0
          rw [← HKp.out.2.1] at hp
          have c0 : wr.cell? ⟨O, 0, none⟩ = some (.int .i64 o.k) := hBo.cell rfl
          have c1 : wr.cell? ⟨O, 1, none⟩ = some (.int .i64 o.p) := hBo.cell rfl
          rw [← HKp.out.1] at c0
          rw [← HKp.out.2.1] at c1
          have hf1 : (f != 0) = false := by rw [hf0]; rfl
          have hk1 : (K == 0) = false := beq_eq_false_iff_ne.2 hk0
          have hv3 : ((v1 : Int) == (v2 : Int)) = false := beq_eq_false_iff_ne.2 (by omega)
          have hv4 : ¬ ((v1 : Int) = (v2 : Int)) := by omega
          have hq2 : (q : Int) ≤ 16384 := by omega
          by_cases hjp : (j : Int) = p
          · have hj1 : ((j : Int) != p) = false := by rw [hjp]; simp
            clear hsame hBa hBb hBo hkw hv1 hv2 hjx hjy hd hf0 hk0 hp hjp
            go_wp2
            go_quiet (fail)
            go_wp2
            go_roundw
            case rel => exact ⟨j + 1, q + 1, by omega, by omega, by go_num, by go_num, fun h0 => by omega, HI.out.2.1.drewN _, HI.out.2.2.1.drewN _, HI.out.2.2.2.1.drewN _, HI.out.2.2.2.2.drewN _⟩
            case measure => simp [intOf]; omega
          · have hj1 : ((j : Int) != p) = true := by simp [hjp]
            have hj2 : (j : Int) = p + 1 := by omega
            have hj3 : IntKind.i64.wrap (p + 1) = (j : Int) := by rw [IntKind.wrap_i64]; omega
            clear hsame hBa hBb hBo hkw hv1 hv2 hjx hjy hd hf0 hk0 hp hjp hj2
            go_wp2
            go_quiet (fail)
            go_wp2
            go_roundw
            case rel => exact ⟨j + 1, q + 1, by omega, by omega, by go_num, by go_num, fun h0 => by omega, HI.out.2.1.drewN _, HI.out.2.2.1.drewN _, HI.out.2.2.2.1.drewN _, HI.out.2.2.2.2.drewN _⟩
            case measure => simp [intOf]; omega
      · obtain rfl : j = L := by omega
        have HM : Hid (Calls _ _ _ _ _) := meets_37 wr
        have c0 : wr.cell? ⟨O, 0, none⟩ = some (.int .i64 o.k) := hBo.cell rfl
        rw [← HKp.out.1] at c0
        have hlt' : ¬ ((j : Int) < (j : Int)) := by omega
        have HE : Hid (f = 0 → K ≠ 0 → q ≠ 0) := by
          intro h1 h2 h3
          rw [HKp.out.1] at h2
          obtain ⟨i, hi, hne⟩ := HR.out.any h1 h2
          exact hne (hsame h3 i (by rw [HLL.out]; exact hi))
        clear hsame hBa hBb hBo hkw
        by_cases hf : f = 0
        · by_cases hk : K = 0
          · have hf1 : (f == 0) = true := by rw [hf]; rfl
            have hk1 : (K != 0) = false := by rw [hk]; rfl
            clear hf hk
            go_wp2_with fail
            refine HM.out.mono ?_
            rintro e w6 ⟨rfl, hk⟩
            have HK6 : Hid (Keeps _ _ _) := hk
            clear hk HM
            go_wp2
            go_ret
            exact ⟨rfl, HI.out.2.2.2.2.trans HK6.out (fun _ _ e => e)⟩
          · have hf1 : (f == 0) = true := by rw [hf]; rfl
            have hk1 : (K != 0) = true := by simp [hk]
            have hq0 : q ≠ 0 := HE.out hf hk
            have hq1 : ((q : Int) == 0) = false := beq_eq_false_iff_ne.2 (by omega)
            clear hf hk
            go_wp2_with fail
            refine HM.out.mono ?_
            rintro e w6 ⟨rfl, hk⟩
            have HK6 : Hid (Keeps _ _ _) := hk
            clear hk HM
            go_wp2
            go_ret
            exact ⟨rfl, HI.out.2.2.2.2.trans HK6.out (fun _ _ e => e)⟩
        · have hf1 : (f == 0) = false := beq_eq_false_iff_ne.2 hf
          clear hf
          go_wp2_with fail
          refine HM.out.mono ?_
          rintro e w6 ⟨rfl, hk⟩
          have HK6 : Hid (Keeps _ _ _) := hk
          clear hk HM
          go_wp2
          go_ret
          exact ⟨rfl, HI.out.2.2.2.2.trans HK6.out (fun _ _ e => e)⟩

theorem barrierOthers_any (a : Option Addr) (cap : Nat) (xs : List UInt32) (o : OpB) (w : World) (hx : SegW w a xs) (ho : o.Fine) :
    Calls Try.prog 6 #[.slice a xs.length cap, o.v] w fun e w' => e = .returned (.bool true) ∧ Keeps (fun _ => False) w w' := by
  by_cases h1 : (16384 : Int) < (xs.length : Int)
  · exact others_no a xs.length cap o w 2 (by omega) fun W => of_long a cap xs.length W h1
  · by_cases h0 : xs.length = 0
    · rw [h0]
      exact others_no a 0 cap o w 50 (by omega) fun W => of_none a cap W
    · by_cases h2 : xs.length % 16 = 0
      · exact others_in a cap (xs.length / 16) xs o w hx (by omega) (by omega) (by omega) ho
      · exact others_no a xs.length cap o w 50 (by omega) fun W => of_odd a cap xs.length W (by omega) h2

end Go.Proofs.Ythepajjbflmchaa
