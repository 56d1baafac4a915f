import Derived.Test.YtadhldpeklkcmaaPa
import Derived.Deep.RegionHeld3
import Derived.Deep.CutBlock
import Derived.Deep.CutRange
namespace Go.Proofs.Ytadhldpeklkcmaa
open Go.RowKit
set_option linter.unusedVariables false

structure Pl where
  a1 : Option Addr
  a2 : Option Addr
  a3 : Option Addr
  a4 : Option Addr
  c1 : Nat
  c2 : Nat
  c3 : Nat
  c4 : Nat
  l1 : List Int
  l2 : List Int
  l3 : List Int
  l4 : List Int

structure Pl.In (P : Pl) (w : World) : Prop where
  s1 : SegI w P.a1 P.l1
  s2 : SegI w P.a2 P.l2
  s3 : SegI w P.a3 P.l3
  s4 : SegI w P.a4 P.l4
  m1 : P.l1.length ≤ maxLen
  m2 : P.l2.length ≤ maxLen
  m3 : P.l3.length ≤ maxLen
  m4 : P.l4.length ≤ maxLen
  r1 : ∀ z ∈ P.l1, -9223372036854775808 ≤ z ∧ z ≤ 9223372036854775807
  r2 : ∀ z ∈ P.l2, -9223372036854775808 ≤ z ∧ z ≤ 9223372036854775807
  r3 : ∀ z ∈ P.l3, -9223372036854775808 ≤ z ∧ z ≤ 9223372036854775807
  r4 : ∀ z ∈ P.l4, -9223372036854775808 ≤ z ∧ z ≤ 9223372036854775807

/-- The locks of the chain. -/
def Ls (P : Pl) (j : Nat) : List Int := (P.l1.take j).map fun z => ((pk z 34 : Nat) : Int)

set_option maxRecDepth 20000 in
set_option maxHeartbeats 4000000 in
theorem again_any (P : Pl) (w : World) (h : P.In w) :
    Calls Try.prog 5 #[.agg #[.slice P.a1 P.l1.length P.c1, .slice P.a2 P.l2.length P.c2, .slice P.a3 P.l3.length P.c3, .slice P.a4 P.l4.length P.c4]] w fun e w' => e = .returned (.bool true) ∧ Keeps (fun _ => False) w w' := by
  have H : Hid (P.In w) := h
  obtain ⟨n1, h1⟩ : ∃ n, n = P.l1.length := ⟨_, rfl⟩
  obtain ⟨n2, h2⟩ : ∃ n, n = P.l2.length := ⟨_, rfl⟩
  obtain ⟨n3, h3⟩ : ∃ n, n = P.l3.length := ⟨_, rfl⟩
  obtain ⟨n4, h4⟩ : ∃ n, n = P.l4.length := ⟨_, rfl⟩
  have HN : Hid (n1 = P.l1.length ∧ n2 = P.l2.length ∧ n3 = P.l3.length ∧ n4 = P.l4.length) := ⟨h1, h2, h3, h4⟩
  rw [← h1, ← h2, ← h3, ← h4]
  clear h h1 h2 h3 h4
  go_enter Try.func5, Try.ntmps5
  go_wp2_with fail
  obtain ⟨w0, hw0⟩ : ∃ w0, w0 = w.alloc (.cells #[.slice P.a1 n1 P.c1, .slice P.a2 n2 P.c2, .slice P.a3 n3 P.c3, .slice P.a4 n4 P.c4] 70) := ⟨_, rfl⟩
  have hB := Blk.new w #[.slice P.a1 n1 P.c1, .slice P.a2 n2 P.c2, .slice P.a3 n3 P.c3, .slice P.a4 n4 P.c4] 70
  rw [← hw0] at hB ⊢
  have hk0 : Keeps (fun _ => False) w w0.drew := by rw [hw0]; exact ((Keeps.refl _ _).alloc _).drew
  have hS0 : w0.cell? ⟨w.heap.size, 0, none⟩ = some (.slice P.a1 n1 P.c1) ∧ w0.cell? ⟨w.heap.size, 1, none⟩ = some (.slice P.a2 n2 P.c2) ∧ w0.cell? ⟨w.heap.size, 2, none⟩ = some (.slice P.a3 n3 P.c3) ∧ w0.cell? ⟨w.heap.size, 3, none⟩ = some (.slice P.a4 n4 P.c4) := ⟨hB.cell (i := 0) rfl, hB.cell (i := 1) rfl, hB.cell (i := 2) rfl, hB.cell (i := 3) rfl⟩
  go_region_held3 (fun w' => w'.cell? ⟨w.heap.size, 0, none⟩ = some (.slice P.a1 n1 P.c1) ∧ w'.cell? ⟨w.heap.size, 1, none⟩ = some (.slice P.a2 n2 P.c2) ∧ w'.cell? ⟨w.heap.size, 2, none⟩ = some (.slice P.a3 n3 P.c3) ∧ w'.cell? ⟨w.heap.size, 3, none⟩ = some (.slice P.a4 n4 P.c4)) (first | exact hS0 | go_keep) (fail)
  obtain ⟨w1, hw1⟩ : ∃ w1, w1 = w0.drew := ⟨_, rfl⟩
  rw [← hw1] at hk0 ⊢
  have HK1 : Hid (Keeps (fun _ => False) w w1) := hk0
  clear hS0 hB hw0 hw1 hk0
  have HM : Hid (Calls _ _ _ _ _) := new_in 2 w1 (by omega) (by omega)
  go_wp2_with fail
  refine HM.out.mono ?_
  rintro e w2 ⟨rfl, hm, hk⟩
  have H2 : Hid (Mm w2 (w1.heap.size + 1) w1.heap.size (List.replicate 32 0) ∧ Keeps (fun _ => False) w1 w2) := ⟨hm, hk⟩
  clear hm hk HM
  go_upto_block 0 with fail
  obtain ⟨mb, hmb⟩ : ∃ mb, mb = w1.heap.size + 1 := ⟨_, rfl⟩
  obtain ⟨g, hg⟩ : ∃ g, g = w1.heap.size := ⟨_, rfl⟩
  rw [← hmb, ← hg] at H2
  rw [← hmb]
  obtain ⟨N, hN⟩ : ∃ N, N = w.heap.size := ⟨_, rfl⟩
  have HA : Hid (Mm w2 mb g (List.replicate 32 0) ∧ Keeps (fun k => N ≤ k) w w2 ∧ Sep w2 N (F5 (MF mb g) nF (RF (.slice none 0 0)) nF nF) ∧ N = w.heap.size) := by
    have hs := HK1.out.size
    refine ⟨H2.out.1, (HK1.out.none).trans H2.out.2.none (fun _ _ e => e), ⟨?_, ?_, ?_⟩, hN⟩
    · rintro a b k (⟨rfl, ha⟩ | ⟨rfl, ha⟩ | ⟨rfl, ha⟩ | ⟨rfl, ha⟩ | ⟨rfl, ha⟩) (⟨rfl, hb⟩ | ⟨rfl, hb⟩ | ⟨rfl, hb⟩ | ⟨rfl, hb⟩ | ⟨rfl, hb⟩) <;> first | rfl | (exact absurd ha (fun e => e)) | (exact absurd hb (fun e => e)) | (cases ha; done) | (cases hb; done)
    · rintro a k (⟨rfl, ha⟩ | ⟨rfl, ha⟩ | ⟨rfl, ha⟩ | ⟨rfl, ha⟩ | ⟨rfl, ha⟩)
      · exact H2.out.1.ltF ha
      · exact absurd ha (fun e => e)
      · cases ha
      · exact absurd ha (fun e => e)
      · exact absurd ha (fun e => e)
    · rintro a k (⟨rfl, ha⟩ | ⟨rfl, ha⟩ | ⟨rfl, ha⟩ | ⟨rfl, ha⟩ | ⟨rfl, ha⟩)
      · rcases ha with rfl | rfl <;> omega
      · exact absurd ha (fun e => e)
      · cases ha
      · exact absurd ha (fun e => e)
      · exact absurd ha (fun e => e)
  have hn1 : (n1 : Int) ≤ 9223372036854775807 := by have := H.out.m1; have := HN.out.1; unfold maxLen at *; omega
  clear H2 HK1 hmb hg hN
  go_cut [9, 10] from 44 to 62 (fun l i wr => ∃ j : Nat, j ≤ n1 ∧ j ≤ 6 ∧ i = .int .i64 j ∧ wr.ownsRow 0 3 1 l j (ivs (Ls P j)) ∧ Mm wr mb g (List.replicate 32 0) ∧ Keeps (fun k => N ≤ k) w wr ∧ Sep wr N (F5 (MF mb g) nF (RF l) nF nF))
  case first =>
    go_wp2_with fail
    go_loopw [9, 10] (fun l i wr => ∃ j : Nat, j ≤ n1 ∧ j ≤ 6 ∧ i = .int .i64 j ∧ wr.ownsRow 0 3 1 l j (ivs (Ls P j)) ∧ Mm wr mb g (List.replicate 32 0) ∧ Keeps (fun k => N ≤ k) w wr ∧ Sep wr N (F5 (MF mb g) nF (RF l) nF nF))
      (fun l i _ => n1 - (intOf i).toNat)
    case atStart => exact ⟨0, by omega, by omega, rfl, ⟨rfl, .inl ⟨rfl, rfl⟩⟩, HA.out.1, HA.out.2.1, HA.out.2.2.1⟩
    case round =>
      obtain ⟨j, hj1, hj6, rfl, ho, hm, hk, hsp⟩ := hrel
      have HR : Hid (_ ∧ _ ∧ _ ∧ _) := ⟨ho, hm, hk, hsp⟩
      have hj6' : (j : Int) ≤ 6 := by omega
      by_cases hlt : j < n1 ∧ j < 6
      · obtain ⟨hlt1, hlt2⟩ := hlt
        have hlt1' : (j : Int) < n1 := by omega
        have hlt2' : (j : Int) < 6 := by omega
        have hjx : j < P.l1.length := by have := HN.out.1; omega
        obtain ⟨ga, oa, ha, hcell⟩ := (H.out.s1.low (HA.out.2.2.2 ▸ hk)).at hjx
        obtain ⟨z, hz⟩ : ∃ z, z = P.l1.getD j 0 := ⟨_, rfl⟩
        have hzr := H.out.r1 _ (getD_mem hjx)
        rw [← hz] at hcell hzr
        have HP : Hid (Calls _ _ _ _ _) := pick_any z 34 wr (by omega) (by omega) hzr.1 hzr.2
        obtain ⟨l', W', hap, how, hgr⟩ := append_int ((pk z 34 : Nat) : Int) _ j _ ho (by omega)
        have HAP : Hid (∀ ty, _) := hap
        have HR' : Hid (W'.ownsRow 0 3 1 l' (j + 1) (ivs (Ls P (j + 1))) ∧ Mm W' mb g (List.replicate 32 0) ∧ Keeps (fun k => N ≤ k) w W' ∧ Sep W' N (F5 (MF mb g) nF (RF l') nF nF)) := by
          have hLs : Ls P (j + 1) = Ls P j ++ [((pk z 34 : Nat) : Int)] := by
            unfold Ls
            rw [List.take_add_one, List.getElem?_eq_getElem hjx, List.map_append, hz]
            simp only [Option.toList, List.map_cons, List.map_nil, List.getD, List.getElem?_eq_getElem hjx, Option.getD]
          refine ⟨by rw [hLs]; simpa [ivs] using how, hm.kept hgr.keeps ?_ ?_, hk.trans hgr.keeps ?_, hsp.upd 2 ?_ ?_ ?_ hgr.keeps.size (by have := hk.size; have := HA.out.2.2.2; omega)⟩
          · intro e; have := hsp.one 0 2 mb (.inl ⟨rfl, .inl rfl⟩) (.inr (.inr (.inl ⟨rfl, e.symm⟩))); omega
          · intro e; have := hsp.one 0 2 g (.inl ⟨rfl, .inr rfl⟩) (.inr (.inr (.inl ⟨rfl, e.symm⟩))); omega
          · intro b _ e; exact hsp.ge 2 b (.inr (.inr (.inl ⟨rfl, e.symm⟩)))
          · rintro k (⟨h, _⟩ | ⟨h, _⟩ | ⟨_, h⟩ | ⟨h, _⟩ | ⟨h, _⟩)
            · omega
            · omega
            · rcases hgr.fresh with e | ⟨k', e, hk'⟩
              · left; exact .inr (.inr (.inl ⟨rfl, by unfold RF at *; rw [← e]; exact h⟩))
              · right; unfold RF at h; rw [e] at h; cases h; exact hk'
            · omega
            · omega
          · rintro k (⟨h, _⟩ | ⟨h, _⟩ | ⟨_, h⟩ | ⟨h, _⟩ | ⟨h, _⟩)
            · omega
            · omega
            · exact owns_lt how h
            · omega
            · omega
          · rintro i hi k (⟨rfl, h⟩ | ⟨rfl, h⟩ | ⟨rfl, h⟩ | ⟨rfl, h⟩ | ⟨rfl, h⟩)
            · exact .inl ⟨rfl, h⟩
            · exact absurd h fun e => e
            · omega
            · exact absurd h fun e => e
            · exact absurd h fun e => e
        clear ho hm hk hsp hap how hgr hzr hz HA
        go_wp2_with fail
        refine HP.out.mono ?_
        rintro e wz ⟨rfl, hw⟩
        obtain rfl := hw.symm
        clear hw HP
        go_wp2_with (at_builtin; go_must (refine wpList_append_run rfl (.tmp 54) (.tmp 60) 27 27 rfl u9 (.slice (some ⟨wr.heap.size, 0, none⟩) 1 1) l' W' rfl rfl HAP.out ?_; refine Hid.out ?_))
        unfold Hid
        clear HAP hcell
        go_wp2
        rw [← ha]
        clear ha
        go_roundw
        case rel => exact ⟨j + 1, by omega, by omega, by go_num, HR'.out⟩
        case measure => simp [intOf]; omega
      · by_cases hlt1 : j < n1
        · have hlt1' : (j : Int) < n1 := by omega
          have hlt2' : ¬ (j : Int) < 6 := by omega
          clear ho hm hk hsp hlt
          go_wp2
          go_meet
          exact ⟨j, by omega, by omega, rfl, HR.out⟩
        · have hlt1' : ¬ (j : Int) < n1 := by omega
          clear ho hm hk hsp hlt
          go_wp2
          go_meet
          exact ⟨j, by omega, by omega, rfl, HR.out⟩
  case rest =>
    obtain ⟨j, hj1, hj6, rfl, ho, hm, hk, hsp⟩ := hcut
    obtain ⟨al, cl, rfl, -, -⟩ := owns_slice ho
    have hlen : (Ls P j).length = j := by unfold Ls; rw [List.length_map, List.length_take]; have := HN.out.1; omega
    have hso : SegI wc al (Ls P j) := owns_segI (c := cl) (by rw [hlen]; exact ho)
    have hLt : ∀ z ∈ Ls P j, z ≤ 9223372036854775807 := by
      intro z hz
      obtain ⟨y, _, rfl⟩ := List.mem_map.1 hz
      have := pk_lt y 34 (by omega)
      omega
    have HC := newc_any al cl (Ls P j) wc hso (by rw [hlen]; omega) hLt
    rw [hlen] at HC
    have HC : Hid (Calls _ _ _ _ _) := HC
    have HR : Hid (wc.ownsRow 0 3 1 (.slice al j cl) j (ivs (Ls P j)) ∧ Mm wc mb g (List.replicate 32 0) ∧ Keeps (fun k => N ≤ k) w wc ∧ Sep wc N (F5 (MF mb g) nF (RF (.slice al j cl)) nF nF) ∧ (Ls P j).length = j ∧ N = w.heap.size) := ⟨ho, hm, hk, hsp, hlen, HA.out.2.2.2⟩
    clear ho hm hk hsp hlen hso hLt HA
    go_wp2_with fail
    refine HC.out.mono ?_
    rintro e w3 ⟨X, rfl, hX⟩
    have HX : Hid (A1 N w w3 mb g (List.replicate 32 0) X (.slice al j cl) (Ls P j) ∧ X.tk = [] ∧ X.st = settledN (Ls P j) []) := by
      obtain ⟨e1, e2, e3, hi, hf, hk3⟩ := hX
      refine ⟨⟨HR.out.2.1.grown hk3, hi, ?_, ?_, HR.out.2.2.1.trans hk3 (fun _ _ e => e.elim), e1, HR.out.2.2.2.2.2⟩, e2, e3⟩
      · rw [HR.out.2.2.2.2.1]; exact owns_kept HR.out.1 hk3 (fun _ _ e => e)
      · refine HR.out.2.2.2.1.upd 1 ?_ ?_ ?_ hk3.size (by have := HR.out.2.2.1.size; have := HR.out.2.2.2.2.2; omega)
        · intro k hk; exact .inr (hf k (un1 hk))
        · intro k hk; exact hi.lt (un1 hk)
        · rintro i hi k (⟨rfl, h⟩ | ⟨rfl, h⟩ | ⟨rfl, h⟩ | ⟨rfl, h⟩ | ⟨rfl, h⟩)
          · exact f0 h
          · omega
          · exact f2 h
          · exact f3 h
          · exact f4 h
    obtain ⟨b1, hb1⟩ : ∃ b1, b1 = X.b := ⟨_, rfl⟩
    rw [← hb1]
    have HB1 : Hid (b1 = X.b) := hb1
    clear hb1
    have HC2 : Hid (Calls _ _ _ _ _) := newc_any none 0 [] w3 (.inl rfl) (by simp) (by simp)
    clear hX HC HR
    go_wp2_with fail
    refine HC2.out.mono ?_
    rintro e w4 ⟨X0, rfl, hX0⟩
    have HX4 : Hid (A1 N w w4 mb g (List.replicate 32 0) X (.slice al j cl) (Ls P j) ∧ X.b = b1) := ⟨HX.out.1.grown hX0.2.2.2.2.2, HB1.out.symm⟩
    have HAl := all_any X0 w4 hX0.2.2.2.1
    have hal : allB X0 = true := by unfold allB; rw [hX0.2.2.1]; rfl
    rw [hal] at HAl
    have HAl : Hid (Calls _ _ _ _ _) := HAl
    obtain ⟨b0, hb0⟩ : ∃ b0, b0 = X0.b := ⟨_, rfl⟩
    rw [← hb0] at HAl ⊢
    clear hX0 hal hb0 HB1 HC2 HX
    go_wp2_with fail
    refine HAl.out.mono ?_
    rintro e w5 ⟨rfl, hw⟩
    obtain rfl := hw.symm
    clear hw HAl
    have hn4 : (n4 : Int) ≤ 9223372036854775807 := by have := H.out.m4; have := HN.out.2.2.2; unfold maxLen at *; omega
    have hn2 : (n2 : Int) ≤ 9223372036854775807 := by have := H.out.m2; have := HN.out.2.1; unfold maxLen at *; omega
    have hn3 : (n3 : Int) ≤ 9223372036854775807 := by have := H.out.m3; have := HN.out.2.2.1; unfold maxLen at *; omega
    go_wp2_with fail
    go_loopw [13] (fun i wr => ∃ (q : Nat) (xs : List UInt32), q ≤ n4 ∧ i = .int .i64 q ∧ A1 N w wr mb g xs X (.slice al j cl) (Ls P j))
      (fun i _ => n4 - (intOf i).toNat)
    case atStart => exact ⟨0, _, by omega, rfl, HX4.out.1⟩
    case round =>
      obtain ⟨q, xs, hq, rfl, hA1⟩ := hrel
      have HA1 : Hid (A1 N w wr mb g xs X (.slice al j cl) (Ls P j)) := hA1
      by_cases hlt : q < n4
      · have hlt' : (q : Int) < n4 := by omega
        have hjx : q < P.l4.length := by have := HN.out.2.2.2; omega
        obtain ⟨ga, oa, ha, hcell⟩ := (H.out.s4.low hA1.low).at hjx
        have hzr := H.out.r4 _ (getD_mem hjx)
        obtain ⟨z, hz⟩ : ∃ z, z = P.l4.getD q 0 := ⟨_, rfl⟩
        rw [← hz] at hcell hzr
        have HP : Hid (Calls _ _ _ _ _) := pick_any z 34 wr (by omega) (by omega) hzr.1 hzr.2
        have HT : Hid (Calls _ _ _ _ _) := take_any mb g xs (pk z 34 : Nat) wr hA1.mm (by have := pk_lt z 34 (by omega); omega)
        clear hA1 hzr hz
        go_wp2_with fail
        refine HP.out.mono ?_
        rintro e wz ⟨rfl, hw⟩
        obtain rfl := hw.symm
        clear hw HP
        go_wp2_with fail
        refine HT.out.mono ?_
        rintro e w6 ⟨rfl, hm6, hk6⟩
        have HA6 : Hid (A1 N w w6 mb g (tkX xs (pk z 34 : Nat)) X (.slice al j cl) (Ls P j)) := HA1.out.mem hm6 hk6
        clear hm6 hk6 HT hcell
        go_wp2
        rw [← ha]
        clear ha
        go_roundw
        case rel => exact ⟨q + 1, _, by omega, by go_num, HA6.out⟩
        case measure => simp [intOf]; omega
      · have hlt' : ¬ (q : Int) < n4 := by omega
        clear hA1
        go_wp2_with fail
        go_loopw [14] (fun i wq => ∃ (p : Nat) (ys : List UInt32) (Y : Chn), p ≤ n2 ∧ i = .int .i64 p ∧ Y.b = b1 ∧ A1 N w wq mb g ys Y (.slice al j cl) (Ls P j))
          (fun i _ => n2 - (intOf i).toNat)
        case atStart => exact ⟨0, _, _, by omega, rfl, HX4.out.2, HA1.out⟩
        case round =>
          obtain ⟨p, ys, Y, hp, rfl, hYb, hA2⟩ := hrel
          have HA2 : Hid (A1 N w wr mb g ys Y (.slice al j cl) (Ls P j) ∧ Y.b = b1) := ⟨hA2, hYb⟩
          by_cases hlt2 : p < n2
          · have hlt2' : (p : Int) < n2 := by omega
            have hjx : p < P.l2.length := by have := HN.out.2.1; omega
            obtain ⟨ga, oa, ha, hcell⟩ := (H.out.s2.low hA2.low).at hjx
            have hzr := H.out.r2 _ (getD_mem hjx)
            obtain ⟨z, hz⟩ : ∃ z, z = P.l2.getD p 0 := ⟨_, rfl⟩
            rw [← hz] at hcell hzr
            have HT := act_any Y mb g ys z wr hA2.ch hA2.mm hA2.ng.1 hA2.ng.2 hzr.1 hzr.2
            rw [hYb] at HT
            have HT : Hid (Calls _ _ _ _ _) := HT
            clear hA2 hzr hz hYb
            go_wp2_with fail
            refine HT.out.mono ?_
            intro e w6 hcl
            obtain ⟨vt, hA6⟩ := HA2.out.1.call hcl
            obtain ⟨rfl, -⟩ := hcl
            have HA6 : Hid (A1 N w w6 mb g (actP Y.lk Y.tk Y.st ys z).xs (Y.with vt (actP Y.lk Y.tk Y.st ys z).tk (actP Y.lk Y.tk Y.st ys z).st) (.slice al j cl) (Ls P j) ∧ Y.b = b1) := ⟨hA6, HA2.out.2⟩
            clear HT hcell hA6
            go_wp2
            rw [← ha]
            clear ha
            go_roundw
            case rel => exact ⟨p + 1, _, Y.with vt (actP Y.lk Y.tk Y.st ys z).tk (actP Y.lk Y.tk Y.st ys z).st, by omega, by go_num, HA6.out.2, HA6.out.1⟩
            case measure => simp [intOf]; omega
          · have hlt2' : ¬ (p : Int) < n2 := by omega
            have HS := state_any Y wr hA2.ch
            rw [hYb] at HS
            have HS : Hid (Calls _ _ _ _ _) := HS
            clear hA2 hYb
            go_wp2_with fail
            refine HS.out.mono ?_
            rintro e w6 ⟨v', rfl, ho6, hf6, hk6⟩
            obtain ⟨a6, c6, rfl, -, -⟩ := owns_slice ho6
            have hA6 := HA2.out.1.grown hk6
            have hrow := hA6.row
            have hlj : (Ls P j).length = j := by unfold Ls; rw [List.length_map, List.length_take]; have := HN.out.1; omega
            have hcan := hA6.ch.can
            rw [hA6.lk] at hcan
            have HRs := restore_ok al a6 cl c6 (Ls P j) Y.tk (heldN Y.tk Y.st : Nat) (askedB Y.st) w6 (owns_segI (c := cl) (by rw [hlj]; rw [hlj] at hrow; exact hrow)) (owns_segW ho6) (by rw [hlj]; omega) (by rw [← hA6.lk]; exact hA6.ch.top) hcan
            rw [hlj] at HRs
            have HRs : Hid (Calls _ _ _ _ _) := HRs
            have HA6 : Hid (A1 N w w6 mb g ys Y (.slice al j cl) (Ls P j) ∧ Y.b = b1) := ⟨hA6, HA2.out.2⟩
            obtain ⟨hN', hhN⟩ : ∃ q : Nat, q = heldN Y.tk Y.st := ⟨_, rfl⟩
            obtain ⟨aB, haB⟩ : ∃ q, q = askedB Y.st := ⟨_, rfl⟩
            obtain ⟨nt, hnt⟩ : ∃ q, q = Y.tk.length := ⟨_, rfl⟩
            rw [← hhN, ← haB, ← hnt] at HRs ⊢
            have HaB : Hid (aB = askedB Y.st) := haB
            clear ho6 hf6 hk6 hA6 hrow hcan hlj hhN haB hnt HS HA2
            go_wp2_with fail
            refine HRs.out.mono ?_
            rintro e w7 ⟨D, rfl, e1, e2, e3, hD, hDF, hk7⟩
            have hA7 := HA6.out.1.grown hk7
            have hst : D.st = Y.st := by rw [e3, HaB.out, ← HA6.out.1.lk]; exact HA6.out.1.ch.again
            have HD : Hid (A1 N w w7 mb g ys Y (.slice al j cl) (Ls P j) ∧ Y.b = b1 ∧ D.In w7 ∧ (∀ k, D.F k → w6.heap.size ≤ k) ∧ D.lk = Y.lk ∧ D.tk = Y.tk ∧ D.st = Y.st ∧ w6.heap.size ≤ w7.heap.size ∧ A1 N w w6 mb g ys Y (.slice al j cl) (Ls P j)) := ⟨hA7, HA6.out.2, hD, hDF, by rw [e1, hA7.lk], e2, hst, hk7.size, HA6.out.1⟩
            have HCl : Hid (Calls _ _ _ _ _) := clone_any mb g ys w7 hA7.mm
            obtain ⟨b2, hb2⟩ : ∃ b2, b2 = D.b := ⟨_, rfl⟩
            rw [← hb2]
            have HB2 : Hid (D.b = b2) := hb2.symm
            clear e1 e2 e3 hD hDF hk7 hA7 hst HRs HA6 HaB hb2
            go_wp2_with fail
            refine HCl.out.mono ?_
            rintro e w8 ⟨mb2, hmb2, rfl, hm8, hk8⟩
            obtain ⟨g2, hg2⟩ : ∃ g2, g2 = w7.heap.size := ⟨_, rfl⟩
            rw [← hg2] at hmb2 hm8
            have HA8 : Hid (A3 N w w8 mb g mb2 g2 ys ys Y D ∧ Y.b = b1 ∧ D.b = b2 ∧ D.tk = Y.tk ∧ D.st = Y.st) := by
              have h7 := HD.out.1
              have h6 := HD.out.2.2.2.2.2.2.2.2
              have hsz := HD.out.2.2.2.2.2.2.2.1
              have hDF := HD.out.2.2.2.1
              refine ⟨⟨h7.mm.grown hk8, h7.ch.grown hk8, hm8, HD.out.2.2.1.grown hk8, ⟨?_, ?_, ?_⟩, h7.keeps.trans hk8 (fun _ _ e => e.elim), HD.out.2.2.2.2.1, h7.nw⟩, HD.out.2.1, HB2.out, HD.out.2.2.2.2.2.1, HD.out.2.2.2.2.2.2.1⟩
              · have hold : ∀ i k, F5 (MF mb g) Y.F nF (MF mb2 g2) D.F i k → (i < 3 ∧ F5 (MF mb g) Y.F (RF (.slice al j cl)) nF nF i k ∧ k < w6.heap.size) ∨ (i = 3 ∧ w7.heap.size ≤ k) ∨ (i = 4 ∧ w6.heap.size ≤ k ∧ k < w7.heap.size) := by
                  rintro i k (⟨rfl, h1⟩ | ⟨rfl, h1⟩ | ⟨rfl, h1⟩ | ⟨rfl, h1⟩ | ⟨rfl, h1⟩)
                  · exact .inl ⟨by omega, f0 h1, h6.sep.lt 0 k (f0 h1)⟩
                  · exact .inl ⟨by omega, f1 h1, h6.sep.lt 1 k (f1 h1)⟩
                  · exact absurd h1 fun e => e
                  · refine .inr (.inl ⟨rfl, ?_⟩)
                    rcases h1 with rfl | rfl <;> omega
                  · exact .inr (.inr ⟨rfl, hDF k h1, HD.out.2.2.1.lt h1⟩)
                intro a b k ha hb
                rcases hold a k ha with ⟨h1, h2, h3⟩ | ⟨h1, h2⟩ | ⟨h1, h2, h3⟩ <;> rcases hold b k hb with ⟨h4, h5, h6'⟩ | ⟨h4, h5⟩ | ⟨h4, h5, h6'⟩ <;> first | omega | exact h6.sep.one a b k h2 h5
              · rintro i k (⟨rfl, h1⟩ | ⟨rfl, h1⟩ | ⟨rfl, h1⟩ | ⟨rfl, h1⟩ | ⟨rfl, h1⟩)
                · have := h7.sep.lt 0 k (f0 h1); have := hk8.size; omega
                · have := h7.sep.lt 1 k (f1 h1); have := hk8.size; omega
                · exact absurd h1 fun e => e
                · exact hm8.ltF h1
                · have := HD.out.2.2.1.lt h1; have := hk8.size; omega
              · have hNs := h6.keeps.size
                have hNw := h6.nw
                rintro i k (⟨rfl, h1⟩ | ⟨rfl, h1⟩ | ⟨rfl, h1⟩ | ⟨rfl, h1⟩ | ⟨rfl, h1⟩)
                · exact h6.sep.ge 0 k (f0 h1)
                · exact h6.sep.ge 1 k (f1 h1)
                · exact absurd h1 fun e => e
                · rcases h1 with rfl | rfl <;> omega
                · have := hDF k h1; omega
            clear hmb2 hm8 hk8 HD HB2 hg2 HCl HA1 HX4
            go_wp2_with fail
            go_loopw [21] (fun i wq => ∃ (t : Nat) (xs : List UInt32) (X D : Chn), t ≤ n3 ∧ i = .int .i64 t ∧ A3 N w wq mb g mb2 g2 xs xs X D ∧ X.b = b1 ∧ D.b = b2 ∧ D.tk = X.tk ∧ D.st = X.st)
              (fun i _ => n3 - (intOf i).toNat)
            case atStart => exact ⟨0, ys, Y, D, by omega, rfl, HA8.out⟩
            case round =>
              clear HA8
              obtain ⟨t, xs, X, D, ht, rfl, hA, hXb, hDb, hDt, hDs⟩ := hrel
              have HA : Hid (A3 N w wr mb g mb2 g2 xs xs X D ∧ X.b = b1 ∧ D.b = b2 ∧ D.tk = X.tk ∧ D.st = X.st) := ⟨hA, hXb, hDb, hDt, hDs⟩
              by_cases hlt3 : t < n3
              · have hlt3' : (t : Int) < n3 := by omega
                have hjx : t < P.l3.length := by have := HN.out.2.2.1; omega
                obtain ⟨ga, oa, ha, hcell⟩ := (H.out.s3.low hA.low).at hjx
                have hzr := H.out.r3 _ (getD_mem hjx)
                obtain ⟨z, hz⟩ : ∃ z, z = P.l3.getD t 0 := ⟨_, rfl⟩
                rw [← hz] at hcell hzr
                have HZ : Hid (-9223372036854775808 ≤ z ∧ z ≤ 9223372036854775807 ∧ t < P.l3.length ∧ z = P.l3.getD t 0) := ⟨hzr.1, hzr.2, hjx, hz⟩
                have HT := act_any X mb g xs z wr hA.ch hA.mm hA.ng.1.1 hA.ng.1.2 hzr.1 hzr.2
                rw [hXb] at HT
                have HT : Hid (Calls _ _ _ _ _) := HT
                clear hA hzr hz hXb hDb hDt hDs hjx
                go_wp2_with fail
                refine HT.out.mono ?_
                intro e w6 hcl
                obtain ⟨vt, hA6⟩ := HA.out.1.call1 hcl
                obtain ⟨rfl, -⟩ := hcl
                obtain ⟨r, hr⟩ : ∃ r, r = actP X.lk X.tk X.st xs z := ⟨_, rfl⟩
                rw [← hr] at hA6 ⊢
                have hcell6 := (H.out.s3.low hA6.low).at' ha HZ.out.2.2.1
                rw [← HZ.out.2.2.2] at hcell6
                have HT2 := act_any D mb2 g2 xs z w6 hA6.ch2 hA6.mm2 hA6.ng.2.1 hA6.ng.2.2 HZ.out.1 HZ.out.2.1
                have hsame : actP D.lk D.tk D.st xs z = r := by rw [hr, hA6.lk, HA.out.2.2.2.1, HA.out.2.2.2.2]; rfl
                rw [hsame, HA.out.2.2.1] at HT2
                have HT2 : Hid (Calls _ _ _ _ _) := HT2
                have HA6 : Hid (A3 N w w6 mb g mb2 g2 r.xs xs (X.with vt r.tk r.st) D ∧ X.b = b1 ∧ D.b = b2) := ⟨hA6, HA.out.2.1, HA.out.2.2.1⟩
                obtain ⟨rd, hrd⟩ : ∃ rd, rd = r.did := ⟨_, rfl⟩
                obtain ⟨re, hre⟩ : ∃ re, re = r.e := ⟨_, rfl⟩
                have HRD : Hid (rd = r.did ∧ re = r.e) := ⟨hrd, hre⟩
                rw [← hrd, ← hre]
                clear HT hA6 hr hsame hcell HA hrd hre
                go_wp2_with fail
                refine HT2.out.mono ?_
                intro e w7 hcl
                obtain ⟨vt2, hA7⟩ := HA6.out.1.swap.call1 hcl
                obtain ⟨rfl, -⟩ := hcl
                have hA7 := hA7.swap
                rw [← HRD.out.1, ← HRD.out.2]
                have HA7 : Hid (A3 N w w7 mb g mb2 g2 r.xs r.xs (X.with vt r.tk r.st) (D.with vt2 r.tk r.st) ∧ X.b = b1 ∧ D.b = b2) := ⟨hA7, HA6.out.2⟩
                have HAl1 := all_any _ w7 hA7.ch
                have HAl2 := all_any _ w7 hA7.ch2
                have hal : allB (D.with vt2 r.tk r.st) = allB (X.with vt r.tk r.st) := rfl
                rw [hal] at HAl2
                obtain ⟨aB, haB⟩ : ∃ aB, aB = allB (X.with vt r.tk r.st) := ⟨_, rfl⟩
                rw [← haB] at HAl1 HAl2
                have HAl1 : Calls Try.prog 18 #[.pointer (some ⟨X.b, 0, none⟩)] w7 fun e w' => e = .returned (.bool aB) ∧ w' = w7 := HAl1
                have HAl2 : Calls Try.prog 18 #[.pointer (some ⟨D.b, 0, none⟩)] w7 fun e w' => e = .returned (.bool aB) ∧ w' = w7 := HAl2
                rw [HA6.out.2.1] at HAl1
                rw [HA6.out.2.2] at HAl2
                have HAl1 : Hid (Calls _ _ _ _ _) := HAl1
                have HAl2 : Hid (Calls _ _ _ _ _) := HAl2
                have hcell7 := (H.out.s3.low hA7.low).at' ha HZ.out.2.2.1
                rw [← HZ.out.2.2.2] at hcell7
                have HF1 : Hid (Calls _ _ _ _ _) := frees_any mb g r.xs z w7 hA7.mm HZ.out.1 HZ.out.2.1
                clear hA7 hal haB HT2 hcell6 HA6
                go_wp2_with fail
                refine HAl1.out.mono ?_
                rintro e wz ⟨rfl, hw⟩
                obtain rfl := hw.symm
                clear hw HAl1
                go_wp2_with fail
                refine HAl2.out.mono ?_
                rintro e wz ⟨rfl, hw⟩
                obtain rfl := hw.symm
                clear hw HAl2
                go_wp2_with fail
                refine HF1.out.mono ?_
                rintro e w8 ⟨rfl, hm8, hk8⟩
                have hA8 := HA7.out.1.mem1 hm8 hk8
                have hcell8 := (H.out.s3.low hA8.low).at' ha HZ.out.2.2.1
                rw [← HZ.out.2.2.2] at hcell8
                have HF2 : Hid (Calls _ _ _ _ _) := frees_any mb2 g2 r.xs z w8 hA8.mm2 HZ.out.1 HZ.out.2.1
                have HA8 : Hid (A3 N w w8 mb g mb2 g2 (fsX r.xs z) r.xs (X.with vt r.tk r.st) (D.with vt2 r.tk r.st) ∧ X.b = b1 ∧ D.b = b2) := ⟨hA8, HA7.out.2⟩
                clear hA8 hm8 hk8 HF1 hcell7 HA7
                go_wp2_with fail
                refine HF2.out.mono ?_
                rintro e w9 ⟨rfl, hm9, hk9⟩
                have HA9 : Hid (A3 N w w9 mb g mb2 g2 (fsX r.xs z) (fsX r.xs z) (X.with vt r.tk r.st) (D.with vt2 r.tk r.st) ∧ X.b = b1 ∧ D.b = b2) := ⟨(HA8.out.1.swap.mem1 hm9 hk9).swap, HA8.out.2⟩
                clear hm9 hk9 HF2 hcell8 HA8
                go_wp2
                rw [← ha]
                clear ha
                go_roundw
                case rel => exact ⟨t + 1, fsX r.xs z, X.with vt r.tk r.st, D.with vt2 r.tk r.st, by omega, by go_num, HA9.out.1, HA9.out.2.1, HA9.out.2.2, rfl, rfl⟩
                case measure => simp [intOf]; omega
              · have hlt3' : ¬ (t : Int) < n3 := by omega
                have HW1 : Hid (Calls _ _ _ _ _) := words_any mb g xs wr hA.mm
                clear hA hXb hDb hDt hDs
                go_wp2_with fail
                refine HW1.out.mono ?_
                rintro e w6 ⟨rfl, hb6, hk6⟩
                have HW2 : Hid (Calls _ _ _ _ _) := words_any mb2 g2 xs w6 (HA.out.1.mm2.grown hk6)
                have H6 : Hid (Blk w6 wr.heap.size (wvs xs) 26 ∧ Keeps (fun _ => False) wr w6) := ⟨hb6, hk6⟩
                clear hb6 hk6 HW1
                go_wp2_with fail
                refine HW2.out.mono ?_
                rintro e w7 ⟨rfl, hb7, hk7⟩
                have HS7 : Hid (Calls _ _ _ _ _) := sameWords_any (some ⟨wr.heap.size, 0, none⟩) (some ⟨w6.heap.size, 0, none⟩) xs xs.length xs.length w7 (segW_of_blk (H6.out.1.kept hk7 (fun e => e))) (segW_of_blk hb7) (by have := HA.out.1.mm.small; omega)
                have H7 : Hid (Keeps (fun _ => False) w6 w7) := hk7
                clear hb7 hk7 HW2
                go_wp2_with fail
                refine HS7.out.mono ?_
                rintro e w10 ⟨rfl, hk10⟩
                have HK10 : Hid (Keeps (fun _ => False) w7 w10) := hk10
                clear hk10 HS7
                go_wp2
                go_ret
                refine ⟨rfl, ?_⟩
                have h1 := (H6.out.2.trans H7.out fun _ _ e => e).trans HK10.out fun _ _ e => e
                exact (HA.out.1.low.trans h1 fun _ _ e => e.elim).mono fun b hb e => by omega

end Go.Proofs.Ytadhldpeklkcmaa
