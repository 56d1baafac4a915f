import Derived.Test.YtipejahmjdamjaaGreatDoorNj
namespace Go.Proofs.YtipejahmjdamjaaGreatDoor
open Go.RowKit Go.Shelf
set_option linter.unusedVariables false
set_option linter.unusedSimpArgs false
set_option maxRecDepth 20000

theorem own_not_blk {w : World} {e t : TypeId} {s n b : Nat} {v : Value} {vs l : List Value} (h : w.ownsRow 0 e s v n vs) (hb : v.ownBlock = some b) (hB : Blk w b l t) (ht : e ≠ t) : False := by
  rcases h.2 with ⟨rfl, _⟩ | ⟨g, cap, cur, rfl, _, hg, _⟩
  · simp [Value.ownBlock] at hb
  · simp [Value.ownBlock] at hb
    subst hb
    unfold Blk at hB
    rw [hg] at hB
    injection hB with h1
    injection h1 with _ h2
    exact ht h2
theorem seg_of {w : World} {a : Option Addr} {n c : Nat} {ls : List Tl.Lf} (h : w.ownsRow 0 64 3 (.slice a n c) n (Tl.flatL ls)) (hn : n = ls.length) : Tl.SegL w a ls := by
  subst hn
  obtain ⟨a2, c2, e, _, _, _, hs⟩ := Tl.row_val h
  injection e with e1 _ _
  rw [e1]
  exact hs
theorem GrL.kept {w0 w w' : World} {a : Option Addr} {n c : Nat} {m g : Int} {p : Nat} {v : Value} (h : GrL w0 a n c m g p v w) (hK : Keeps (fun _ => False) w w') : GrL w0 a n c m g p v w' :=
  ⟨owns_kept h.1 hK fun _ _ h => h, owns_kept h.2.1 hK fun _ _ h => h, h.2.2.1, h.2.2.2.trans hK fun _ _ h => h.elim⟩
theorem marks_get {n : Nat} {g : Int} {i : Nat} {x : Tl.Lf} (h : (marksL n g)[i]? = some x) : x.p = g := by
  unfold marksL at h
  rw [List.getElem?_replicate] at h
  split at h
  · injection h with h; rw [← h]; rfl
  · simp at h
theorem marks_hi {n : Nat} {m g : Int} {i : Nat} {x : Tl.Lf} (h : (marksL n m ++ marksL 17 g)[i]? = some x) (hi : n ≤ i) : x.p = g := by
  rw [List.getElem?_append_right (by simpa [marksL] using hi)] at h
  exact marks_get h

set_option maxHeartbeats 8000000 in
theorem apart_any (rg1 rg2 : List UInt32) (pc1 pc2 lo mid hi : Nat) (st1 st2 : Nat → List Int) (ls1 ls2 : List Tl.Lf) (G1 G2 gv1 gv2 cap1 cap2 : Nat) (vs1 vs2 : Nat → Value) (w : World) (h1 : HO w lo mid st1 ls1 G1 gv1 cap1 vs1) (h2 : HO w mid hi st2 ls2 G2 gv2 cap2 vs2)
    (hhi : hi ≤ w.heap.size) (hl1 : rg1.length = 16) (hl2 : rg2.length = 16) (n1 : ls1.length ≤ 4) (n2 : ls2.length ≤ 4) (f1 : ∀ i, i < 4 → (st1 i).length ≤ 2) (f2 : ∀ i, i < 4 → (st2 i).length ≤ 2) :
    Calls Tryz.prog 49 #[.agg (heldL rg1 pc1 (.slice (some ⟨G1, 0, none⟩) 4 4) (.slice (some ⟨gv1, 0, none⟩) ls1.length cap1)).toArray, .agg (heldL rg2 pc2 (.slice (some ⟨G2, 0, none⟩) 4 4) (.slice (some ⟨gv2, 0, none⟩) ls2.length cap2)).toArray] w fun e w' => e = .returned (.bool true) ∧ Keeps (fun k => lo ≤ k ∧ k < hi) w w' := by
  obtain ⟨n, en⟩ : ∃ n, n = ls1.length := ⟨_, rfl⟩
  obtain ⟨m, em⟩ : ∃ m, m = ls2.length := ⟨_, rfl⟩
  rw [← en, ← em]
  obtain ⟨V1, eV1⟩ : ∃ V, V = heldL rg1 pc1 (.slice (some ⟨G1, 0, none⟩) 4 4) (.slice (some ⟨gv1, 0, none⟩) n cap1) := ⟨_, rfl⟩
  obtain ⟨V2, eV2⟩ : ∃ V, V = heldL rg2 pc2 (.slice (some ⟨G2, 0, none⟩) 4 4) (.slice (some ⟨gv2, 0, none⟩) m cap2) := ⟨_, rfl⟩
  obtain ⟨W2, eW2⟩ : ∃ W, W = (w.alloc (.cells V1.toArray 44)).alloc (.cells V2.toArray 44) := ⟨_, rfl⟩
  obtain ⟨b1, eb1⟩ : ∃ b, b = w.heap.size := ⟨_, rfl⟩
  obtain ⟨b2, eb2⟩ : ∃ b, b = w.heap.size + 1 := ⟨_, rfl⟩
  rw [← eV1, ← eV2]
  have kk : Keeps (fun _ => False) w W2 := by rw [eW2]; exact ((Keeps.refl _ w).alloc _).alloc _
  have hB1 : Blk W2 b1 V1 44 := by rw [eW2, eb1]; have := (Blk.new w V1.toArray 44).alloc (.cells V2.toArray 44); simpa using this
  have hB2 : Blk W2 b2 V2 44 := by rw [eW2, eb2]; have := Blk.new (w.alloc (.cells V1.toArray 44)) V2.toArray 44; simpa using this
  have HB : Hid (W2.cell? ⟨b1, 17, none⟩ = some (.slice (some ⟨G1, 0, none⟩) 4 4) ∧ W2.cell? ⟨b1, 18, none⟩ = some (.slice (some ⟨gv1, 0, none⟩) n cap1) ∧ W2.cell? ⟨b2, 17, none⟩ = some (.slice (some ⟨G2, 0, none⟩) 4 4) ∧ W2.cell? ⟨b2, 18, none⟩ = some (.slice (some ⟨gv2, 0, none⟩) m cap2) ∧ hi ≤ b1 ∧ hi ≤ b2) :=
    ⟨hB1.cell (by rw [eV1]; exact (heldL_get rg1 pc1 _ _ hl1).1), hB1.cell (by rw [eV1]; exact (heldL_get rg1 pc1 _ _ hl1).2), hB2.cell (by rw [eV2]; exact (heldL_get rg2 pc2 _ _ hl2).1), hB2.cell (by rw [eV2]; exact (heldL_get rg2 pc2 _ _ hl2).2), by omega, by omega⟩
  have q1 := h1.kept kk fun _ _ _ h => h
  have q2 := h2.kept kk fun _ _ _ h => h
  have HN : Hid (n = ls1.length ∧ m = ls2.length ∧ n ≤ 4 ∧ m ≤ 4) := ⟨en, em, by omega, by omega⟩
  have hcap1 : (n : Int) ≤ cap1 := by
    obtain ⟨a, c, e, e2, _⟩ := own_slice q1.row
    injection e with _ _ e3
    omega
  have hcap2 : (m : Int) ≤ cap2 := by
    obtain ⟨a, c, e, e2, _⟩ := own_slice q2.row
    injection e with _ _ e3
    omega
  have hn4 : (n : Int) ≤ 4 := by omega
  have hm4 : (m : Int) ≤ 4 := by omega
  have HQ : Hid (HO W2 lo mid st1 ls1 G1 gv1 cap1 vs1 ∧ HO W2 mid hi st2 ls2 G2 gv2 cap2 vs2 ∧ Keeps (fun _ => False) w W2 ∧ (∀ i, i < 4 → (st1 i).length ≤ 2) ∧ (∀ i, i < 4 → (st2 i).length ≤ 2) ∧ hi ≤ W2.heap.size) := ⟨q1, q2, kk, f1, f2, by have := kk.size; omega⟩
  have r1 : W2.ownsRow 0 64 3 (.slice (some ⟨gv1, 0, none⟩) n cap1) n (Tl.flatL (fillL ls1 (-1) 0)) := by
    have := q1.row; rw [← en] at this; simpa [fillL, marksL] using this
  have HR1 : Hid (W2.ownsRow 0 64 3 (.slice (some ⟨gv1, 0, none⟩) n cap1) n (Tl.flatL (fillL ls1 (-1) 0))) := r1
  have HW : Hid (W2 = (w.alloc (.cells V1.toArray 44)).alloc (.cells V2.toArray 44) ∧ b1 = w.heap.size ∧ b2 = w.heap.size + 1) := ⟨eW2, eb1, eb2⟩
  clear h1 h2 hhi hl1 hl2 n1 n2 f1 f2 en em eV1 eV2 eW2 eb1 eb2 kk hB1 hB2 q1 q2 r1
  have cu := HB.out.2.1
  go_enter Tryz.func49, Tryz.ntmps49
  go_upto_region 1 with fail
  rw [← HW.out.1, ← HW.out.2.2, ← HW.out.2.1]
  clear HW
  go_wp2
  clear cu
  go_loopw [5] (fun i wr => ∃ k : Nat, k ≤ n ∧ i = .int .i64 k ∧ wr.ownsRow 0 64 3 (.slice (some ⟨gv1, 0, none⟩) n cap1) n (Tl.flatL (fillL ls1 (-1) k)) ∧ Keeps (fun b => b = gv1) W2 wr) (fun i _ => n - (intOf i).toNat)
  case atStart => exact ⟨0, by omega, rfl, HR1.out, Keeps.refl _ _⟩
  case round =>
    obtain ⟨k, hk, rfl, hO, hK⟩ := hrel
    have cv := Ch.cell_kept HB.out.2.1 hK (by have := HB.out; have := HQ.out.1.gv; have := HQ.out.2.1.gv; intro h; simp at h; omega)
    by_cases hlt : k < n
    · obtain ⟨⟨z0, c0⟩, ⟨z1, c1⟩, ⟨z2, c2⟩, hf⟩ := row_cells hO hlt
      have f0 := hf (k * 3)
      have f1 := hf (k * 3 + 1)
      have f2 := hf (k * 3 + 2)
      have hkz : (k : Int) < n := by omega
      have HE : Hid ((((wr.setCell ⟨gv1, k * 3, none⟩ (.int .i64 (-1))).setCell ⟨gv1, k * 3 + 1, none⟩ (.int .i64 0)).setCell ⟨gv1, k * 3 + 2, none⟩ (.int .i64 0)).ownsRow 0 64 3 (.slice (some ⟨gv1, 0, none⟩) n cap1) n (Tl.flatL (fillL ls1 (-1) (k + 1))) ∧
          Keeps (fun b => b = gv1) W2 (((wr.setCell ⟨gv1, k * 3, none⟩ (.int .i64 (-1))).setCell ⟨gv1, k * 3 + 1, none⟩ (.int .i64 0)).setCell ⟨gv1, k * 3 + 2, none⟩ (.int .i64 0)) ∧ k < n) := by
        have h1 := owns_setLeaf hO (lm (-1)) hlt
        rw [fillL_set _ _ (by have := HN.out; omega)] at h1
        exact ⟨h1, ((hK.setCell _ _ fun _ => rfl).setCell _ _ fun _ => rfl).setCell _ _ fun _ => rfl, hlt⟩
      clear hO hK hf hlt hk
      go_wp2
      go_roundw
      case rel => exact ⟨k + 1, by have := HE.out.2.2; omega, by go_num, HE.out.1, HE.out.2.1⟩
      case measure => have := HE.out.2.2; simp [intOf]; omega
    · obtain rfl : n = k := by omega
      have HA : Hid (wr.ownsRow 0 64 3 (.slice (some ⟨gv1, 0, none⟩) n cap1) n (Tl.flatL (marksL n (-1))) ∧ Keeps (fun b => b = gv1) W2 wr) := by
        rw [fillL_all _ _ HN.out.1] at hO
        exact ⟨hO, hK⟩
      clear hO hK hlt hk
      obtain ⟨wA, hwA⟩ : ∃ wA, wA = wr := ⟨_, rfl⟩
      subst hwA
      have HR2 : Hid (wA.ownsRow 0 64 3 (.slice (some ⟨gv2, 0, none⟩) m cap2) m (Tl.flatL (fillL ls2 (-2) 0)) ∧ wA.cell? ⟨b2, 18, none⟩ = some (.slice (some ⟨gv2, 0, none⟩) m cap2) ∧ hi ≤ b2 ∧ gv2 < hi) := by
        have g1 := HQ.out.1.gv
        have g2 := HQ.out.2.1.gv
        refine ⟨?_, Ch.cell_kept HB.out.2.2.2.1 HA.out.2 (by have := HB.out; intro h; simp at h; omega), HB.out.2.2.2.2.2, g2.2⟩
        have h1 := owns_kept HQ.out.2.1.row HA.out.2 (fun b hb h => by simp [Value.ownBlock] at hb; omega)
        rw [← HN.out.2.1] at h1
        simpa [fillL, marksL] using h1
      go_wp2
      clear cv
      go_loopw [6] (fun i wr => ∃ k : Nat, k ≤ m ∧ i = .int .i64 k ∧ wr.ownsRow 0 64 3 (.slice (some ⟨gv2, 0, none⟩) m cap2) m (Tl.flatL (fillL ls2 (-2) k)) ∧ Keeps (fun b => b = gv2) wA wr) (fun i _ => m - (intOf i).toNat)
      case atStart => exact ⟨0, by omega, rfl, HR2.out.1, Keeps.refl _ _⟩
      case round =>
        obtain ⟨k, hk, rfl, hO, hK⟩ := hrel
        have cv := Ch.cell_kept HR2.out.2.1 hK (by have := HR2.out; intro h; simp at h; omega)
        by_cases hlt : k < m
        · obtain ⟨⟨z0, c0⟩, ⟨z1, c1⟩, ⟨z2, c2⟩, hf⟩ := row_cells hO hlt
          have f0 := hf (k * 3)
          have f1 := hf (k * 3 + 1)
          have f2 := hf (k * 3 + 2)
          have hkz : (k : Int) < m := by omega
          have HE : Hid ((((wr.setCell ⟨gv2, k * 3, none⟩ (.int .i64 (-2))).setCell ⟨gv2, k * 3 + 1, none⟩ (.int .i64 0)).setCell ⟨gv2, k * 3 + 2, none⟩ (.int .i64 0)).ownsRow 0 64 3 (.slice (some ⟨gv2, 0, none⟩) m cap2) m (Tl.flatL (fillL ls2 (-2) (k + 1))) ∧
              Keeps (fun b => b = gv2) wA (((wr.setCell ⟨gv2, k * 3, none⟩ (.int .i64 (-2))).setCell ⟨gv2, k * 3 + 1, none⟩ (.int .i64 0)).setCell ⟨gv2, k * 3 + 2, none⟩ (.int .i64 0)) ∧ k < m) := by
            have h1 := owns_setLeaf hO (lm (-2)) hlt
            rw [fillL_set _ _ (by have := HN.out; omega)] at h1
            exact ⟨h1, ((hK.setCell _ _ fun _ => rfl).setCell _ _ fun _ => rfl).setCell _ _ fun _ => rfl, hlt⟩
          clear hO hK hf hlt hk
          go_wp2
          go_roundw
          case rel => exact ⟨k + 1, by have := HE.out.2.2; omega, by go_num, HE.out.1, HE.out.2.1⟩
          case measure => have := HE.out.2.2; simp [intOf]; omega
        · obtain rfl : m = k := by omega
          have HC : Hid (wr.ownsRow 0 64 3 (.slice (some ⟨gv2, 0, none⟩) m cap2) m (Tl.flatL (marksL m (-2))) ∧ wr.ownsRow 0 64 3 (.slice (some ⟨gv1, 0, none⟩) n cap1) n (Tl.flatL (marksL n (-1))) ∧ Keeps (fun b => b = gv1 ∨ b = gv2) W2 wr) := by
            rw [fillL_all _ _ HN.out.2.1] at hO
            have g1 := HQ.out.1.gv
            have g2 := HQ.out.2.1.gv
            refine ⟨hO, owns_kept HA.out.1 hK (fun b hb h => by simp [Value.ownBlock] at hb; omega), (HA.out.2.mono fun b _ hb => .inl hb).trans hK fun b _ hb => .inr hb⟩
          clear hO hK hlt hk HA HR2 HR1
          obtain ⟨wC, hwC⟩ : ∃ wC, wC = wr := ⟨_, rfl⟩
          subst hwC
          have cu : wC.cell? ⟨b1, 18, none⟩ = some (.slice (some ⟨gv1, 0, none⟩) n cap1) := by
            have g1 := HQ.out.1.gv
            have g2 := HQ.out.2.1.gv
            exact Ch.cell_kept HB.out.2.1 HC.out.2.2 (by have := HB.out; intro h; simp at h; omega)
          go_wp2
          go_loopw [7, 9] (fun v i wr => ∃ t : Nat, t ≤ 17 ∧ i = .int .i64 t ∧ GrL wC (some ⟨gv1, 0, none⟩) n cap1 (-1) (-3) t v wr) (fun _ i _ => 17 - (intOf i).toNat)
          case atStart => exact ⟨0, by omega, rfl, GrL.start _ HC.out.2.1⟩
          case round =>
            obtain ⟨t, ht, rfl, hG⟩ := hrel
            by_cases hlt : t < 17
            · have htz : (t : Int) < 17 := by omega
              obtain ⟨v1, W1, hr1, hG1⟩ := GrL.one hG (fun b hb => owns_lt HC.out.2.1 hb) (by have := HN.out; omega) (by omega)
              have HR1 : Hid (∀ ty, _) := hr1
              have HG : Hid (GrL wC (some ⟨gv1, 0, none⟩) n cap1 (-1) (-3) (t + 1) v1 W1 ∧ t < 17) := ⟨hG1, hlt⟩
              clear hG hG1 hr1 hlt ht
              go_wp2_with (at_builtin; go_must (refine wpList_append_run rfl (.tmp 48) (.tmp 50) 42 42 rfl u7 (.slice (some ⟨wr.heap.size, 0, none⟩) 1 1) v1 W1 rfl rfl HR1.out ?_; refine Hid.out ?_))
              unfold Hid
              clear HR1
              go_wp2
              go_roundw
              case rel => exact ⟨t + 1, by have := HG.out.2; omega, by go_num, HG.out.1⟩
              case measure => have := HG.out.2; simp [intOf]; omega
            · have et : t = 17 := by omega
              have htz : ¬ (t : Int) < 17 := by omega
              have hte : (t : Int) ≤ 17 := by omega
              rw [et] at hG
              have HT : Hid (t = 17) := et
              clear et
              obtain ⟨ax, cx, rfl, -, -⟩ := own_slice hG.2.1
              obtain ⟨nx, hnx⟩ : ∃ nx, nx = n + 17 := ⟨_, rfl⟩
              rw [← hnx]
              have HD : Hid (GrL wC (some ⟨gv1, 0, none⟩) n cap1 (-1) (-3) 17 (.slice ax nx cx) wr ∧ nx = n + 17 ∧ wr.ownsRow 0 64 3 (.slice (some ⟨gv2, 0, none⟩) m cap2) m (Tl.flatL (marksL m (-2)))) := by
                refine ⟨by rw [hnx]; exact hG, hnx, owns_kept HC.out.1 hG.2.2.2 fun b hb hb2 => ?_⟩
                have g1 := HQ.out.1.gv
                have g2 := HQ.out.2.1.gv
                simp [Value.ownBlock] at hb hb2
                omega
              clear hG hlt ht hnx
              obtain ⟨wD, hwD⟩ : ∃ wD, wD = wr := ⟨_, rfl⟩
              subst hwD
              go_wp2
              go_loopw [8, 10] (fun v i wr => ∃ t : Nat, t ≤ 17 ∧ i = .int .i64 t ∧ GrL wD (some ⟨gv2, 0, none⟩) m cap2 (-2) (-4) t v wr) (fun _ i _ => 17 - (intOf i).toNat)
              case atStart => exact ⟨0, by omega, rfl, GrL.start _ HD.out.2.2⟩
              case round =>
                obtain ⟨t, ht, rfl, hG⟩ := hrel
                by_cases hlt : t < 17
                · have htz : (t : Int) < 17 := by omega
                  obtain ⟨v1, W1, hr1, hG1⟩ := GrL.one hG (fun b hb => owns_lt HD.out.2.2 hb) (by have := HN.out; omega) (by omega)
                  have HR1 : Hid (∀ ty, _) := hr1
                  have HG : Hid (GrL wD (some ⟨gv2, 0, none⟩) m cap2 (-2) (-4) (t + 1) v1 W1 ∧ t < 17) := ⟨hG1, hlt⟩
                  clear hG hG1 hr1 hlt ht
                  go_wp2_with (at_builtin; go_must (refine wpList_append_run rfl (.tmp 56) (.tmp 58) 42 42 rfl u8 (.slice (some ⟨wr.heap.size, 0, none⟩) 1 1) v1 W1 rfl rfl HR1.out ?_; refine Hid.out ?_))
                  unfold Hid
                  clear HR1
                  go_wp2
                  go_roundw
                  case rel => exact ⟨t + 1, by have := HG.out.2; omega, by go_num, HG.out.1⟩
                  case measure => have := HG.out.2; simp [intOf]; omega
                · have et : t = 17 := by omega
                  have htz2 : ¬ (t : Int) < 17 := by omega
                  rw [et] at hG
                  have HT2 : Hid (t = 17) := et
                  clear et
                  obtain ⟨ay, cy, rfl, -, -⟩ := own_slice hG.2.1
                  obtain ⟨ny, hny⟩ : ∃ ny, ny = m + 17 := ⟨_, rfl⟩
                  rw [← hny]
                  have HG : Hid (GrL wD (some ⟨gv2, 0, none⟩) m cap2 (-2) (-4) 17 (.slice ay (m + 17) cy) wr ∧ ny = m + 17) := ⟨hG, hny⟩
                  have kE0 : Keeps (fun b => b = gv1 ∨ b = gv2) W2 wr := by
                    have k1 := HC.out.2.2.trans HD.out.1.2.2.2 fun b _ hb => by simp [Value.ownBlock] at hb; exact .inl hb
                    exact k1.trans hG.2.2.2 fun b _ hb => by simp [Value.ownBlock] at hb; exact .inr hb
                  have c1 := Ch.cell_kept HB.out.2.1 kE0 (by have := HB.out; have := HQ.out.1.gv; have := HQ.out.2.1.gv; intro h; simp at h; omega)
                  have c2 := Ch.cell_kept HB.out.2.2.2.1 kE0 (by have := HB.out; have := HQ.out.1.gv; have := HQ.out.2.1.gv; intro h; simp at h; omega)
                  clear hG hny kE0 hlt ht
                  go_wp2_with fail
                  go_quiet (fail)
                  obtain ⟨wq, hwq⟩ : ∃ wq, wq = wr.drewN nq := ⟨_, rfl⟩
                  rw [← hwq]
                  have kq : Keeps (fun _ => False) wr wq := by rw [hwq]; exact (Keeps.refl _ _).drewN _
                  have hG := HG.out.1.kept kq
                  have hny := HG.out.2
                  clear c1 c2 hwq
                  obtain ⟨wr0, hwr0⟩ : ∃ wr0, wr0 = wr := ⟨_, rfl⟩
                  rw [← hwr0] at kq
                  clear HG hwr0
                  clear wr
                  obtain ⟨wr, hwr⟩ : ∃ wr, wr = wq := ⟨_, rfl⟩
                  subst hwr
                  have hx := HD.out.1
                  have g1 := HQ.out.1.gv
                  have g2 := HQ.out.2.1.gv
                  have kE : Keeps (fun b => b = gv1 ∨ b = gv2) W2 wr := by
                    have k1 := HC.out.2.2.trans hx.2.2.2 fun b _ hb => by simp [Value.ownBlock] at hb; exact .inl hb
                    exact k1.trans hG.2.2.2 fun b _ hb => by simp [Value.ownBlock] at hb; exact .inr hb
                  have x1 := owns_kept hx.1 hG.2.2.2 fun b hb hb2 => by simp [Value.ownBlock] at hb hb2; omega
                  have hgv2 : gv2 < wC.heap.size := owns_lt HC.out.1 rfl
                  have x2 := owns_kept hx.2.1 hG.2.2.2 fun b hb hb2 => by
                    rcases hx.2.2.1 with e | ⟨b3, e, h5⟩
                    · rw [e] at hb; simp [Value.ownBlock] at hb hb2; omega
                    · rw [e] at hb; injection hb with hb; simp [Value.ownBlock] at hb2; omega
                  have hwx : IntKind.i64.wrap ((n : Int) + 17) = (nx : Int) := by rw [IntKind.wrap_i64]; have := HD.out.2.1; omega
                  have hwy : IntKind.i64.wrap ((m : Int) + 17) = (ny : Int) := by rw [IntKind.wrap_i64]; omega
                  have C1 : Hid (Calls _ _ _ _ _) := leavesM_any (some ⟨gv1, 0, none⟩) n cap1 (marksL n (-1)) 0 n (-1) wr (seg_of x1 (by simp [marksL])) (by simp [marksL]) (by omega) (by omega) (by omega) (fun i _ _ x hx => marks_get hx)
                  have C2 : Hid (Calls _ _ _ _ _) := leavesM_any (some ⟨gv2, 0, none⟩) m cap2 (marksL m (-2)) 0 m (-2) wr (seg_of hG.1 (by simp [marksL])) (by simp [marksL]) (by omega) (by omega) (by omega) (fun i _ _ x hx => marks_get hx)
                  have x2' : wr.ownsRow 0 64 3 (.slice ax nx cx) nx (Tl.flatL (marksL n (-1) ++ marksL 17 (-3))) := by have := HD.out.2.1; rw [this] at x2 ⊢; exact x2
                  have y2' : wr.ownsRow 0 64 3 (.slice ay ny cy) ny (Tl.flatL (marksL m (-2) ++ marksL 17 (-4))) := by rw [hny]; exact hG.2.1
                  have C3 : Hid (Calls _ _ _ _ _) := leavesM_any ax nx cx (marksL n (-1) ++ marksL 17 (-3)) n nx (-3) wr (seg_of x2' (by simp [marksL]; exact HD.out.2.1)) (by simp [marksL]; exact HD.out.2.1) (by omega) (by have := HD.out.2.1; omega) (by have := HD.out.2.1; omega) (fun i hi _ x hx => marks_hi hx hi)
                  have C4 : Hid (Calls _ _ _ _ _) := leavesM_any ay ny cy (marksL m (-2) ++ marksL 17 (-4)) m ny (-4) wr (seg_of y2' (by simp [marksL]; exact hny)) (by simp [marksL]; exact hny) (by omega) (by omega) (by omega) (fun i hi _ x hx => marks_hi hx hi)
                  have nb : ∀ b i v, W2.cell? ⟨b, i, none⟩ = some v → hi ≤ b → wr.cell? ⟨b, i, none⟩ = some v := fun b i v h1 h2 => Ch.cell_kept h1 kE (by intro h; simp at h; omega)
                  have c1 := nb _ _ _ HB.out.2.1 HB.out.2.2.2.2.1
                  have c2 := nb _ _ _ HB.out.2.2.2.1 HB.out.2.2.2.2.2
                  -- all lists of lines, one behind the other
                  have ho1 : HO W2 lo mid st1 ls1 G1 gv1 cap1 vs1 := HQ.out.1
                  have ho2 : HO W2 mid hi st2 ls2 G2 gv2 cap2 vs2 := HQ.out.2.1
                  have hG1 : G1 ≠ gv1 ∧ G1 ≠ gv2 := ⟨fun e => by
                    have h1 := ho1.four.blk
                    rcases ho1.row.2 with ⟨e2, _⟩ | ⟨g3, cap3, cur3, e2, _, h3, _⟩
                    · cases e2
                    · cases e2
                      rw [e] at h1
                      unfold Blk at h1
                      rw [h3] at h1
                      injection h1 with h1
                      injection h1 with _ h1
                      exact absurd h1 (by decide), by have := ho1.g; omega⟩
                  have hG2 : G2 ≠ gv1 ∧ G2 ≠ gv2 := ⟨by have := ho2.g; omega, fun e => by
                    have h1 := ho2.four.blk
                    rcases ho2.row.2 with ⟨e2, _⟩ | ⟨g3, cap3, cur3, e2, _, h3, _⟩
                    · cases e2
                    · cases e2
                      rw [e] at h1
                      unfold Blk at h1
                      rw [h3] at h1
                      injection h1 with h1
                      injection h1 with _ h1
                      exact absurd h1 (by decide)⟩
                  have F1 : Ch.Four wr G1 vs1 st1 (fun b => lo ≤ b ∧ b < mid) := ⟨ho1.four.blk.kept kE (by intro h; omega), fun i hi' => owns_kept (ho1.four.row i hi') kE fun b hb hb2 => by
                      rcases hb2 with rfl | rfl
                      · exact own_ty (ho1.four.row i hi') ho1.row (by decide) hb rfl
                      · exact own_ty (ho1.four.row i hi') ho2.row (by decide) hb rfl, fun i hi' g hg => by have h9 := ho1.four.own i hi' g hg; have := kE.size; exact ⟨h9.1, h9.2.1, by omega⟩, ho1.four.apart⟩
                  have F2 : Ch.Four wr G2 vs2 st2 (fun b => mid ≤ b ∧ b < hi) := ⟨ho2.four.blk.kept kE (by intro h; omega), fun i hi' => owns_kept (ho2.four.row i hi') kE fun b hb hb2 => by
                      rcases hb2 with rfl | rfl
                      · exact own_ty (ho2.four.row i hi') ho1.row (by decide) hb rfl
                      · exact own_ty (ho2.four.row i hi') ho2.row (by decide) hb rfl, fun i hi' g hg => by have h9 := ho2.four.own i hi' g hg; have := kE.size; exact ⟨h9.1, h9.2.1, by omega⟩, ho2.four.apart⟩
                  obtain ⟨v3, W3, hr3, hO3, hA3⟩ := app_rows none 0 0 [] ⟨rfl, .inl ⟨rfl, rfl⟩⟩ G1 vs1 st1 _ F1 (by omega)
                  obtain ⟨a3, k3, rfl, -, -⟩ := own_slice hO3
                  have k3f : Keeps (fun _ => False) wr W3 := hA3.keeps.mono fun b _ hb => by simp [Value.ownBlock] at hb
                  have F2' := F2.kept k3f (fun h => h) fun _ _ h => h
                  have F1' := F1.kept k3f (fun h => h) fun _ _ h => h
                  rw [Nat.zero_add] at hO3 hr3
                  obtain ⟨v4, W4, hr4, hO4, hA4⟩ := app_rows a3 4 k3 ([] ++ Ch.four vs1) hO3 G2 vs2 st2 _ F2' (by omega)
                  rw [four8] at hO4
                  obtain ⟨LB, k4, rfl, hlb⟩ : ∃ LB k4, v4 = .slice (some ⟨LB, 0, none⟩) 8 k4 ∧ LB < W4.heap.size := by
                    rcases hO4.2 with ⟨_, e⟩ | ⟨g3, c3, cur3, e, _, h5, _⟩
                    · omega
                    · exact ⟨g3, c3, e, by rw [e] at hO4; exact owns_lt hO4 rfl⟩
                  have n3 : ∀ b, (Value.slice a3 4 k3).ownBlock = some b → wr.heap.size ≤ b := by
                    intro b hb
                    rcases hA3.own hb with h5 | h5
                    · simp [Value.ownBlock] at h5
                    · exact h5
                  have kW4 : Keeps (fun _ => False) wr W4 := k3f.trans hA4.keeps fun b hb hb2 => by have := n3 b hb2.symm; omega
                  have z1 := owns_kept x1 kW4 fun _ _ h => h
                  have z2 := owns_kept hG.1 kW4 fun _ _ h => h
                  have e1 : (marksL n (-1)).length = n := by simp [marksL]
                  have e2 : (marksL m (-2)).length = m := by simp [marksL]
                  have p1 : HO W4 lo mid st1 (marksL n (-1)) G1 gv1 cap1 vs1 := ⟨F1.kept kW4 (fun h => h) fun _ _ h => h, by rw [e1]; exact z1, ho1.g, ho1.gv⟩
                  have p2 : HO W4 mid hi st2 (marksL m (-2)) G2 gv2 cap2 vs2 := ⟨F2.kept kW4 (fun h => h) fun _ _ h => h, by rw [e2]; exact z2, ho2.g, ho2.gv⟩
                  obtain ⟨hAR, hAB, hsl⟩ := ar8 p1 p2 HQ.out.2.2.2.1 HQ.out.2.2.2.2.1 hO4
                  have hnG : ∀ b, AB (es8 vs1 vs2) b → b ≠ G1 ∧ b ≠ G2 := by
                    rintro b ⟨j, e, he, hb⟩
                    exact ⟨fun e2 => own_not_blk (hAR.own j e he) (by rw [hb, e2]) p1.four.blk (by decide), fun e2 => own_not_blk (hAR.own j e he) (by rw [hb, e2]) p2.four.blk (by decide)⟩
                  have HnG : Hid (∀ b, AB (es8 vs1 vs2) b → b ≠ G1 ∧ b ≠ G2) := hnG
                  have CA : Hid (Calls _ _ _ _ _) := apartInts_any LB 0 k4 (es8 vs1 vs2) _ W4 hAR hlb (by show (8 : Nat) ≤ _; omega)
                  have hlen8 : (es8 vs1 vs2).length = 8 := rfl
                  rw [hlen8] at CA
                  have c3 := nb _ _ _ HB.out.1 HB.out.2.2.2.2.1
                  have c4 := Ch.cell_kept (nb _ _ _ HB.out.2.2.1 HB.out.2.2.2.2.2) k3f fun h => h
                  have HR3 : Hid (∀ ty, _) := hr3
                  have HR4 : Hid (∀ ty, _) := hr4
                  have HP : Hid (HO W4 lo mid st1 (marksL n (-1)) G1 gv1 cap1 vs1 ∧ HO W4 mid hi st2 (marksL m (-2)) G2 gv2 cap2 vs2 ∧ (∀ b, AB (es8 vs1 vs2) b → lo ≤ b ∧ b < hi) ∧ (∀ j, j < 8 → ∃ a c, sel vs1 vs2 j = .slice a (stw st1 st2 j).length c) ∧ Keeps (fun k => lo ≤ k ∧ k < hi) w W4 ∧ W4.cell? ⟨b1, 17, none⟩ = some (.slice (some ⟨G1, 0, none⟩) 4 4) ∧ W4.cell? ⟨b2, 17, none⟩ = some (.slice (some ⟨G2, 0, none⟩) 4 4) ∧ hi ≤ b1 ∧ hi ≤ b2 ∧ hi ≤ W4.heap.size) := by
                    refine ⟨p1, p2, hAB, hsl, ?_, Ch.cell_kept c3 kW4 fun h => h, Ch.cell_kept (nb _ _ _ HB.out.2.2.1 HB.out.2.2.2.2.2) kW4 fun h => h, HB.out.2.2.2.2.1, HB.out.2.2.2.2.2, by have := HQ.out.2.2.2.2.2; have := kE.size; have := kW4.size; omega⟩
                    have s1 : Keeps (fun k => lo ≤ k ∧ k < hi) w W2 := HQ.out.2.2.1.mono fun _ _ h => h.elim
                    have s2 := s1.trans kE fun b _ hb => by
                      have := ho1.g; have := ho2.g
                      rcases hb with rfl | rfl
                      · exact ⟨by omega, by omega⟩
                      · exact ⟨by omega, by omega⟩
                    exact s2.trans kW4 fun _ _ h => h.elim
                  clear hnG x1 x2 x2' y2' hx g1 g2 kE hgv2 F1 F2 F1' F2' hr3 hr4 hO3 hO4 hA3 hA4 k3f n3 kW4 z1 z2 e1 e2 p1 p2 hAR hAB hsl ho1 ho2 hG1 hG2 nb HB HQ HN HC HD hG hny hlb hlen8
                  go_wp2_with fail
                  refine C1.out.mono ?_
                  rintro e' w1 ⟨rfl, rfl⟩
                  go_wp2_with fail
                  refine C2.out.mono ?_
                  rintro e' w2 ⟨rfl, rfl⟩
                  go_wp2_with fail
                  refine C3.out.mono ?_
                  rintro e' w3 ⟨rfl, rfl⟩
                  go_wp2_with fail
                  refine C4.out.mono ?_
                  rintro e' w4 ⟨rfl, rfl⟩
                  clear C1 C2 C3 C4 c1 c2
                  go_wp2_with (at_builtin; go_must (refine wpList_append_run rfl (.tmp 94) (.tmp 96) 41 41 rfl (.slice none 0 0) (.slice (some ⟨G1, 0, none⟩) 4 4) (.slice a3 4 k3) W3 rfl rfl HR3.out ?_; refine Hid.out ?_))
                  unfold Hid
                  clear HR3 c3
                  go_wp2_with (at_builtin; go_must (refine wpList_append_run rfl (.tmp 98) (.tmp 100) 41 41 rfl (.slice a3 4 k3) (.slice (some ⟨G2, 0, none⟩) 4 4) (.slice (some ⟨LB, 0, none⟩) 8 k4) W4 rfl rfl HR4.out ?_; refine Hid.out ?_))
                  unfold Hid
                  clear HR4 c4
                  go_wp2_with fail
                  refine CA.out.mono ?_
                  rintro e' W5 ⟨rfl, hAR5, k5⟩
                  have hp := HP.out
                  have H5 : Hid (AR W5 LB 0 (es8 vs1 vs2) mrk ∧ Keeps (fun k => lo ≤ k ∧ k < hi) w W5 ∧ W5.cell? ⟨b1, 17, none⟩ = some (.slice (some ⟨G1, 0, none⟩) 4 4) ∧ W5.cell? ⟨b2, 17, none⟩ = some (.slice (some ⟨G2, 0, none⟩) 4 4) ∧ Blk W5 G1 (Ch.four vs1) 99 ∧ Blk W5 G2 (Ch.four vs2) 99 ∧ lo ≤ G1 ∧ G1 < mid ∧ mid ≤ G2 ∧ G2 < hi ∧ hi ≤ b1 ∧ hi ≤ b2 ∧ hi ≤ W5.heap.size) := by
                    have g1 := hp.1.g
                    have g2 := hp.2.1.g
                    have hb1 := hp.2.2.2.2.2.2.2.1
                    have hb2 := hp.2.2.2.2.2.2.2.2.1
                    refine ⟨hAR5, hp.2.2.2.2.1.trans k5 fun b _ hb => hp.2.2.1 b hb, Ch.cell_kept hp.2.2.2.2.2.1 k5 fun hb => ?_, Ch.cell_kept hp.2.2.2.2.2.2.1 k5 fun hb => ?_, hp.1.four.blk.kept k5 fun hb => (HnG.out _ hb).1 rfl, hp.2.1.four.blk.kept k5 fun hb => (HnG.out _ hb).2 rfl, g1.1, g1.2, g2.1, g2.2, hb1, hb2, ?_⟩
                    · have := hp.2.2.1 _ hb; simp at this; omega
                    · have := hp.2.2.1 _ hb; simp at this; omega
                    · have := k5.size; have := hp.2.2.2.2.2.2.2.2.2; omega
                  have HS : Hid (∀ j, j < 8 → ∃ a c, sel vs1 vs2 j = .slice a (stw st1 st2 j).length c) := hp.2.2.2.1
                  have HM : Hid (∀ j, j < 4 → ∀ b, (vs2 j).ownBlock = some b → mid ≤ b ∧ b < hi) := fun j hj b hb => (hp.2.1.four.own j hj b hb).2.1
                  clear hp HP hAR5 k5 CA HnG
                  go_wp2
                  have cu := H5.out.2.2.1
                  go_loopw [14] (fun i wr => ∃ k : Nat, k ≤ 4 ∧ i = .int .i64 k ∧ Keeps (fun b => b = G1) W5 wr ∧ ∃ l : List Value, l.length = 4 ∧ Blk wr G1 l 99) (fun i _ => 4 - (intOf i).toNat)
                  case atStart => exact ⟨0, by omega, rfl, Keeps.refl _ _, _, rfl, H5.out.2.2.2.2.1⟩
                  case round =>
                    obtain ⟨k, hk, rfl, hK, l, hl, hB⟩ := hrel
                    have cu := Ch.cell_kept H5.out.2.2.1 hK (by have := H5.out; intro h; simp at h; omega)
                    by_cases hlt : k < 4
                    · have hkz : (k : Int) < 4 := by omega
                      obtain ⟨z, hz⟩ : ∃ z, l[k]? = some z := ⟨_, List.getElem?_eq_getElem (show k < l.length by omega)⟩
                      have cv := (hB.alloc (.cells #[.int .i64 (-5)] 3)).cell hz
                      have fv := (hB.alloc (.cells #[.int .i64 (-5)] 3)).frozen k
                      have HE : Hid (Keeps (fun b => b = G1) W5 ((wr.alloc (.cells #[.int .i64 (-5)] 3)).setCell ⟨G1, k, none⟩ (.slice (some ⟨wr.heap.size, 0, none⟩) 1 1)) ∧ (∃ l : List Value, l.length = 4 ∧ Blk ((wr.alloc (.cells #[.int .i64 (-5)] 3)).setCell ⟨G1, k, none⟩ (.slice (some ⟨wr.heap.size, 0, none⟩) 1 1)) G1 l 99) ∧ k < 4) :=
                        ⟨(hK.alloc _).setCell _ _ fun _ => rfl, ⟨_, by simp [hl], (hB.alloc _).setCell _ _⟩, hlt⟩
                      clear hK hB hl hz hlt hk
                      go_wp2
                      go_roundw
                      case rel => exact ⟨k + 1, by have := HE.out.2.2; omega, by go_num, HE.out.1, HE.out.2.1⟩
                      case measure => have := HE.out.2.2; simp [intOf]; omega
                    · have et : k = 4 := by omega
                      have hkz : ¬ (k : Int) < 4 := by omega
                      clear et
                      have H6 : Hid (Keeps (fun b => b = G1) W5 wr) := hK
                      clear cu
                      have cu := Ch.cell_kept H5.out.2.2.1 hK (by have := H5.out; intro h; simp at h; omega)
                      have c2 := Ch.cell_kept H5.out.2.2.2.1 hK (by have := H5.out; intro h; simp at h; omega)
                      clear hK hB hl hlt hk
                      obtain ⟨wF, hwF⟩ : ∃ wF, wF = wr := ⟨_, rfl⟩
                      subst hwF
                      go_wp2
                      go_loopw [15] (fun i wr => ∃ q : Nat, q ≤ 4 ∧ i = .int .i64 q ∧ wr = wF) (fun i _ => 4 - (intOf i).toNat)
                      case atStart => exact ⟨0, by omega, rfl, rfl⟩
                      case round =>
                        obtain ⟨q, hq, rfl, rfl⟩ := hrel
                        by_cases hlt : q < 4
                        · have hqz : (q : Int) < 4 := by omega
                          have hs4 : (Ch.four vs2)[q]? = some (vs2 q) := Ch.four_get vs2 hlt
                          have cv := Ch.cell_kept (H5.out.2.2.2.2.2.1.cell hs4) H6.out (by have := H5.out; intro h; simp at h; omega)
                          obtain ⟨a, c, e⟩ := HS.out (4 + q) (by omega)
                          have eA := H5.out.1.own (4 + q) _ (es8_at vs1 vs2 (by omega))
                          rw [e] at eA
                          have e5 : sel vs1 vs2 (4 + q) = vs2 q := by unfold sel; rw [if_neg (by omega)]; congr 1; omega
                          have hbo := HM.out q hlt
                          rw [← e5, e] at hbo
                          rw [← e5, e] at cv
                          obtain ⟨r, hr⟩ : ∃ r, r = (stw st1 st2 (4 + q)).length := ⟨_, rfl⟩
                          rw [← hr] at cv eA hbo
                          have HJ : Hid (q < 4) := hlt
                          by_cases hr0 : 0 < r
                          · have h0 := eA
                            unfold rwOf mrk Rw.lv at h0
                            obtain ⟨g, rfl, c0⟩ := owns_sliceT h0 0 (Mv (4 + q)) (by rw [List.getElem?_replicate, if_pos hr0])
                            have c0' := Ch.cell_kept c0 H6.out (by have := hbo g rfl; have := H5.out; intro h; simp at h; omega)
                            obtain ⟨M, eM⟩ : ∃ M, M = mk (4 + q) := ⟨_, rfl⟩
                            rw [show Mv (4 + q) = .int .i64 M by rw [eM]] at c0'
                            have hM5 : ¬ M = -5 := by rw [eM]; unfold mk; omega
                            have hrz : (0 : Int) < r := by omega
                            have hrc : (r : Int) ≤ 9000000000000000000 := by
                              obtain ⟨_, _, e6, e7, e8⟩ := own_slice h0
                              have := h0.1
                              have hl0 := H5.out.1.len (4 + q) _ (es8_at vs1 vs2 (by omega))
                              rw [e] at hl0
                              have hl2 : r ≤ 2147483647 := by rw [hr]; exact hl0
                              omega
                            clear hlt hq hs4 e eA e5 hbo hr h0 c0 eM hr0
                            go_wp2
                            go_roundw
                            case rel => exact ⟨q + 1, by have := HJ.out; omega, by go_num, trivial⟩
                            case measure => have := HJ.out; simp [intOf]; omega
                          · obtain rfl : r = 0 := by omega
                            clear hlt hq hs4 e eA e5 hbo hr hr0
                            go_wp2
                            go_roundw
                            case rel => exact ⟨q + 1, by have := HJ.out; omega, by go_num, trivial⟩
                            case measure => have := HJ.out; simp [intOf]; omega
                        · have et : q = 4 := by omega
                          have hqz : ¬ (q : Int) < 4 := by omega
                          clear et hlt hq
                          go_wp2
                          go_ret
                          exact ⟨rfl, H5.out.2.1.trans H6.out fun b hb e => by have := H5.out; rw [e]; exact ⟨by omega, by omega⟩⟩

end Go.Proofs.YtipejahmjdamjaaGreatDoor
