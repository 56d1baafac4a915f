import Derived.Test.YtekijhhpldnmnaaTm
import Derived.Deep.CutBlock
import Derived.Deep.CutRange
namespace Go.Proofs.Ytekijhhpldnmnaa
open Go.RowKit
set_option linter.unusedVariables false
set_option linter.unusedSimpArgs false

set_option maxRecDepth 20000 in
set_option maxHeartbeats 4000000 in
theorem rrlay_any (G M c q n d f : Nat) (xs : List UInt32) (v : Value) (ms : List (List UInt32)) (w : World) (hB : Blk w G (wvs xs) 52) (hM : M = xs.length) (hm : M ≤ 256) (hv : MsS (· ≠ G) w v ms) (hl : ∀ m ∈ ms, m.length ≤ n) (hd : 1 ≤ d ∧ d ≤ 8) (hn : n ≤ 16) (hf : f < d) (hq : q + d * (1 + n) ≤ M) (hms : ms.length ≤ d) :
    Calls Try.prog 68 #[.slice (some ⟨G, 0, none⟩) M c, .int .i64 q, .int .i64 n, .int .i64 d, .int .i64 f, v] w fun e w' => e = .returned (.tuple #[]) ∧ Blk w' G (wvs (lay xs q (flat (plsW n d f ms)))) 52 ∧ Keeps (· = G) w w' := by
  obtain ⟨a, cv, rfl, hcv, hlv⟩ := hv.form
  obtain ⟨T, hT⟩ : ∃ T : Nat, T = d * (1 + n) := ⟨_, rfl⟩
  have xT : (d : Int) * (1 + (n : Int)) = (T : Int) := by rw [hT]; simp
  have hTb := Nat.mul_le_mul hd.2 (show 1 + n ≤ 17 by omega)
  rw [← hT] at hq hTb
  obtain ⟨L, hL⟩ : ∃ L, L = ms.length := ⟨_, rfl⟩
  have HZ : Hid (∀ j, j < T → (lay xs q (List.replicate j 0)).length = M ∧ (lay xs q (List.replicate j 0)).set (q + j) 0 = lay xs q (List.replicate (j + 1) 0)) := fun j hj =>
    ⟨by rw [lay_length _ _ _ (by simp; omega), hM], lay_zeros _ _ _ (by omega)⟩
  have HZ2 : Hid (lay xs q (List.replicate T 0) = lay xs q (flat (plsW n d f (ms.take 0)))) := by
    show _ = _
    rw [List.take_zero, flat_none, hT]
  have HST : Hid (∀ (i : Nat) (m : List UInt32), ms[i]? = some m → ∃ K U : Nat, Int.tmod ((f : Int) + (i : Int)) (d : Int) = (K : Int) ∧ (K : Int) * (1 + (n : Int)) = (U : Int) ∧ (K : Int) < 8 ∧ (U : Int) + 1 + (n : Int) ≤ (T : Int) ∧ m.length ≤ n ∧ (lay xs q (flat (plsW n d f (ms.take i)))).length = M ∧
      lay ((lay xs q (flat (plsW n d f (ms.take i)))).set (q + U) (UInt32.ofNat m.length)) (q + U + 1) m = lay xs q (flat (plsW n d f (ms.take (i + 1))))) := fun i m hi => by
    have hil : i < ms.length := (List.getElem?_eq_some_iff.1 hi).1
    have hp := pos_lt hf (show i < d by omega)
    have e1 := Nat.mul_le_mul hp (Nat.le_refl (1 + n))
    rw [Nat.succ_mul] at e1
    have hfl := flat_len (d := d) (f := f) (fun x h => hl x (List.mem_of_mem_take h) : ∀ x ∈ ms.take i, x.length ≤ n)
    refine ⟨pos d f i, pos d f i * (1 + n), ?_, by simp, by omega, by omega, hl m (List.mem_of_getElem? hi), by rw [lay_length _ _ _ (by omega), hM], lay_step hl (by omega) hf hms hi⟩
    rw [Int.tmod_eq_emod_of_nonneg (by omega), ← pos_mod hf (by omega)]; simp
  have HAT : Hid (∀ (i : Nat) (m : List UInt32), ms[i]? = some m → ∃ g o B, a = some ⟨g, o, none⟩ ∧ ∀ wr, Keeps (· = G) w wr → wr.cell? ⟨g, o + i, none⟩ = some (.slice (some ⟨B, 0, none⟩) m.length m.length) ∧ Blk wr B (wvs m) 52) := fun i m hi => hv.at hB hi
  have HB : Hid (Blk w G (wvs xs) 52) := hB
  have HT0 : Hid (ms.take ms.length = ms) := List.take_of_length_le (Nat.le_refl _)
  have HMl : Hid (M = xs.length ∧ L = ms.length) := ⟨hM, hL⟩
  rw [← hL]
  have hd0 : ¬ (d : Int) = 0 := by omega
  have z1 : (d : Int) ≤ 8 := by omega
  have z2 : (f : Int) < (d : Int) := by omega
  have z4 : (n : Int) ≤ 16 := by omega
  have z5 : (M : Int) ≤ 256 := by omega
  have z6 : (q : Int) + (T : Int) ≤ (M : Int) := by omega
  have z7 : (L : Int) ≤ (d : Int) := by omega
  have HFm : Hid (∀ j, j < L → ∃ m, ms[j]? = some m) := fun j hj => ⟨_, List.getElem?_eq_getElem (by omega)⟩
  clear hB hM hv hl hT hTb hlv hL hm hms
  go_enter Try.func68, Try.ntmps68
  go_wp2
  go_loopw [12] (fun i wr => ∃ j : Nat, j ≤ T ∧ i = .int .i64 j ∧ Blk wr G (wvs (lay xs q (List.replicate j 0))) 52 ∧ Keeps (· = G) w wr) (fun i _ => T - (intOf i).toNat)
  case atStart => exact ⟨0, by omega, rfl, by rw [List.replicate_zero, lay_nil]; exact HB.out, Keeps.refl _ _⟩
  case round =>
    obtain ⟨j, hj, rfl, hb, hk⟩ := hrel
    by_cases hlt : j < T
    · have hlt' : (j : Int) < T := by omega
      obtain ⟨p1, p2⟩ := HZ.out j hlt
      have cu := hb.cell (wvs_wd (l := lay xs q (List.replicate j 0)) (i := q + j) (by omega))
      have fu := hb.frozen (q + j)
      have i1 : (q : Int) + (j : Int) < (M : Int) := by omega
      have HR : Hid (Blk (wr.setCell ⟨G, q + j, none⟩ (.int .u32 0)) G (wvs (lay xs q (List.replicate (j + 1) 0))) 52 ∧ Keeps (· = G) w (wr.setCell ⟨G, q + j, none⟩ (.int .u32 0))) := by
        refine ⟨?_, hk.setCell _ _ fun _ => rfl⟩
        rw [← p2, wvs_setm]
        exact hb.setCell (q + j) _
      obtain ⟨u, hu⟩ : ∃ u : Nat, u = (wd (lay xs q (List.replicate j 0)) (q + j)).toNat := ⟨_, rfl⟩
      rw [← hu] at cu
      clear hb hk p1 p2 hu
      go_wp2
      go_roundw
      case rel => exact ⟨j + 1, by omega, by go_num, HR.out⟩
      case measure => simp [intOf]; omega
    · obtain rfl : T = j := by omega
      rw [HZ2.out] at hb
      have H0 : Hid (Blk wr G (wvs (lay xs q (flat (plsW n d f (ms.take 0))))) 52 ∧ Keeps (· = G) w wr) := ⟨hb, hk⟩
      clear hb hk HZ HZ2
      go_wp2
      go_loopw [13] (fun i wr => ∃ j : Nat, j ≤ L ∧ i = .int .i64 j ∧ Blk wr G (wvs (lay xs q (flat (plsW n d f (ms.take j))))) 52 ∧ Keeps (· = G) w wr) (fun i _ => L - (intOf i).toNat)
      case atStart => exact ⟨0, by omega, rfl, H0.out⟩
      case round =>
        obtain ⟨i, hi, rfl, hb, hk⟩ := hrel
        by_cases hlt2 : i < L
        · have hlt3 : (i : Int) < L := by omega
          obtain ⟨m, hmi⟩ := HFm.out i hlt2
          obtain ⟨K, U, x1, x2, x3, x4, x5, x6, x7⟩ := HST.out i m hmi
          obtain ⟨g, o, B, rfl, hat⟩ := HAT.out i m hmi
          obtain ⟨Y, hY⟩ : ∃ Y, Y = lay xs q (flat (plsW n d f (ms.take i))) := ⟨_, rfl⟩
          rw [← hY] at hb x6 x7
          obtain ⟨ml, hml⟩ : ∃ ml, ml = m.length := ⟨_, rfl⟩
          rw [← hml] at x5 x7 hat
          have cu := hb.cell (wvs_wd (l := Y) (i := q + U) (by omega))
          have fu := hb.frozen (q + U)
          have c1 := (hat wr hk).1
          have x8 : (UInt32.ofNat ml).toNat = ml := ofNat_small (by omega)
          have hmod : (ml : Int) % 4294967296 = (ml : Int) := by omega
          have HS1 : Hid (Blk (wr.setCell ⟨G, q + U, none⟩ (.int .u32 ml)) G (wvs (lay (Y.set (q + U) (UInt32.ofNat ml)) (q + U + 1) (m.take 0))) 52 ∧ Keeps (· = G) w (wr.setCell ⟨G, q + U, none⟩ (.int .u32 ml))) := by
            refine ⟨?_, hk.setCell _ _ fun _ => rfl⟩
            rw [List.take_zero, lay_nil, wvs_setm, x8]
            exact hb.setCell (q + U) _
          have c2 := cell_kept c1 (Keeps.refl (fun _ => False) wr) (fun e => e)
          have HX : Hid (Y.length = M ∧ lay (Y.set (q + U) (UInt32.ofNat ml)) (q + U + 1) m = lay xs q (flat (plsW n d f (ms.take (i + 1)))) ∧ ml = m.length) := ⟨x6, x7, hml⟩
          have HA2 : Hid (∀ wr, Keeps (· = G) w wr → wr.cell? ⟨g, o + i, none⟩ = some (.slice (some ⟨B, 0, none⟩) ml ml) ∧ Blk wr B (wvs m) 52) := hat
          obtain ⟨u, hu⟩ : ∃ u : Nat, u = (wd Y (q + U)).toNat := ⟨_, rfl⟩
          rw [← hu] at cu
          have y1 : (q : Int) + (U : Int) < (M : Int) := by omega
          have y2 : (ml : Int) ≤ (n : Int) := by omega
          clear hb hk hat hY x6 x7 hml hu c2 H0 HAT
          go_wp2
          go_loopw [15] (fun k wx => ∃ j : Nat, j ≤ ml ∧ k = .int .i64 j ∧ Blk wx G (wvs (lay (Y.set (q + U) (UInt32.ofNat ml)) (q + U + 1) (m.take j))) 52 ∧ Keeps (· = G) w wx) (fun k _ => ml - (intOf k).toNat)
          case atStart => exact ⟨0, by omega, rfl, HS1.out⟩
          case round =>
            obtain ⟨j, hj, rfl, hb, hk⟩ := hrel
            obtain ⟨c1, hbm⟩ := HA2.out wr hk
            by_cases hlt4 : j < ml
            · have hlt5 : (j : Int) < ml := by omega
              have hYl : (Y.set (q + U) (UInt32.ofNat ml)).length = M := by rw [List.length_set]; exact HX.out.1
              have hLl : (lay (Y.set (q + U) (UInt32.ofNat ml)) (q + U + 1) (m.take j)).length = M := by
                have := HX.out.2.2
                rw [lay_length (Y.set (q + U) (UInt32.ofNat ml)) (q + U + 1) (m.take j) (by rw [hYl, List.length_take]; omega)]; exact hYl
              have cu := hb.cell (wvs_wd (l := lay (Y.set (q + U) (UInt32.ofNat ml)) (q + U + 1) (m.take j)) (i := q + U + 1 + j) (by omega))
              have fu := hb.frozen (q + U + 1 + j)
              have cm := hbm.cell (wvs_wd (l := m) (i := j) (by have := HX.out.2.2; omega))
              have i1 : (q : Int) + (U : Int) + 1 + (j : Int) < (M : Int) := by omega
              have HR : Hid (Blk (wr.setCell ⟨G, q + U + 1 + j, none⟩ (.int .u32 ((wd m j).toNat : Int))) G (wvs (lay (Y.set (q + U) (UInt32.ofNat ml)) (q + U + 1) (m.take (j + 1)))) 52 ∧ Keeps (· = G) w (wr.setCell ⟨G, q + U + 1 + j, none⟩ (.int .u32 ((wd m j).toNat : Int)))) := by
                refine ⟨?_, hk.setCell _ _ fun _ => rfl⟩
                have := HX.out.2.2
                rw [← lay_takes _ _ m j (by omega) (by omega), wvs_setm]
                exact hb.setCell (q + U + 1 + j) _
              obtain ⟨v1, hv1⟩ : ∃ v1 : Nat, v1 = (wd m j).toNat := ⟨_, rfl⟩
              obtain ⟨u1, hu1⟩ : ∃ u1 : Nat, u1 = (wd (lay (Y.set (q + U) (UInt32.ofNat ml)) (q + U + 1) (m.take j)) (q + U + 1 + j)).toNat := ⟨_, rfl⟩
              rw [← hv1] at cm HR
              rw [← hu1] at cu
              clear hb hk hbm hYl hLl hv1 hu1 HS1
              go_wp2
              go_roundw
              case rel => exact ⟨j + 1, by omega, by go_num, HR.out⟩
              case measure => simp [intOf]; omega
            · obtain rfl : ml = j := by omega
              have HF : Hid (Blk wr G (wvs (lay xs q (flat (plsW n d f (ms.take (i + 1)))))) 52 ∧ Keeps (· = G) w wr) := by
                have := HX.out.2.2
                rw [List.take_of_length_le (by omega), HX.out.2.1] at hb
                exact ⟨hb, hk⟩
              clear hb hk hbm HS1
              go_wp2
              go_roundw
              case rel => exact ⟨i + 1, by omega, by go_num, HF.out⟩
              case measure => simp [intOf]; omega
        · obtain rfl : L = i := by omega
          have HF : Hid (Blk wr G (wvs (lay xs q (flat (plsW n d f ms)))) 52 ∧ Keeps (· = G) w wr) := by
            rw [HMl.out.2, HT0.out] at hb
            exact ⟨hb, hk⟩
          clear hb hk
          go_wp2
          refine bodyPost_end (results_none rfl _ _ _) rfl ?_
          exact ⟨rfl, HF.out⟩

end Go.Proofs.Ytekijhhpldnmnaa
