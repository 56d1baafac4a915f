import Derived.Test.YtglhfijgnfignaaGreatPX
import Derived.Handy
namespace Go.Proofs.YtglhfijgnfignaaGreat
namespace Mq
open Go.RowKit
set_option linter.unusedVariables false
set_option linter.unusedSimpArgs false
set_option maxHeartbeats 400000 in
theorem fill_zero (b g : Nat) (xs : List UInt32) (p n : Nat) (w : World) (h : Mm w b g xs) (hf : p + n ≤ xs.length) :
  Calls Tryz.prog 42 #[.pointer (some ⟨b, 0, none⟩), .int .i64 p, .int .i64 n, .int .u32 0] w fun e w' => e = .returned (.int .i64 0) ∧ Mm w' b g (lay xs p (List.replicate n 0)) ∧ Keeps (· = g) w w' := by
 have HC : Hid (Calls _ _ _ _ _) := run_in b g xs p n w h hf
 have hfit := at0_fit hf
 have hM := h.laid (at0 xs.length p) (List.replicate n 0) (by rw [List.length_replicate]; exact hfit)
 rw [lay_at0 xs p _ (by rw [List.length_replicate]; exact hf), ← rep_wvs] at hM
 have hcl := fun ty => run_clear_wb (w := w) ty g (at0 xs.length p) n (xs.length - p) _ 58 h.row (by rw [wvs_length]; exact hfit)
 obtain ⟨W1, hW1⟩ : ∃ W1, W1 = w.setRow g (List.take (at0 xs.length p) (wvs xs) ++ List.replicate n (Value.int .u32 0) ++ List.drop (at0 xs.length p + n) (wvs xs)).toArray := ⟨_, rfl⟩
 have hK : Keeps (· = g) w W1 := by rw [hW1]; exact setRow_keeps w g _
 rw [← hW1] at hcl
 have hM : Mm W1 b g (lay xs p (List.replicate n 0)) := by rw [hW1]; exact hM
 have HM : Hid (Mm _ _ _ _) := hM
 have HK : Hid (Keeps _ _ _) := hK
 obtain ⟨L, hL⟩ : ∃ L, L = xs.length - p := ⟨_, rfl⟩
 obtain ⟨o, ho⟩ : ∃ o, o = at0 xs.length p := ⟨_, rfl⟩
 rw [← hL, ← ho] at HC hcl
 have HCL : Hid (∀ ty, _) := hcl
 clear hcl hM hK h hf hL ho hW1 hfit
 go_enter Tryz.func42, Tryz.ntmps42
 go_wp2_with fail
 refine HC.out.mono ?_
 rintro e w1 ⟨rfl, hw⟩
 obtain rfl := hw.symm
 clear hw HC
 go_wp2_with (refine isClear (.tmp 24) 43 rfl ?_; go_must (refine wpList_clear_run rfl (.tmp 24) 43 rfl (.slice (some ⟨g, o, none⟩) n L) (.tuple #[]) W1 rfl HCL.out ?_))
 go_ret
 exact ⟨rfl, HM.out, HK.out⟩
theorem wvs_setm (xs : List UInt32) (p : Nat) (x : UInt32) : wvs (xs.set p x) = (wvs xs).set p (.int .u32 (x.toNat : Int)) := by simp [wvs, List.map_set]
def markW (i : Nat) : UInt32 := 2768240640 + UInt32.ofNat i * 7
def fW (N : Nat) (f : Nat → UInt32) : List Value := (List.range N).map fun i => .int .u32 ((f i).toNat : Int)
theorem fW_get {N : Nat} (f : Nat → UInt32) {i : Nat} (h : i < N) : (fW N f)[i]? = some (.int .u32 ((f i).toNat : Int)) := by
 unfold fW
 rw [List.getElem?_map, List.getElem?_range h]
 rfl
theorem fW_length (N : Nat) (f : Nat → UInt32) : (fW N f).length = N := by simp [fW]
theorem fW_set {N : Nat} (f : Nat → UInt32) (m : Nat) (x : UInt32) : (fW N f).set m (.int .u32 ((x).toNat : Int)) = fW N (fun i => if i = m then x else f i) := by
 apply List.ext_getElem?
 intro i
 rw [List.getElem?_set]
 by_cases hi : i < N
 ·
  rw [fW_get _ hi, fW_get _ hi]
  by_cases e : m = i
  ·
   subst e
   simp [fW_length, hi]
  ·
   have e2 : ¬ i = m := fun h => e h.symm
   simp [e, e2]
 ·
  have h1 : (fW N f)[i]? = none := by rw [List.getElem?_eq_none_iff, fW_length]; omega
  have h2 : (fW N (fun i => if i = m then x else f i))[i]? = none := by rw [List.getElem?_eq_none_iff, fW_length]; omega
  rw [h1, h2]
  by_cases e : m = i
  ·
   subst e; simp [fW_length, hi]
  ·
   simp [e]
theorem fW_congr {N : Nat} {f g : Nat → UInt32} (h : ∀ i, i < N → f i = g i) : fW N f = fW N g := by
 unfold fW
 refine List.map_congr_left fun i hi => ?_
 rw [h i (by simpa using hi)]
def spareW (ks : List UInt32) (i : Nat) : UInt32 := (ks[i]?).getD (markW i)
theorem same_any (a b : Option Addr) (c d : Nat) (xs : List UInt32) (w : World) (ha : SegW w a xs) (hb : SegW w b xs) (hl : xs.length ≤ 1000000000) :
  Calls Tryz.prog 17 #[.slice a xs.length c, .slice b xs.length d] w fun e w' => e = .returned (.bool true) ∧ Keeps (fun _ => False) w w' := by
 obtain ⟨L, hL⟩ : ∃ L, L = xs.length := ⟨_, rfl⟩
 have HS : Hid (SegW w a xs ∧ SegW w b xs ∧ L = xs.length) := ⟨ha, hb, hL⟩
 rw [← hL] at hl ⊢
 have hl2 : (L : Int) ≤ 1000000000 := by omega
 clear ha hb hL hl
 go_enter Tryz.func17, Tryz.ntmps17
 go_wp2
 go_loopw [5] (fun i wr => ∃ j : Nat, j ≤ L ∧ i = .int .i64 j ∧ Keeps (fun _ => False) w wr) (fun i _ => L - (intOf i).toNat)
 case atStart => exact ⟨0, by omega, rfl, Keeps.refl _ _⟩
 case round =>
  obtain ⟨j, hj, rfl, hk⟩ := hrel
  have HK : Hid (Keeps (fun _ => False) w wr) := hk
  by_cases hlt : j < L
  ·
   have hlt' : (j : Int) < L := by omega
   have hjx : j < xs.length := by rw [← HS.out.2.2]; exact hlt
   rcases HS.out.1.kept hk (fun _ _ e => e) with h0 | ⟨g1, o1, rfl, hc1⟩
   ·
    rw [h0] at hjx; simp at hjx
   rcases HS.out.2.1.kept hk (fun _ _ e => e) with h0 | ⟨g2, o2, rfl, hc2⟩
   ·
    rw [h0] at hjx; simp at hjx
   have d1 := hc1 j hjx
   have d2 := hc2 j hjx
   obtain ⟨v, hv⟩ : ∃ v : Nat, v = (xs[j]'hjx).toNat := ⟨_, rfl⟩
   rw [← hv] at d1 d2
   clear hk hjx hc1 hc2 hv hj
   go_wp2
   go_quiet (fail)
   go_wp2
   go_roundw
   case rel => exact ⟨j + 1, by omega, by go_num, HK.out.drewN _⟩
   case measure => simp [intOf]; omega
  ·
   obtain rfl : j = L := by omega
   clear hk
   go_wp2
   go_ret
   exact ⟨rfl, HK.out⟩
theorem copyWords_any (a : Option Addr) (c : Nat) (ms : List UInt32) (w : World) (hs : SegW w a ms) (hl : ms.length ≤ 1000) :
  Calls Tryz.prog 16 #[.slice a ms.length c] w fun e w' => e = .returned (.slice (some ⟨w.heap.size, 0, none⟩) ms.length ms.length) ∧ Blk w' w.heap.size (wvs ms) 58 ∧ Keeps (fun _ => False) w w' := by
 have hmk := run_make_words (w := w) ms.length (by omega)
 obtain ⟨W1, hW⟩ : ∃ W1, W1 = w.alloc (.cells (wvs (List.replicate ms.length 0)).toArray 58) := ⟨_, rfl⟩
 rw [← hW] at hmk
 obtain ⟨G, hG⟩ : ∃ G, G = w.heap.size := ⟨_, rfl⟩
 have hK1 : Keeps (fun _ => False) w W1 := by rw [hW]; exact (Keeps.refl _ w).alloc _
 have hB1 : Blk W1 G (wvs (List.replicate ms.length 0)) 58 := by rw [hW, hG]; exact Blk.new w _ 58
 have HB : Hid (Keeps (fun _ => False) w W1 ∧ Blk W1 G (wvs (ms.take 0 ++ List.replicate (ms.length - 0) 0)) 58 ∧ SegW w a ms ∧ G = w.heap.size) := ⟨hK1, by simpa using hB1, hs, hG⟩
 obtain ⟨n, hn⟩ : ∃ n, n = ms.length := ⟨_, rfl⟩
 have HN : Hid (n = ms.length) := hn
 rw [← hn, ← hG] at hmk
 rw [← hn, ← hG]
 have HM : Hid (_ = _) := hmk
 have hl2 : (n : Int) ≤ 1000 := by omega
 clear hmk hW hK1 hB1 hs hl hG hn
 go_enter Tryz.func16, Tryz.ntmps16
 go_wp2_with (at_make; refine wpList_make_run rfl _ _ 43 rfl (.int .i64 n) (.int .i64 n) (.slice (some ⟨G, 0, none⟩) n n) W1 rfl rfl HM.out ?_; refine Hid.out ?_)
 unfold Hid
 clear HM
 go_wp2
 go_loopw [4] (fun i wr => ∃ j : Nat, j ≤ n ∧ i = .int .i64 j ∧ Keeps (fun _ => False) w wr ∧ Blk wr G (wvs (ms.take j ++ List.replicate (ms.length - j) 0)) 58) (fun i _ => n - (intOf i).toNat)
 case atStart => exact ⟨0, by omega, rfl, HB.out.1, HB.out.2.1⟩
 case round =>
  obtain ⟨j, hj, rfl, hK, hB⟩ := hrel
  by_cases hlt : j < n
  ·
   have hlt' : (j : Int) < n := by omega
   have hjx : j < ms.length := by rw [← HN.out]; exact hlt
   rcases HB.out.2.2.1.kept hK (fun _ _ e => e) with h0 | ⟨g1, o1, rfl, hc1⟩
   ·
    rw [h0] at hjx; simp at hjx
   have d1 := hc1 j hjx
   have hlen : (ms.take j ++ List.replicate (ms.length - j) (0 : UInt32)).length = ms.length := by simp; omega
   have cu := hB.cell (wvs_get _ j (by rw [hlen]; exact hjx))
   have fu := hB.frozen j
   obtain ⟨u, hu⟩ : ∃ u : Nat, u = ((ms.take j ++ List.replicate (ms.length - j) (0 : UInt32))[j]'(by rw [hlen]; exact hjx)).toNat := ⟨_, rfl⟩
   rw [← hu] at cu
   have HR : Hid (Keeps (fun _ => False) w (wr.setCell ⟨G, j, none⟩ (.int .u32 ((ms[j]'hjx).toNat : Int))) ∧ Blk (wr.setCell ⟨G, j, none⟩ (.int .u32 ((ms[j]'hjx).toNat : Int))) G (wvs (ms.take (j + 1) ++ List.replicate (ms.length - (j + 1)) 0)) 58) := by
    refine ⟨hK.setCell _ _ fun h => by have := HB.out.2.2.2; have : G < w.heap.size := h; omega, ?_⟩
    have e : ms.take (j + 1) ++ List.replicate (ms.length - (j + 1)) (0 : UInt32) = (ms.take j ++ List.replicate (ms.length - j) 0).set j (ms[j]'hjx) := by
     have hlt2 : (ms.take j).length = j := by simp; omega
     rw [List.set_append_right _ _ (by omega), hlt2, Nat.sub_self, show ms.length - j = (ms.length - (j + 1)) + 1 by omega, List.replicate_succ, List.set_cons_zero, List.take_add_one, List.getElem?_eq_getElem hjx, List.append_assoc]
     rfl
    rw [e, wvs_setm]
    exact hB.setCell j _
   obtain ⟨v, hv⟩ : ∃ v : Nat, v = (ms[j]'hjx).toNat := ⟨_, rfl⟩
   rw [← hv] at d1 HR
   clear hK hB hjx hc1 hlen hu hv hj
   go_wp2
   go_roundw
   case rel => exact ⟨j + 1, by omega, by go_num, HR.out⟩
   case measure => simp [intOf]; omega
  ·
   obtain rfl : j = n := by omega
   have HF : Hid (Blk wr G (wvs ms) 58 ∧ Keeps (fun _ => False) w wr) := by
    rw [List.take_of_length_le (by have := HN.out; omega), show ms.length - j = 0 by have := HN.out; omega] at hB
    exact ⟨by simpa using hB, hK⟩
   clear hB hK
   go_wp2
   go_ret
   exact ⟨rfl, HF.out⟩
theorem markWBig (i : Nat) (w : World) (hi : i ≤ 35184372088000) : Calls Tryz.prog 30 #[.int .i64 i] w fun e w' => e = .returned (.int .u32 ((markW i).toNat : Int)) ∧ w' = w := by
 have e : ((markW i).toNat : Int) = (2768240640 + ((i : Int) % 4294967296 * 7) % 4294967296) % 4294967296 := by
  unfold markW
  rw [UInt32.toNat_add, UInt32.toNat_mul, UInt32.toNat_ofNat']
  have h1 : (2768240640 : UInt32).toNat = 2768240640 := rfl
  have h2 : (7 : UInt32).toNat = 7 := rfl
  rw [h1, h2]
  omega
 rw [e]
 have HI : Hid (i ≤ 35184372088000) := hi
 clear hi e
 go_enter Tryz.func30, Tryz.ntmps30
 go_wp2
 go_ret
 refine ⟨ret_int ?_, rfl⟩
 first | rfl | (simp only [IntKind.wrap_u32]; omega) | (have := HI.out; omega)
theorem makeWBig (w : World) (N : Nat) (hN : N ≤ 35184372088000) : (Instr.makeSlice 43 (.int .i64 N) (.int .i64 N)).run Tryz.prog w = .ok (.slice (some ⟨w.heap.size, 0, none⟩) N N) (w.alloc (.cells (fW N (fun _ => 0)).toArray 58)) := by
 obtain ⟨i0, hi, hz0, hz1, hz2⟩ := info_parts Tryz.info58
 have h := run_make (P := Tryz.prog) w 43 58 i0 _ Tryz.underlying43 hi hz0 .i64 .i64 N N (by omega) (by omega) (by rw [hz2]; omega) (by omega)
 rw [hz1, Nat.mul_one, Int.toNat_natCast] at h
 have e : madeCells (Value.int .u32 0).cells N = (fW N (fun _ => 0)).toArray := by
  apply Array.ext'
  apply List.ext_getElem?
  intro i
  have hm : i % 1 = 0 := by omega
  by_cases hi : i < N
  ·
   simp [madeCells, fW, hi, Value.cells, hm]
  ·
   simp [madeCells, fW, hi]
 rw [e] at h
 exact h
theorem handWBig (a : Option Addr) (n c : Nat) (ks : List UInt32) (w : World) (hs : SegW w a ks) (hn : n = ks.length) (hl : n ≤ 35184372087808) :
  Calls Tryz.prog 12 #[.slice a n c] w fun e w' => e = .returned (.slice (some ⟨w.heap.size, 0, none⟩) n (n + 70)) ∧ Blk w' w.heap.size (fW (n + 70) (spareW ks)) 58 ∧ Keeps (fun _ => False) w w' := by
 obtain ⟨N, hN⟩ : ∃ N, N = n + 70 := ⟨_, rfl⟩
 obtain ⟨W1, hW1⟩ : ∃ W1, W1 = w.alloc (.cells (fW N (fun _ => 0)).toArray 58) := ⟨_, rfl⟩
 have HM : Hid ((Instr.makeSlice 43 (.int .i64 N) (.int .i64 N)).run Tryz.prog w = .ok (.slice (some ⟨w.heap.size, 0, none⟩) N N) W1) := by
  have := makeWBig w N (by omega)
  rw [hW1]; exact this
 have hB : Blk W1 w.heap.size (fW N (fun _ => 0)) 58 := by rw [hW1]; exact Blk.new w _ 58
 have hK : Keeps (fun _ => False) w W1 := by rw [hW1]; exact (Keeps.refl _ w).alloc _
 have hnN : (n : Int) + 70 = (N : Int) := by omega
 have hwN : IntKind.i64.wrap ((n : Int) + 70) = (N : Int) := by rw [IntKind.wrap_i64]; omega
 obtain ⟨B, hBB⟩ : ∃ B, B = w.heap.size := ⟨_, rfl⟩
 rw [← hN, ← hBB]
 rw [← hBB] at hB HM
 have HB : Hid (Blk W1 B (fW N (fun _ => 0)) 58 ∧ Keeps (fun _ => False) w W1 ∧ SegW w a ks ∧ n = ks.length ∧ N = n + 70 ∧ B = w.heap.size ∧ N ≤ 35184372087878) := ⟨hB, hK, hs, hn, hN, hBB, by omega⟩
 have hN2 : (N : Int) ≤ 9000000000000000000 := by omega
 have hnle : (n : Int) ≤ N := by omega
 clear hB hK hs hn hN hBB hW1 hl
 go_enter Tryz.func12, Tryz.ntmps12
 go_wp2_with (at_make; refine wpList_make_run rfl _ _ 43 rfl (.int .i64 N) (.int .i64 N) (.slice (some ⟨B, 0, none⟩) N N) W1 rfl rfl HM.out ?_; refine Hid.out ?_)
 unfold Hid
 clear HM hwN
 go_wp2
 go_loopw [4] (fun i wr => ∃ m : Nat, m ≤ N ∧ i = .int .i64 m ∧ Keeps (fun _ => False) w wr ∧ Blk wr B (fW N (fun i => if i < m then markW i else 0)) 58) (fun i _ => N - (intOf i).toNat)
 case atStart => exact ⟨0, by omega, rfl, HB.out.2.1, by simpa using HB.out.1⟩
 case round =>
  obtain ⟨m, hm, rfl, hK, hB⟩ := hrel
  by_cases hlt : m < N
  ·
   have hmz : (m : Int) < N := by omega
   have cu := hB.cell (fW_get _ hlt)
   have fu := hB.frozen m
   have HR : Hid (Keeps (fun _ => False) w (wr.setCell ⟨B, m, none⟩ (.int .u32 ((markW m).toNat : Int))) ∧ Blk (wr.setCell ⟨B, m, none⟩ (.int .u32 ((markW m).toNat : Int))) B (fW N (fun i => if i < m + 1 then markW i else 0)) 58 ∧ m < N) := by
    refine ⟨hK.setCell _ _ fun h => by have := HB.out.2.2.2.2.2.1; simp at h; omega, ?_, hlt⟩
    have h1 := hB.setCell m (.int .u32 ((markW m).toNat : Int))
    rw [fW_set] at h1
    rw [fW_congr (f := fun i => if i < m + 1 then markW i else 0) fun i hi => ?_]
    ·
     exact h1
    ·
     by_cases e : i = m
     ·
      subst e; simp
     ·
      by_cases e2 : i < m
      ·
       have : i < m + 1 := by omega
       simp [e, e2, this]
      ·
       have : ¬ i < m + 1 := by omega
       simp [e, e2, this]
   have HMk : Hid (Calls _ _ _ _ _) := markWBig m wr (by have := HB.out.2.2.2.2.2.2; omega)
   obtain ⟨mk, hmk⟩ : ∃ mk : Nat, mk = (markW m).toNat := ⟨_, rfl⟩
   rw [← hmk] at HR HMk
   clear hmk
   clear hB hK hm hlt
   go_wp2_with fail
   refine HMk.out.mono ?_
   rintro e w1 ⟨rfl, hw⟩
   obtain rfl := hw.symm
   clear hw HMk
   go_wp2
   go_roundw
   case rel => exact ⟨m + 1, by have := HR.out.2.2; omega, by go_num, HR.out.1, HR.out.2.1⟩
   case measure => have := HR.out.2.2; simp [intOf]; omega
  ·
   obtain rfl : m = N := by omega
   have HR : Hid (Keeps (fun _ => False) w wr ∧ Blk wr B (fW m (fun i => markW i)) 58) := by
    refine ⟨hK, ?_⟩
    rw [fW_congr (g := fun i => if i < m then markW i else 0) fun i hi => by simp [hi]]
    exact hB
   clear hB hK hm hlt
   go_wp2
   go_loopw [5] (fun i wr => ∃ j : Nat, j ≤ n ∧ i = .int .i64 j ∧ Keeps (fun _ => False) w wr ∧ Blk wr B (fW m (fun i => if i < j then spareW ks i else markW i)) 58) (fun i _ => n - (intOf i).toNat)
   case atStart => exact ⟨0, by omega, rfl, HR.out.1, by simpa using HR.out.2⟩
   case round =>
    obtain ⟨j, hj, rfl, hK, hB⟩ := hrel
    by_cases hlt : j < n
    ·
     obtain ⟨g1, g2, g3, g4, g5, g6, g7⟩ := HB.out
     have hju : j < ks.length := by omega
     rcases g3 with h0 | ⟨b, o, rfl, hcell⟩
     ·
      exact absurd hju (by rw [h0]; simp)
     ·
      have hjz : (j : Int) < n := by omega
      have hjm : (j : Int) < m := by omega
      have cx := cell_kept (hcell j hju) hK fun h => h
      have cu := hB.cell (fW_get _ (show j < m by omega))
      have fu := hB.frozen j
      obtain ⟨x, hxx⟩ : ∃ x, x = ks[j]'hju := ⟨_, rfl⟩
      rw [← hxx] at cx
      have HR2 : Hid (Keeps (fun _ => False) w (wr.setCell ⟨B, j, none⟩ (.int .u32 ((x).toNat : Int))) ∧ Blk (wr.setCell ⟨B, j, none⟩ (.int .u32 ((x).toNat : Int))) B (fW m (fun i => if i < j + 1 then spareW ks i else markW i)) 58 ∧ j < n) := by
       refine ⟨hK.setCell _ _ fun h => by simp at h; omega, ?_, hlt⟩
       have h1 := hB.setCell j (.int .u32 ((x).toNat : Int))
       rw [fW_set] at h1
       rw [fW_congr (f := fun i => if i < j + 1 then spareW ks i else markW i) fun i hi => ?_]
       ·
        exact h1
       ·
        by_cases e : i = j
        ·
         subst e; simp [spareW, hju, hxx]
        ·
         by_cases e2 : i < j
         ·
          have : i < j + 1 := by omega
          simp [e, e2, this]
         ·
          have : ¬ i < j + 1 := by omega
          simp [e, e2, this]
      clear hB hK hj hlt hcell hju hxx g1 g2 g4 g5 g6 g7 HR
      go_wp2
      go_roundw
      case rel => exact ⟨j + 1, by have := HR2.out.2.2; omega, by go_num, HR2.out.1, HR2.out.2.1⟩
      case measure => have := HR2.out.2.2; simp [intOf]; omega
    ·
     obtain rfl : j = n := by omega
     have HR2 : Hid (Blk wr B (fW m (spareW ks)) 58 ∧ Keeps (fun _ => False) w wr) := by
      refine ⟨?_, hK⟩
      rw [fW_congr (g := fun i => if i < j then spareW ks i else markW i) fun i hi => ?_]
      ·
       exact hB
      ·
       by_cases e : i < j
       ·
        simp [e]
       ·
        have h1 : ks[i]? = none := by rw [List.getElem?_eq_none_iff]; have := HB.out.2.2.2.1; omega
        simp [e, spareW, h1]
     clear hB hK hj hlt HR
     go_wp2
     go_ret
     exact ⟨rfl, HR2.out⟩
end Mq
end Go.Proofs.YtglhfijgnfignaaGreat
