import Derived.Test.YtonjmknjjdnjkaaItem
namespace Go.Proofs.Ytonjmknjjdnjkaa
open Go.RowKit
set_option linter.unusedVariables false

def wvs (ws : List UInt32) : List Value := ws.map fun x => .int .u32 (x.toNat : Int)
theorem wvs_length (ws : List UInt32) : (wvs ws).length = ws.length := by simp [wvs]
theorem wvs_get (ws : List UInt32) (i : Nat) (h : i < ws.length) : (wvs ws)[i]? = some (.int .u32 (ws[i].toNat : Int)) := by simp [wvs, h]

/-- These words can be read at this address. -/
def SegW (w : World) (a : Option Addr) (ws : List UInt32) : Prop :=
  ws = [] ∨ ∃ g o, a = some ⟨g, o, none⟩ ∧ ∀ j, (h : j < ws.length) → w.cell? ⟨g, o + j, none⟩ = some (.int .u32 (ws[j].toNat : Int))

theorem SegW.kept {S : Nat → Prop} {w w' : World} {a : Option Addr} {ws : List UInt32} (h : SegW w a ws) (hK : Keeps S w w') (hn : ∀ x, a = some x → ¬ S x.block) : SegW w' a ws := by
  rcases h with h | ⟨g, o, ha, hc⟩
  · exact .inl h
  · refine .inr ⟨g, o, ha, fun j hj => ?_⟩
    have h1 := hc j hj
    have hlt : g < w.heap.size := World.block_lt_of_cell? w ⟨g, o + j, none⟩ h1
    rw [World.cell?_of_block (w := w) (hK.block g hlt (hn _ ha))]
    exact h1

theorem segW_of_blk {w : World} {g : Nat} {ws : List UInt32} {t : TypeId} (h : Blk w g (wvs ws) t) : SegW w (some ⟨g, 0, none⟩) ws :=
  .inr ⟨g, 0, rfl, fun j hj => h.cell (by rw [Nat.zero_add]; exact wvs_get ws j hj)⟩

def packB (ws : List UInt32) : List UInt8 := ws.flatMap fun x => lowB 4 x.toNat
theorem packB_length (ws : List UInt32) : (packB ws).length = 4 * ws.length := by
  induction ws with
  | nil => rfl
  | cons x r ih => simp only [packB, List.flatMap_cons, List.length_append, lowB_length, List.length_cons] at *; omega
theorem packB_take (ws : List UInt32) (j : Nat) (h : j < ws.length) : packB (ws.take (j + 1)) = packB (ws.take j) ++ lowB 4 ws[j].toNat := by
  unfold packB
  rw [List.take_succ_eq_append_getElem h, List.flatMap_append]
  simp only [List.flatMap_cons, List.flatMap_nil, List.append_nil]

theorem pack_step (ws : List UInt32) (j n : Nat) (hn : n = ws.length) (h : j < n) :
    (bvs (packB (ws.take j)) ++ bvs (List.replicate (4 * (n - j)) 0)).take (4 * j) ++ bvs (lowB 4 (ws[j]'(by omega)).toNat) ++ (bvs (packB (ws.take j)) ++ bvs (List.replicate (4 * (n - j)) 0)).drop (4 * j + 4) =
      bvs (packB (ws.take (j + 1))) ++ bvs (List.replicate (4 * (n - (j + 1))) 0) := by
  have hl : (bvs (packB (ws.take j))).length = 4 * j := by rw [bvs_length, packB_length, List.length_take, Nat.min_eq_left (by omega)]
  rw [packB_take ws j (by omega), bvs_append, List.take_append_of_le_length (by omega), List.take_of_length_le (by omega), List.drop_append, List.drop_of_length_le (by omega), hl, List.nil_append,
    show 4 * j + 4 - 4 * j = 4 by omega, ← bvs_drop, List.drop_replicate, show 4 * (n - j) - 4 = 4 * (n - (j + 1)) by omega]

set_option maxHeartbeats 400000 in
theorem pack_any (a : Option Addr) (c : Nat) (ws : List UInt32) (w : World) (hx : SegW w a ws) (hl : ws.length ≤ 35184372088832) :
    Calls Try.prog 35 #[.slice a ws.length c] w fun e w' => e = .returned (.slice (some ⟨w.heap.size, 0, none⟩) (4 * ws.length) (4 * ws.length)) ∧ Blk w' w.heap.size (bvs (packB ws)) 5 ∧ Keeps (fun _ => False) w w' := by
  obtain ⟨i0, hi, hz0, hz1, hz2⟩ := info_parts Try.info5
  have hmk := run_make_bytes (P := Try.prog) (w := w) 38 5 i0 Try.underlying38 hi hz0 hz1 hz2 (4 * ws.length) (by omega)
  obtain ⟨W1, hW⟩ : ∃ W1, W1 = w.alloc (.cells (bvs (List.replicate (4 * ws.length) 0)).toArray 5) := ⟨_, rfl⟩
  rw [← hW] at hmk
  have hK1 : Keeps (fun _ => False) w W1 := by rw [hW]; exact (Keeps.refl _ w).alloc _
  have hB1 : Blk W1 w.heap.size (bvs (List.replicate (4 * ws.length) 0)) 5 := by rw [hW]; exact Blk.new w _ 5
  obtain ⟨n, hnn⟩ : ∃ n, n = ws.length := ⟨_, rfl⟩
  obtain ⟨G, hG⟩ : ∃ G, G = w.heap.size := ⟨_, rfl⟩
  rw [← hnn, ← hG] at hmk
  rw [← hnn, ← hG] at hB1
  rw [← hnn] at hl
  rw [← hnn, ← hG]
  have e4 : ((4 * n : Nat) : Int) = 4 * (n : Int) := by omega
  rw [e4] at hmk
  have HN : Hid (n = ws.length) := hnn
  have HG : Hid (G = w.heap.size) := hG
  have HM : Hid (_ = _) := hmk
  have HX : Hid (SegW w a ws) := hx
  have HB : Hid (Blk W1 G (bvs (List.replicate (4 * n) 0)) 5) := hB1
  have HK : Hid (Keeps (fun _ => False) w W1) := hK1
  clear hmk hnn hG hW hB1 hK1 hx e4
  go_enter Try.func35, Try.ntmps35
  go_wp2_with (at_make; refine wpList_make_run rfl (.tmp 8) (.tmp 8) 38 rfl (.int .i64 (4 * (n : Int))) (.int .i64 (4 * (n : Int))) (.slice (some ⟨G, 0, none⟩) (4 * n) (4 * n)) W1 rfl rfl HM.out ?_; refine Hid.out ?_)
  unfold Hid
  go_wp2
  go_loopw [12] (fun i wr => ∃ j : Nat, j ≤ n ∧ i = .int .i64 j ∧ Blk wr G (bvs (packB (ws.take j)) ++ bvs (List.replicate (4 * (n - j)) 0)) 5 ∧ Keeps (fun _ => False) w wr)
    (fun i _ => n - (intOf i).toNat)
  case atStart => exact ⟨0, by omega, rfl, by simpa [packB, bvs] using HB.out, HK.out⟩
  case round =>
    obtain ⟨j, hj, rfl, hBr, hKr⟩ := hrel
    have HB : Hid (Blk wr G (bvs (packB (ws.take j)) ++ bvs (List.replicate (4 * (n - j)) 0)) 5) := hBr
    have HK : Hid (Keeps (fun _ => False) w wr) := hKr
    clear hBr hKr
    by_cases hlt : j < n
    · have hjx : j < ws.length := by have := HN.out; omega
      have hsr : SegW wr a ws := HX.out.kept HK.out (fun _ _ e => e)
      rcases hsr with hsr | ⟨g, o, rfl, hcell⟩
      · rw [hsr] at hjx; simp at hjx
      · have hc := hcell j hjx
        have hy := ws[j].toNat_lt
        obtain ⟨y, hyy⟩ : ∃ y : Nat, y = ws[j].toNat := ⟨_, rfl⟩
        rw [← hyy] at hc hy
        have HY : Hid (y = ws[j].toNat) := hyy
        clear hcell hyy
        go_wp2_with fail
        rw [show 4 * (j + 1) - 4 * j = 4 by omega]
        refine (spread_any G (4 * j) 4 _ y _ 5 _ HB.out (by
          have hl : (packB (ws.take j)).length = 4 * j := by rw [packB_length, List.length_take, Nat.min_eq_left (by omega)]
          simp only [List.length_append, bvs_length, hl, List.length_replicate]; omega) (by decide) (by omega)).mono ?_
        rintro e w2 ⟨rfl, hB2, hK2⟩
        have hB3 : Blk w2 G (bvs (packB (ws.take (j + 1))) ++ bvs (List.replicate (4 * (n - (j + 1))) 0)) 5 := by
          rw [← pack_step ws j n HN.out hlt, ← HY.out]; exact hB2
        have hK3 : Keeps (fun _ => False) w w2 := HK.out.trans hK2 fun k hk e => by have := HG.out; omega
        have HB3 : Hid (Blk _ _ _ _) := hB3
        have HK3 : Hid (Keeps _ _ _) := hK3
        clear hB2 hK2 hB3 hK3
        go_wp2
        go_roundw
        case rel => exact ⟨j + 1, by omega, by go_num, HB3.out, HK3.out⟩
        case measure => simp [intOf]; omega
    · obtain rfl : j = n := by omega
      go_wp2
      go_ret
      refine ⟨rfl, ?_, HK.out⟩
      have := HB.out
      rw [List.take_of_length_le (by have := HN.out; omega), Nat.sub_self] at this
      simpa [bvs] using this

set_option maxHeartbeats 400000 in
theorem gather_cells (g o k c : Nat) (xs : List UInt8) (w : World) (hcell : ∀ j, (hj : j < xs.length) → w.cell? ⟨g, o + j, none⟩ = some (.int .u8 (xs[j].toNat : Int))) (hk : xs.length = k) (h8 : k ≤ 8) :
    Calls Try.prog 77 #[.slice (some ⟨g, o, none⟩) k c] w fun e w' => e = .returned (.int .u64 (highN xs)) ∧ w' = w := by
  go_enter Try.func77, Try.ntmps77
  go_wp2
  go_loop [3, 8] (fun n i => ∃ j : Nat, j ≤ k ∧ i = .int .i64 j ∧ n = .int .u64 (highN (xs.take j)))
    (fun _ i => k - (intOf i).toNat)
  case atStart => exact ⟨0, Nat.zero_le _, rfl, by simp [highN]⟩
  case round =>
    obtain ⟨j, hj, rfl, rfl⟩ := hrel
    by_cases hlt : j < k
    · have hc := hcell j (by omega)
      clear hcell
      obtain ⟨y, hy⟩ : ∃ y : Nat, y = xs[j].toNat := ⟨_, rfl⟩
      rw [← hy] at hc
      obtain ⟨A, hA⟩ : ∃ A : Nat, A = highN (xs.take j) := ⟨_, rfl⟩
      rw [← hA]
      have HA : Hid (A = highN (xs.take j)) := hA
      have HY : Hid (y = xs[j].toNat) := hy
      clear hA hy
      go_wp2
      go_round
      case rel =>
        refine ⟨j + 1, by omega, by go_num, ?_⟩
        have h1 := highN_lt (xs.take j)
        rw [List.length_take, Nat.min_eq_left (by omega), ← HA.out] at h1
        have h2 := xs[j].toNat_lt
        rw [← HY.out] at h2
        rw [gather_eq A y j h1 (by omega) (by omega), highN_take xs j (by omega), ← HA.out, ← HY.out]
      case measure => simp [intOf]; omega
    · obtain rfl : j = k := by omega
      go_wp2
      go_ret
      exact ⟨by rw [← hk]; simp, rfl⟩

/-- The words of bytes, m of them. -/
def unpackW (xs : List UInt8) (m : Nat) : List UInt32 := (List.range m).map fun i => UInt32.ofNat (highN ((xs.drop (4 * i)).take 4))
theorem unpackW_length (xs : List UInt8) (m : Nat) : (unpackW xs m).length = m := by simp [unpackW]
theorem unpackW_succ (xs : List UInt8) (m : Nat) : unpackW xs (m + 1) = unpackW xs m ++ [UInt32.ofNat (highN ((xs.drop (4 * m)).take 4))] := by simp [unpackW, List.range_succ]

theorem Try.info36 : (Try.prog.info? 36).map (fun i => (i.zero, i.size, i.bytes)) = some (some (.int .u32 0), 1, 4) := by kernel_rfl

theorem madeCells_words (n : Nat) : madeCells (Value.int .u32 0).cells n = (wvs (List.replicate n 0)).toArray := by
  apply Array.ext'
  apply List.ext_getElem?
  intro i
  have hm : i % 1 = 0 := by omega
  simp [madeCells, wvs, List.getElem?_replicate]
  by_cases hi : i < n
  · simp [hi, Value.cells, hm]
  · simp [hi]

theorem run_make_words {w : World} (n : Nat) (hn : n ≤ 70368744177664) :
    (Instr.makeSlice 39 (.int .i64 n) (.int .i64 n)).run Try.prog w = .ok (.slice (some ⟨w.heap.size, 0, none⟩) n n) (w.alloc (.cells (wvs (List.replicate n 0)).toArray 36)) := by
  obtain ⟨i0, hi, hz0, hz1, hz2⟩ := info_parts Try.info36
  have h := run_make (P := Try.prog) w 39 36 i0 (.int .u32 0) Try.underlying39 hi hz0 .i64 .i64 n n (by omega) (by omega) (by rw [hz2]; omega) (by omega)
  rw [hz1, Nat.mul_one, Int.toNat_natCast, madeCells_words] at h
  exact h

theorem unpack_step (xs : List UInt8) (j m : Nat) (h : j < m) (u : UInt32) (hu : u = UInt32.ofNat (highN ((xs.drop (4 * j)).take 4))) :
    (wvs (unpackW xs j) ++ wvs (List.replicate (m - j) 0)).set j (.int .u32 (u.toNat : Int)) = wvs (unpackW xs (j + 1)) ++ wvs (List.replicate (m - (j + 1)) 0) := by
  have hl : (wvs (unpackW xs j)).length = j := by rw [wvs_length, unpackW_length]
  rw [List.set_append_right _ _ (by omega), hl, Nat.sub_self, unpackW_succ, ← hu]
  obtain ⟨d, hd⟩ : ∃ d, m - j = d + 1 := ⟨m - j - 1, by omega⟩
  rw [hd, show m - (j + 1) = d by omega, List.replicate_succ]
  simp [wvs]

set_option maxHeartbeats 400000 in
theorem unpack_short (a : Option Addr) (c : Nat) (len : Nat) (w : World) (hl : len ≤ maxLen) (h : len % 4 ≠ 0) :
    Calls Try.prog 36 #[.slice a len c] w fun e w' => e = .returned (.tuple #[.slice none 0 0, .int .i64 12]) ∧ w' = w := by
  unfold maxLen at hl
  have h1 : ((len : Int) % 4 != 0) = true := by simp only [bne_iff_ne, ne_eq]; omega
  go_enter Try.func36, Try.ntmps36
  go_wp2
  go_ret2
  exact ⟨rfl, rfl⟩

set_option maxHeartbeats 400000 in
theorem unpack_any (a : Option Addr) (c m : Nat) (xs : List UInt8) (w : World) (hx : Seg w a xs) (hm : xs.length = 4 * m) (hl : m ≤ 35184372088832) (hc4 : 4 * m ≤ c) (hcm : c ≤ maxLen) :
    Calls Try.prog 36 #[.slice a xs.length c] w fun e w' => e = .returned (.tuple #[.slice (some ⟨w.heap.size, 0, none⟩) m m, .int .i64 0]) ∧ Blk w' w.heap.size (wvs (unpackW xs m)) 36 ∧ Keeps (fun _ => False) w w' := by
  unfold maxLen at hcm
  have hmk := run_make_words (w := w) m (by omega)
  obtain ⟨W1, hW⟩ : ∃ W1, W1 = w.alloc (.cells (wvs (List.replicate m 0)).toArray 36) := ⟨_, rfl⟩
  rw [← hW] at hmk
  have hK1 : Keeps (fun _ => False) w W1 := by rw [hW]; exact (Keeps.refl _ w).alloc _
  have hB1 : Blk W1 w.heap.size (wvs (List.replicate m 0)) 36 := by rw [hW]; exact Blk.new w _ 36
  obtain ⟨G, hG⟩ : ∃ G, G = w.heap.size := ⟨_, rfl⟩
  rw [← hG] at hmk hB1
  rw [← hG]
  have HL : Hid (xs.length = 4 * m) := hm
  rw [hm]
  have HG : Hid (G = w.heap.size) := hG
  have HM : Hid (_ = _) := hmk
  have HX : Hid (Seg w a xs) := hx
  have HB : Hid (Blk W1 G (wvs (List.replicate m 0)) 36) := hB1
  have HK : Hid (Keeps (fun _ => False) w W1) := hK1
  have h1 : ((4 * (m : Int)) % 4 != 0) = false := by simp only [bne_eq_false_iff_eq]; omega
  have h2 : (4 * (m : Int)) / 4 = m := by omega
  clear hmk hG hW hB1 hK1 hx hm
  go_enter Try.func36, Try.ntmps36
  go_wp2_with (at_make; refine wpList_make_run rfl (.tmp 12) (.tmp 12) 39 rfl (.int .i64 (m : Int)) (.int .i64 (m : Int)) (.slice (some ⟨G, 0, none⟩) m m) W1 rfl rfl HM.out ?_; refine Hid.out ?_)
  unfold Hid
  clear h1 h2
  go_wp2
  go_loopw [16] (fun i wr => ∃ j : Nat, j ≤ m ∧ i = .int .i64 j ∧ Blk wr G (wvs (unpackW xs j) ++ wvs (List.replicate (m - j) 0)) 36 ∧ Keeps (fun _ => False) w wr)
    (fun i _ => m - (intOf i).toNat)
  case atStart => exact ⟨0, by omega, rfl, by simpa [unpackW, wvs] using HB.out, HK.out⟩
  case round =>
    obtain ⟨j, hj, rfl, hBr, hKr⟩ := hrel
    have HB : Hid (Blk wr G (wvs (unpackW xs j) ++ wvs (List.replicate (m - j) 0)) 36) := hBr
    have HK : Hid (Keeps (fun _ => False) w wr) := hKr
    clear hBr hKr
    by_cases hlt : j < m
    · have hsr : Seg wr a xs := HX.out.kept HK.out (fun _ _ e => e)
      rcases hsr with hsr | ⟨g, o, rfl, hcell⟩
      · have := HL.out; rw [hsr] at this; simp at this; omega
      · have HC : Hid (∀ j, (h : j < xs.length) → wr.cell? ⟨g, o + j, none⟩ = some (.int .u8 (xs[j].toNat : Int))) := hcell
        clear hcell
        obtain ⟨v, hv⟩ : ∃ v, (wvs (unpackW xs j) ++ wvs (List.replicate (m - j) 0))[j]? = some v := by
          have : (wvs (unpackW xs j) ++ wvs (List.replicate (m - j) 0)).length = m := by simp only [List.length_append, wvs_length, unpackW_length, List.length_replicate]; omega
          exact ⟨_, List.getElem?_eq_getElem (by omega)⟩
        have hc := HB.out.cell hv
        have hf := HB.out.frozen j
        clear hv
        go_wp2_with fail
        rw [show 4 * (j + 1) - 4 * j = 4 by omega]
        have hlx := HL.out
        have hl4 : ((xs.drop (4 * j)).take 4).length = 4 := by rw [List.length_take, List.length_drop]; omega
        refine (gather_cells g (o + 4 * j) 4 _ ((xs.drop (4 * j)).take 4) _ (fun i hi => by
          rw [hl4] at hi
          rw [Nat.add_assoc, HC.out (4 * j + i) (by omega)]
          simp) hl4 (by omega)).mono ?_
        rintro e w2 ⟨rfl, hw2⟩; obtain rfl := hw2.symm
        have hU := highN_lt ((xs.drop (4 * j)).take 4)
        rw [hl4] at hU
        have hst : Hid ((wvs (unpackW xs j) ++ wvs (List.replicate (m - j) 0)).set j (.int .u32 ((UInt32.ofNat (highN ((xs.drop (4 * j)).take 4))).toNat : Int)) = wvs (unpackW xs (j + 1)) ++ wvs (List.replicate (m - (j + 1)) 0)) := unpack_step xs j m hlt _ rfl
        have hu : (UInt32.ofNat (highN ((xs.drop (4 * j)).take 4))).toNat = highN ((xs.drop (4 * j)).take 4) := by
          rw [UInt32.toNat_ofNat']; exact Nat.mod_eq_of_lt hU
        rw [hu] at hst
        obtain ⟨U, hUU⟩ : ∃ U, U = highN ((xs.drop (4 * j)).take 4) := ⟨_, rfl⟩
        rw [← hUU] at hU hst
        rw [← hUU]
        have hcv : (U : Int) % 4294967296 = U := by omega
        clear hUU hu hl4 hlx
        go_wp2
        go_roundw
        case rel =>
          refine ⟨j + 1, by omega, by go_num, ?_, HK.out.setCell _ _ fun h => by
            have h1 : G < w.heap.size := h
            have := HG.out; omega⟩
          rw [← hst.out]
          exact HB.out.setCell _ _
        case measure => simp [intOf]; omega
    · obtain rfl : j = m := by omega
      go_wp2
      go_ret2
      refine ⟨rfl, ?_, HK.out⟩
      have := HB.out
      rw [Nat.sub_self] at this
      simpa [wvs] using this

theorem packB_at : ∀ (ws : List UInt32) (i : Nat) (h : i < ws.length), ((packB ws).drop (4 * i)).take 4 = lowB 4 ws[i].toNat
  | [], i, h => by simp at h
  | x :: r, 0, _ => by
    simp only [packB, List.flatMap_cons, Nat.mul_zero, List.drop_zero, List.getElem_cons_zero]
    rw [List.take_append_of_le_length (by rw [lowB_length]; exact Nat.le_refl _), List.take_of_length_le (by rw [lowB_length]; exact Nat.le_refl _)]
  | x :: r, i + 1, h => by
    have ih := packB_at r i (by simpa using h)
    simp only [packB, List.flatMap_cons, List.getElem_cons_succ] at ih ⊢
    rw [show 4 * (i + 1) = (lowB 4 x.toNat).length + 4 * i by rw [lowB_length]; omega, ← List.drop_drop, List.drop_left]
    exact ih

theorem unpack_pack (ws : List UInt32) : unpackW (packB ws) ws.length = ws := by
  apply List.ext_getElem
  · rw [unpackW_length]
  · intro i h1 h2
    have e : (unpackW (packB ws) ws.length)[i] = UInt32.ofNat (highN (((packB ws).drop (4 * i)).take 4)) := by simp [unpackW]
    have hx := ws[i].toNat_lt
    rw [e, packB_at ws i h2, highN_lowB, Nat.mod_eq_of_lt (by omega)]
    simp

set_option maxHeartbeats 400000 in
theorem sameWords_any (a1 a2 : Option Addr) (c1 c2 : Nat) (us vs : List UInt32) (w : World) (h1 : SegW w a1 us) (h2 : SegW w a2 vs) (hl1 : us.length ≤ maxLen) (hl2 : vs.length ≤ maxLen) (he : us = vs) :
    Calls Try.prog 37 #[.slice a1 us.length c1, .slice a2 vs.length c2] w fun e w' => e = .returned (.bool true) ∧ Keeps (fun _ => False) w w' := by
  unfold maxLen at hl1
  subst he
  obtain ⟨n, hn⟩ : ∃ n, n = us.length := ⟨_, rfl⟩
  have HN : Hid (n = us.length) := hn
  have H1 : Hid (SegW w a1 us) := h1
  have H2 : Hid (SegW w a2 us) := h2
  rw [← hn] at hl1 ⊢
  clear hn h1 h2 hl2
  go_enter Try.func37, Try.ntmps37
  go_wp2
  go_loopw [5] (fun i wr => ∃ j : Nat, j ≤ n ∧ i = .int .i64 j ∧ Keeps (fun _ => False) w wr) (fun i _ => n - (intOf i).toNat)
  case atStart => exact ⟨0, by omega, rfl, Keeps.refl _ _⟩
  case round =>
    obtain ⟨j, hj, rfl, hKr⟩ := hrel
    have HK : Hid (Keeps (fun _ => False) w wr) := hKr
    clear hKr
    by_cases hlt : j < n
    · have hjx : j < us.length := by have := HN.out; omega
      have s1 : SegW wr a1 us := H1.out.kept HK.out (fun _ _ e => e)
      have s2 : SegW wr a2 us := H2.out.kept HK.out (fun _ _ e => e)
      rcases s1 with s1 | ⟨g1, o1, rfl, k1⟩
      · rw [s1] at hjx; simp at hjx
      · rcases s2 with s2 | ⟨g2, o2, rfl, k2⟩
        · rw [s2] at hjx; simp at hjx
        · have e1 := k1 j hjx
          have e2 := k2 j hjx
          have hlt' : (j : Int) < (n : Int) := by omega
          clear k1 k2
          go_wp2
          go_quiet (fail)
          go_wp2
          go_roundw
          case rel => exact ⟨j + 1, by omega, by go_num, HK.out.drewN _⟩
          case measure => simp [intOf]; omega
    · obtain rfl : j = n := by omega
      go_wp2
      go_ret
      exact ⟨rfl, HK.out⟩
end Go.Proofs.Ytonjmknjjdnjkaa
