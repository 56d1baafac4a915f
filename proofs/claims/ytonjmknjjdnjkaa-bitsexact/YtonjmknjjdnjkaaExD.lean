import Derived.Test.YtonjmknjjdnjkaaExA
namespace Go.Proofs.Ytonjmknjjdnjkaa
open Go.RowKit
set_option linter.unusedVariables false

/-! ### append to a row of one's own, and where the new row lies -/

theorem append_many {w : World} (t e : TypeId) (i : TypeInfo) (z : Value) (size bytes : Nat) (ht : Try.prog.underlying t = some (.slice e)) (hi : Try.prog.info? e = some i) (hz : i.zero = some z)
    (hs : i.size = size) (hb : i.bytes = bytes) (hzs : z.cells.size = size) (h0 : 0 < size) (v : Value) (n : Nat) (vs : List Value) (hown : w.ownsRow 0 e size v n vs)
    (a : Addr) (m c : Nat) (news : List Value) (hl : news.length = m * size) (hnews : ∀ j u, news[j]? = some u → w.cell? (a.add j) = some u) (h1 : ∀ u ∈ news, u.oneCell' = true)
    (hm : n + m ≤ maxLen) (hbytes : (n + m) * bytes ≤ 140737488355328) :
    ∃ v' W', (∀ ty, (Builtin.append_ #[t, t] ty #[v, .slice (some a) m c]).run Try.prog w = .ok v' W') ∧ W'.ownsRow 0 e size v' (n + m) (vs ++ news) ∧
      (v'.ownBlock = v.ownBlock ∨ ∃ k, v'.ownBlock = some k ∧ w.heap.size ≤ k) ∧ Keeps (fun k => some k = v.ownBlock) w W' := by
  obtain ⟨v', W', hr, ho, hg, hnil⟩ := run_append_own (P := Try.prog) w 0 t 0 e i z size bytes ht hi hz hs hb hzs h0 v n vs hown a m c news hl hnews h1 hm hbytes (Nat.zero_le _)
  refine ⟨v', W', fun ty => hr, ho, ?_, Keeps.of_grown hg⟩
  have hbig : n + m ≤ 9223372036854775807 := by unfold maxLen at hm; omega
  rcases hown.2 with ⟨rfl, rfl⟩ | ⟨g, cap, cur, rfl, _, hg1, hnc, hcm, hcs, htake⟩
  · by_cases hm0 : m = 0
    · left; rw [hnil.2 ⟨rfl, hm0⟩]
    · have h2 := run_append_nil (P := Try.prog) w t 0 e i z ht hi hz a m c news (by rw [hs]; exact hl) hnews (by omega) (by omega) (by
        rw [hb]
        rw [Nat.zero_add] at hbytes
        omega)
      rw [hr] at h2
      have e1 : v' = _ := (Result.ok.inj h2).1
      right
      rw [e1]
      exact ⟨_, rfl, by simp⟩
  · by_cases hroom : n + m ≤ cap
    · have h2 := run_append_room (P := Try.prog) w t 0 e i ht hi g n cap cur hg1 a m c news (by rw [hs]; exact hl) hnews h1 hroom (by
        rw [hs, hcs, hl, ← Nat.add_mul]; exact Nat.mul_le_mul_right _ hroom)
      rw [hr] at h2
      have e1 : v' = _ := (Result.ok.inj h2).1
      left
      rw [e1]
      rfl
    · have h2 := run_append_grow (P := Try.prog) w t 0 e i z ht hi hz ⟨g, 0, none⟩ n cap vs (by rw [hs]; exact hown.1) (hown.cells rfl) a m c news (by rw [hs]; exact hl) hnews (by omega) (by omega) (by
        rw [hb]; exact growslice_fits (by omega) hbytes)
      rw [hr] at h2
      have e1 : v' = _ := (Result.ok.inj h2).1
      right
      rw [e1]
      exact ⟨_, rfl, by simp⟩

/-- append of nothing, from nowhere. -/
theorem append_none {w : World} (t e : TypeId) (i : TypeInfo) (size : Nat) (ht : Try.prog.underlying t = some (.slice e)) (hi : Try.prog.info? e = some i)
    (hs : i.size = size) (h0 : 0 < size) (v : Value) (n c : Nat) (vs : List Value) (hown : w.ownsRow 0 e size v n vs) (ty : TypeId) :
    (Builtin.append_ #[t, t] ty #[v, .slice none 0 c]).run Try.prog w = .ok v w := by
  rcases hown.2 with ⟨rfl, rfl⟩ | ⟨g, cap, cur, rfl, _, hg1, hnc, hcm, hcs, htake⟩
  · simp [Builtin.append_, run_underlying ht, sizeOf, typeInfo, hi, Builtin.lenOf, run_firstCells_none]
  · simp [Builtin.append_, run_underlying ht, sizeOf, typeInfo, hi, Builtin.lenOf, hnc, run_firstCells_none, storeCells]

/-- append of a new block of one. -/
theorem append_new {w : World} (t e : TypeId) (i : TypeInfo) (z : Value) (size bytes : Nat) (ht : Try.prog.underlying t = some (.slice e)) (hi : Try.prog.info? e = some i) (hz : i.zero = some z)
    (hs : i.size = size) (hb : i.bytes = bytes) (hzs : z.cells.size = size) (h0 : 0 < size) (v : Value) (n : Nat) (vs : List Value) (hown : w.ownsRow 0 e size v n vs)
    (xs : Array Value) (hl : xs.size = size) (h1 : ∀ u ∈ xs.toList, u.oneCell' = true)
    (hm : n + 1 ≤ maxLen) (hbytes : (n + 1) * bytes ≤ 140737488355328) :
    ∃ v' W', (∀ ty, (Builtin.append_ #[t, t] ty #[v, .slice (some ⟨w.heap.size, 0, none⟩) 1 1]).run Try.prog (w.alloc (.cells xs e)) = .ok v' W') ∧ W'.ownsRow 0 e size v' (n + 1) (vs ++ xs.toList) ∧
      (v'.ownBlock = v.ownBlock ∨ ∃ k, v'.ownBlock = some k ∧ w.heap.size ≤ k) ∧ Keeps (fun k => some k = v.ownBlock) w W' := by
  have hW : Keeps (fun _ => False) w (w.alloc (.cells xs e)) := (Keeps.refl _ w).alloc _
  have hown1 : (w.alloc (.cells xs e)).ownsRow 0 e size v n vs := owns_kept hown hW (fun _ _ h => h)
  obtain ⟨v', W', hr, ho, hfr, hK⟩ := append_many t e i z size bytes ht hi hz hs hb hzs h0 v n vs hown1 ⟨w.heap.size, 0, none⟩ 1 1 xs.toList (by simpa using hl) (by
    intro j u hj
    have hB := Blk.new w xs e
    rw [addr_add]
    exact hB.cell (by rw [Nat.zero_add]; exact hj)) h1 hm hbytes
  refine ⟨v', W', hr, ho, ?_, (hW.mono fun _ _ h => h.elim).trans hK fun _ _ h => h⟩
  rcases hfr with h | ⟨k, h, h2⟩
  · exact .inl h
  · exact .inr ⟨k, h, by simp at h2; omega⟩

/-- append of what a text holds. -/
theorem append_text {w : World} (v : Value) (n : Nat) (xs : List UInt8) (hown : w.ownsRow 0 5 1 v n (bvs xs)) (s : ByteArray) (hm : n + s.size ≤ 140737488355328) :
    ∃ v' W', (∀ ty, (Builtin.append_ #[38, 9] ty #[v, .string s]).run Try.prog w = .ok v' W') ∧ W'.ownsRow 0 5 1 v' (n + s.size) (bvs (xs ++ s.data.toList)) ∧
      (v'.ownBlock = v.ownBlock ∨ ∃ k, v'.ownBlock = some k ∧ w.heap.size ≤ k) ∧ Keeps (fun k => some k = v.ownBlock) w W' := by
  obtain ⟨i, hi, hz, hs, hb⟩ := info_parts Try.info5
  have hsz : s.data.toList.length = s.size := rfl
  have hlen : (bvs s.data.toList).length = s.size := by rw [bvs_length, hsz]
  have hxl : xs.length = n := by have := hown.1; rw [bvs_length] at this; omega
  have hx : Array.map (fun b : UInt8 => Value.int IntKind.u8 (b.toNat : Int)) s.data = (bvs s.data.toList).toArray := by
    apply Array.ext'
    simp [bvs]
  have hext : (Array.map (fun b : UInt8 => Value.int IntKind.u8 (b.toNat : Int)) s.data).extract 0 s.size = (bvs s.data.toList).toArray := by
    have hq : s.size = (Array.map (fun b : UInt8 => Value.int IntKind.u8 (b.toNat : Int)) s.data).size := by rw [Array.size_map]; rfl
    rw [hq, Array.extract_size, hx]
  have hbv : bvs (xs ++ s.data.toList) = bvs xs ++ bvs s.data.toList := bvs_append _ _
  have hfirst : ∀ w1 : World, (Builtin.firstCells 1 s.size (.string s)).run Try.prog w1 = .ok (bvs s.data.toList).toArray w1 := by
    intro w1
    simp [Builtin.firstCells]
    exact hx
  rcases hown.2 with ⟨rfl, rfl⟩ | ⟨g, cap, cur, rfl, _, hg1, hnc, hcm, hcs, htake⟩
  · have hx0 : xs = [] := List.length_eq_zero_iff.1 hxl
    subst hx0
    by_cases h0 : s.size = 0
    · refine ⟨.slice none 0 0, w, fun ty => ?_, ?_, .inl rfl, Keeps.refl _ _⟩
      · simp [Builtin.append_, run_underlying Try.underlying38, run_underlying (P := Try.prog) (t := 9) (show Try.prog.underlying 9 = some .string by kernel_rfl), sizeOf, typeInfo, hi, hs, Builtin.lenOf, h0, h0 ▸ hfirst w]
      · have : s.data.toList = [] := List.length_eq_zero_iff.1 (by omega)
        rw [h0, this]
        exact World.ownsRow_nil _ _ _ _
    · have h2 := fun ty => run_append_nil_string (P := Try.prog) w 38 9 ty 5 i (.int .u8 0) Try.underlying38 (by kernel_rfl) hi hz s (by omega) (by omega) (by rw [hb]; omega)
      refine ⟨_, _, h2, ?_, .inr ⟨_, rfl, Nat.le_refl _⟩, (Keeps.refl _ w).drew.alloc _⟩
      have hge := grownCap_ge w s.size 0 5
      have hle := grownCap_le_maxLen w s.size 0 5 (by unfold maxLen; omega)
      refine ⟨by rw [bvs_length]; simp [hsz], .inr ⟨w.heap.size, grownCap w s.size 0 5, _, by simp, Nat.zero_le _, heap_alloc_new w.drew _, by omega, hle, ?_, ?_⟩⟩
      · rw [hx]
        have : (Value.int IntKind.u8 0).cells.size = 1 := rfl
        simp only [Array.size_append, List.size_toArray, hlen, size_zeroCells, this, Nat.mul_one]
        omega
      · rw [hx]
        simp only [Array.toList_append, List.nil_append, Nat.mul_one, Nat.zero_add]
        rw [List.take_append_of_le_length (by rw [hlen]; omega), List.take_of_length_le (by rw [hlen]; omega)]
  · have hBg : Blk w g cur.toList 5 := by unfold Blk; rw [Array.toArray_toList]; exact hg1
    by_cases hroom : n + s.size ≤ cap
    · have hst := run_storeCells_at Try.prog g n 5 (bvs s.data.toList) 0 cur w hg1 (by rw [hlen]; simp; omega) (bvs_one _)
      rw [hlen] at hst
      simp only [Nat.add_zero] at hst
      refine ⟨.slice (some ⟨g, 0, none⟩) (n + s.size) cap, w.setRow g (cur.toList.take n ++ bvs s.data.toList ++ cur.toList.drop (n + s.size)).toArray, fun ty => ?_, ?_, .inl rfl, (Keeps.refl _ w).setRow _ _ fun _ => rfl⟩
      · simp [Builtin.append_, run_underlying Try.underlying38, run_underlying (P := Try.prog) (t := 9) (show Try.prog.underlying 9 = some .string by kernel_rfl), sizeOf, typeInfo, hi, hs, Builtin.lenOf, hroom, hfirst, addr_add, hst]
      · have hB2 := hBg.setRow (cur.toList.take n ++ bvs s.data.toList ++ cur.toList.drop (n + s.size))
        have hln : (cur.toList.take n).length = n := by rw [List.length_take]; simp; omega
        refine ⟨by rw [bvs_length]; simp [hsz, hxl], .inr ⟨g, cap, _, rfl, Nat.zero_le _, hB2, by omega, hcm, ?_, ?_⟩⟩
        · simp [hlen]; omega
        · rw [hbv, ← htake]
          simp only [Nat.mul_one]
          rw [List.take_append_of_le_length (by rw [List.length_append, hln, hlen]; exact Nat.le_refl _), List.take_of_length_le (by rw [List.length_append, hln, hlen]; exact Nat.le_refl _)]
    · have hfo := run_firstCells_some (P := Try.prog) w.drew 1 n ⟨g, 0, none⟩ n cap (bvs xs) (by rw [bvs_length]; omega) (by
        intro j u hj
        have := hown.cells rfl j u hj
        exact this)
      have h63' : ¬ (9223372036854775807 < ((n : Int) + (s.size : Int))) := by omega
      have h48' : ¬ (281474976710656 < Builtin.nextslicecap (n + s.size) cap * 1) := by
        have := growslice_fits (bytes := 1) (need := n + s.size) (old := cap) (by omega) (by omega)
        omega
      have h48'' : ¬ (281474976710656 < Builtin.nextslicecap (n + s.size) cap) := by omega
      have hge := grownCap_ge w (n + s.size) cap 5
      have hle := grownCap_le_maxLen w (n + s.size) cap 5 (by unfold maxLen; omega)
      refine ⟨.slice (some ⟨w.heap.size, 0, none⟩) (n + s.size) (grownCap w (n + s.size) cap 5), w.drew.alloc (.cells ((bvs xs).toArray ++ (bvs s.data.toList).toArray ++ Builtin.zeroCells (Value.int .u8 0).cells (grownCap w (n + s.size) cap 5 - (n + s.size))) 5), fun ty => ?_, ?_, .inr ⟨_, rfl, Nat.le_refl _⟩, (Keeps.refl _ w).drew.alloc _⟩
      · simp [Builtin.append_, run_underlying Try.underlying38, run_underlying (P := Try.prog) (t := 9) (show Try.prog.underlying 9 = some .string by kernel_rfl), sizeOf, typeInfo, zeroValue, hi, hs, hz, hb, Builtin.lenOf, hroom, h63', h48'', Question.forced, hfirst, hfo, newRow, grownCap]
        rw [show (bvs xs ++ bvs s.data.toList).toArray = (bvs xs).toArray ++ (bvs s.data.toList).toArray by simp, Array.append_assoc]
      · refine ⟨by rw [bvs_length]; simp [hsz, hxl], .inr ⟨w.heap.size, _, _, rfl, Nat.zero_le _, heap_alloc_new w.drew _, by omega, hle, ?_, ?_⟩⟩
        · have : (Value.int IntKind.u8 0).cells.size = 1 := rfl
          simp only [Array.size_append, List.size_toArray, hlen, size_zeroCells, bvs_length, hxl, this, Nat.mul_one]
          omega
        · rw [hbv]
          simp only [Array.toList_append, Nat.mul_one]
          rw [List.take_append_of_le_length (by simp [hlen, bvs_length, hxl]), List.take_of_length_le (by simp [hlen, bvs_length, hxl])]
end Go.Proofs.Ytonjmknjjdnjkaa
namespace Go.Proofs.Ytonjmknjjdnjkaa
open Go.RowKit
set_option linter.unusedVariables false

/-- A row that has grown: where it lies, and that nothing else was changed. -/
structure Grew (w : World) (v : Value) (w' : World) (v' : Value) : Prop where
  fresh : v'.ownBlock = v.ownBlock ∨ ∃ k, v'.ownBlock = some k ∧ w.heap.size ≤ k
  keeps : Keeps (fun k => some k = v.ownBlock) w w'

theorem Grew.refl (w : World) (v : Value) : Grew w v w v := ⟨.inl rfl, Keeps.refl _ _⟩
theorem Grew.trans {w w1 w2 : World} {v v1 v2 : Value} (h : Grew w v w1 v1) (k : Grew w1 v1 w2 v2) : Grew w v w2 v2 := by
  refine ⟨?_, h.keeps.trans k.keeps ?_⟩
  · rcases k.fresh with e | ⟨b, e, hb⟩
    · rw [e]; exact h.fresh
    · exact .inr ⟨b, e, Nat.le_trans h.keeps.size hb⟩
  · intro b hb e
    rcases h.fresh with f | ⟨c, f, hc⟩
    · rw [← f]; exact e
    · rw [f] at e; cases e; omega

theorem one_mem {x : Value} (h : x.oneCell' = true) : ∀ u ∈ (#[x] : Array Value).toList, u.oneCell' = true := by
  intro u hu
  have e : u = x := by simpa using hu
  rw [e]; exact h

theorem append_byte {w : World} (x : UInt8) (v : Value) (n : Nat) (vs : List Value) (hown : w.ownsRow 0 5 1 v n vs) (hn : n ≤ 70368744177664) :
    ∃ v' W', (∀ ty, (Builtin.append_ #[38, 38] ty #[v, .slice (some ⟨w.heap.size, 0, none⟩) 1 1]).run Try.prog (w.alloc (.cells #[.int .u8 (x.toNat : Int)] 5)) = .ok v' W') ∧ W'.ownsRow 0 5 1 v' (n + 1) (vs ++ [.int .u8 (x.toNat : Int)]) ∧ Grew w v W' v' := by
  obtain ⟨i0, hi, hz0, hz1, hz2⟩ := info_parts Try.info5
  obtain ⟨v', W', h1, h2, h3, h4⟩ := append_new 38 5 i0 (.int .u8 0) 1 1 Try.underlying38 hi hz0 hz1 hz2 rfl (by omega) v n vs hown #[.int .u8 (x.toNat : Int)] rfl (one_mem rfl) (by unfold maxLen; omega) (by omega)
  exact ⟨v', W', h1, h2, h3, h4⟩

theorem append_word {w : World} (x : UInt32) (v : Value) (n : Nat) (vs : List Value) (hown : w.ownsRow 0 36 1 v n vs) (hn : n ≤ 17592186044416) :
    ∃ v' W', (∀ ty, (Builtin.append_ #[39, 39] ty #[v, .slice (some ⟨w.heap.size, 0, none⟩) 1 1]).run Try.prog (w.alloc (.cells #[.int .u32 (x.toNat : Int)] 36)) = .ok v' W') ∧ W'.ownsRow 0 36 1 v' (n + 1) (vs ++ [.int .u32 (x.toNat : Int)]) ∧ Grew w v W' v' := by
  obtain ⟨i0, hi, hz0, hz1, hz2⟩ := info_parts Try.info36
  obtain ⟨v', W', h1, h2, h3, h4⟩ := append_new 39 36 i0 (.int .u32 0) 1 4 (by kernel_rfl) hi hz0 hz1 hz2 rfl (by omega) v n vs hown #[.int .u32 (x.toNat : Int)] rfl (one_mem rfl) (by unfold maxLen; omega) (by omega)
  exact ⟨v', W', h1, h2, h3, h4⟩

theorem div_pow8 (N j : Nat) : (N : Int) / 2 ^ (8 * j) % 256 = ((UInt8.ofNat (N / 256 ^ j)).toNat : Int) := by
  rw [← byte_eq, show (2 : Int) ^ (8 * j) = 256 ^ j by rw [Int.pow_mul]; rfl]

set_option maxHeartbeats 400000 in
theorem low_any (k N n : Nat) (v : Value) (xs : List UInt8) (w : World) (hown : w.ownsRow 0 5 1 v n (bvs xs)) (hk : k ≤ 8) (hN : N < 18446744073709551616) (hn : n ≤ 35184372088832) :
    Calls Try.prog 84 #[v, .int .u64 N, .int .i64 k] w fun e w' => ∃ v', e = .returned v' ∧ w'.ownsRow 0 5 1 v' (n + k) (bvs (xs ++ lowB k N)) ∧ Grew w v w' v' := by
  have HO : Hid (w.ownsRow 0 5 1 v n (bvs xs)) := hown
  have HN : Hid (n ≤ 35184372088832) := hn
  clear hown hn
  go_enter Try.func84, Try.ntmps84
  go_wp2
  go_loopw [0, 7] (fun o i wr => ∃ j : Nat, j ≤ k ∧ i = .int .i64 j ∧ wr.ownsRow 0 5 1 o (n + j) (bvs (xs ++ lowB j N)) ∧ Grew w v wr o)
    (fun _ i _ => k - (intOf i).toNat)
  case atStart => exact ⟨0, Nat.zero_le _, rfl, by simpa [lowB] using HO.out, Grew.refl _ _⟩
  case round =>
    obtain ⟨j, hj, rfl, hB, hG⟩ := hrel
    by_cases hlt : j < k
    · obtain ⟨v', W', happ, hown', hfr'⟩ := append_byte (UInt8.ofNat (N / 256 ^ j)) u0 (n + j) _ hB (by have := HN.out; omega)
      rw [← div_pow8] at happ
      have HAP : Hid (∀ ty, _) := happ
      have HR : Hid (W'.ownsRow 0 5 1 v' (n + (j + 1)) (bvs (xs ++ lowB (j + 1) N))) := by
        rw [lowB_succ, ← List.append_assoc, bvs_append]; exact hown'
      have HG : Hid (Grew w v W' v') := hG.trans hfr'
      clear happ hown' hfr' hB hG
      go_wp2_with (at_builtin; go_must (refine wpList_append_run rfl (.tmp 13) (.tmp 20) 38 38 rfl u0 (.slice (some ⟨wr.heap.size, 0, none⟩) 1 1) v' W' rfl rfl HAP.out ?_))
      go_roundw
      case rel => exact ⟨j + 1, by omega, by go_num, HR.out, HG.out⟩
      case measure => simp [intOf]; omega
    · obtain rfl : j = k := by omega
      have HB : Hid (wr.ownsRow _ _ _ _ _ _) := hB
      have HG : Hid (Grew _ _ _ _) := hG
      clear hB hG
      go_wp2
      go_ret
      exact ⟨u0, rfl, HB.out, HG.out⟩

/-- The bytes from j on, as a number. -/
theorem highN_drop (xs : List UInt8) (j : Nat) (hj : j < xs.length) : highN (xs.drop j) = xs[j].toNat + 256 * highN (xs.drop (j + 1)) := by
  rw [List.drop_eq_getElem_cons hj]
  rfl

set_option maxHeartbeats 400000 in
theorem high_any (g o k c : Nat) (xs : List UInt8) (w : World) (hcell : ∀ j, (hj : j < xs.length) → w.cell? ⟨g, o + j, none⟩ = some (.int .u8 (xs[j].toNat : Int))) (hk : xs.length = k) (h8 : k ≤ 8) :
    Calls Try.prog 85 #[.slice (some ⟨g, o, none⟩) k c] w fun e w' => e = .returned (.int .u64 (highN xs)) ∧ w' = w := by
  have HC : Hid (∀ j, (hj : j < xs.length) → w.cell? ⟨g, o + j, none⟩ = some (.int .u8 (xs[j].toNat : Int))) := hcell
  have HL : Hid (xs.length = k) := hk
  clear hcell hk
  go_enter Try.func85, Try.ntmps85
  go_wp2
  go_loop [3, 4] (fun s i => ∃ j : Nat, j ≤ k ∧ i = .int .i64 ((j : Int) - 1) ∧ s = .int .u64 ((highN (xs.drop j) : Nat) : Int)) (fun _ i => ((intOf i) + 1).toNat)
  case atStart => exact ⟨k, by omega, rfl, by rw [List.drop_of_length_le (by have := HL.out; omega)]; rfl⟩
  case round =>
    obtain ⟨j, hj, rfl, rfl⟩ := hrel
    by_cases h0 : 0 < j
    · obtain ⟨m, rfl⟩ : ∃ m, j = m + 1 := ⟨j - 1, by omega⟩
      have hm : m < xs.length := by have := HL.out; omega
      have hc := HC.out m hm
      have hstep := highN_drop xs m hm
      have hlt := highN_lt (xs.drop m)
      rw [List.length_drop, HL.out] at hlt
      have hp : 256 ^ (k - m) ≤ 256 ^ 8 := Nat.pow_le_pow_right (by omega) (by omega)
      have hx := (xs[m]).toNat_lt
      obtain ⟨A, hA⟩ : ∃ A, A = highN (xs.drop (m + 1)) := ⟨_, rfl⟩
      obtain ⟨X, hX⟩ : ∃ X, X = (xs[m]).toNat := ⟨_, rfl⟩
      obtain ⟨B, hBB⟩ : ∃ B, B = highN (xs.drop m) := ⟨_, rfl⟩
      have HBB : Hid (B = highN (xs.drop m)) := hBB
      rw [← hX] at hc
      rw [← hA]
      rw [← hA, ← hX, ← hBB] at hstep
      rw [← hBB] at hlt
      rw [← hX] at hx
      have hX8 : (X : Int) < 256 := by omega
      have hBi : (A : Int) * 256 + (X : Int) = (B : Int) := by omega
      have hBl : (B : Int) < 18446744073709551616 := by omega
      have e1 : ((m + 1 : Nat) : Int) - 1 = (m : Int) := by omega
      rw [e1]
      clear hA hX hBB hp hlt hstep e1 hx
      go_wp2
      go_round
      case rel => exact ⟨m, by omega, by go_num, by rw [← HBB.out]⟩
      case measure => simp [intOf]
    · obtain rfl : j = 0 := by omega
      go_wp2
      go_ret
      exact ⟨rfl, rfl⟩

theorem own_slice {w : World} {e : TypeId} {size n : Nat} {v : Value} {vs : List Value} (h : w.ownsRow 0 e size v n vs) : ∃ a c, v = .slice a n c ∧ n ≤ c ∧ c ≤ maxLen := by
  rcases h.2 with ⟨rfl, rfl⟩ | ⟨g, cap, cur, rfl, _, hg1, hnc, hcm, hcs, htake⟩
  · exact ⟨none, 0, rfl, Nat.le_refl _, Nat.zero_le _⟩
  · exact ⟨_, _, rfl, hnc, hcm⟩

/-- The bytes of an owned row can be read. -/
theorem own_seg {w : World} {n c : Nat} {a : Option Addr} {xs : List UInt8} (h : w.ownsRow 0 5 1 (.slice a n c) n (bvs xs)) : xs.length = n ∧ Seg w a xs := by
  have hl : xs.length = n := by have := h.1; rw [bvs_length] at this; omega
  refine ⟨hl, ?_⟩
  rcases h.2 with ⟨h1, rfl⟩ | ⟨g, cap, cur, h1, _, hg1, hnc, hcm, hcs, htake⟩
  · exact .inl (List.length_eq_zero_iff.1 hl)
  · cases h1
    refine .inr ⟨g, 0, rfl, fun j hj => ?_⟩
    have := h.cells (g := g) rfl j _ (bvs_get xs j hj)
    rw [addr_add] at this
    exact this
theorem own_segW {w : World} {n c : Nat} {a : Option Addr} {xs : List UInt32} (h : w.ownsRow 0 36 1 (.slice a n c) n (wvs xs)) : xs.length = n ∧ SegW w a xs := by
  have hl : xs.length = n := by have := h.1; rw [wvs_length] at this; omega
  refine ⟨hl, ?_⟩
  rcases h.2 with ⟨h1, rfl⟩ | ⟨g, cap, cur, h1, _, hg1, hnc, hcm, hcs, htake⟩
  · exact .inl (List.length_eq_zero_iff.1 hl)
  · cases h1
    refine .inr ⟨g, 0, rfl, fun j hj => ?_⟩
    have := h.cells (g := g) rfl j _ (wvs_get xs j hj)
    rw [addr_add] at this
    exact this

/-- A writer of the document's, in block b: its list lies apart. -/
structure RW (w : World) (b : Nat) (v : Value) (xs : List UInt8) : Prop where
  blk : Blk w b [v] 88
  row : w.ownsRow 0 5 1 v xs.length (bvs xs)
  ne : v.ownBlock ≠ some b

/-- What a call does to an object in block b with the row v: it changes these alone. -/
structure Does (w : World) (b : Nat) (v : Value) (w' : World) (v' : Value) : Prop where
  fresh : v'.ownBlock = v.ownBlock ∨ ∃ k, v'.ownBlock = some k ∧ w.heap.size ≤ k
  keeps : Keeps (fun k => k = b ∨ some k = v.ownBlock) w w'

theorem RW.grown {w w1 : World} {b : Nat} {v v' : Value} {xs ys : List UInt8} (h : RW w b v xs) (hg : Grew w v w1 v') (ho : w1.ownsRow 0 5 1 v' ys.length (bvs ys)) :
    Blk w1 b [v] 88 ∧ RW (w1.setCell ⟨b, 0, none⟩ v') b v' ys ∧ Does w b v (w1.setCell ⟨b, 0, none⟩ v') v' := by
  have hb : Blk w1 b [v] 88 := h.blk.kept hg.keeps (fun e => h.ne e.symm)
  have hlt := h.blk.lt
  have hne : v'.ownBlock ≠ some b := by
    rcases hg.fresh with e | ⟨k, e, hk⟩
    · rw [e]; exact h.ne
    · rw [e]; intro e2; cases e2; omega
  have hb2 := hb.setCell 0 v'
  have hK1 : Keeps (· = b) w1 (w1.setCell ⟨b, 0, none⟩ v') := (Keeps.refl (· = b) w1).setCell ⟨b, 0, none⟩ v' (fun _ => Eq.refl b)
  have ho2 : (w1.setCell ⟨b, 0, none⟩ v').ownsRow 0 5 1 v' ys.length (bvs ys) := owns_kept ho hK1 (by
    intro k hk e
    apply hne
    rw [hk, e])
  have hK2 : Keeps (fun k => k = b ∨ some k = v.ownBlock) w1 (w1.setCell ⟨b, 0, none⟩ v') := hK1.mono fun k _ e => Or.inl e
  have hK3 : Keeps (fun k => k = b ∨ some k = v.ownBlock) w w1 := hg.keeps.mono fun k _ e => Or.inr e
  exact ⟨hb, ⟨hb2, ho2, hne⟩, ⟨hg.fresh, hK3.trans hK2 fun _ _ e => e⟩⟩

set_option maxHeartbeats 400000 in
theorem refNumber_any (b k N : Nat) (v : Value) (xs : List UInt8) (w : World) (h : RW w b v xs) (hk : k ≤ 8) (hN : N < 18446744073709551616) (hn : xs.length ≤ 35184372088832) :
    Calls Try.prog 60 #[.pointer (some ⟨b, 0, none⟩), .int .u64 N, .int .i64 k] w fun e w' => e = .returned (.tuple #[]) ∧ ∃ v', RW w' b v' (xs ++ lowB k N) ∧ Does w b v w' v' := by
  have hlow := low_any k N xs.length v xs w h.row hk hN hn
  obtain ⟨a, c, rfl, _, _⟩ := own_slice h.row
  have c0 := h.blk.cell (i := 0) rfl
  have HL : Hid (Calls _ _ _ _ _) := hlow
  have HH : Hid (RW w b _ xs) := h
  clear hlow h hn
  obtain ⟨n, hn⟩ : ∃ n, n = xs.length := ⟨_, rfl⟩
  rw [← hn] at c0 HL HH ⊢
  have HN : Hid (n = xs.length) := hn
  clear hn
  go_enter Try.func60, Try.ntmps60
  go_wp2_with fail
  refine HL.out.mono ?_
  rintro e w1 ⟨v', rfl, ho, hG⟩
  obtain ⟨a', c', rfl, _, _⟩ := own_slice ho
  obtain ⟨hb1, hR, hD⟩ := HH.out.grown (ys := xs ++ lowB k N) hG (by rw [List.length_append, lowB_length, ← HN.out]; exact ho)
  have hc := hb1.cell (i := 0) rfl
  have hf := hb1.frozen 0
  have HR : Hid (RW _ _ _ _) := hR
  have HD : Hid (Does _ _ _ _ _) := hD
  clear hR hD hG ho hb1 HH HL
  go_wp2
  go_end0
  exact ⟨rfl, _, HR.out, HD.out⟩

theorem Does.trans {w w1 w2 : World} {b : Nat} {v v1 v2 : Value} (h : Does w b v w1 v1) (k : Does w1 b v1 w2 v2) : Does w b v w2 v2 := by
  refine ⟨?_, h.keeps.trans k.keeps ?_⟩
  · rcases k.fresh with e | ⟨b, e, hb⟩
    · rw [e]; exact h.fresh
    · exact .inr ⟨b, e, Nat.le_trans h.keeps.size hb⟩
  · intro d hd e
    rcases e with e | e
    · exact .inl e
    · rcases h.fresh with f | ⟨c, f, hc⟩
      · rw [← f]; exact .inr e
      · rw [f] at e; cases e; omega

set_option maxHeartbeats 400000 in
theorem refText_any (b : Nat) (s : ByteArray) (v : Value) (xs : List UInt8) (w : World) (h : RW w b v xs) (hs : s.size < 4294967296) (hn : xs.length ≤ 35184372088832) :
    Calls Try.prog 61 #[.pointer (some ⟨b, 0, none⟩), .string s] w fun e w' => e = .returned (.tuple #[]) ∧ ∃ v', RW w' b v' (xs ++ (lowB 4 s.size ++ s.data.toList)) ∧ Does w b v w' v' := by
  have hlow := low_any 4 s.size xs.length v xs w h.row (by omega) (by omega) hn
  obtain ⟨a, c, rfl, _, _⟩ := own_slice h.row
  have c0 := h.blk.cell (i := 0) rfl
  have HL : Hid (Calls _ _ _ _ _) := hlow
  have HH : Hid (RW w b _ xs) := h
  have hsz : (s.size : Int) < 4294967296 := by omega
  clear hlow h
  obtain ⟨n, hnn⟩ : ∃ n, n = xs.length := ⟨_, rfl⟩
  rw [← hnn] at c0 HL HH ⊢
  have HN : Hid (n = xs.length ∧ xs.length ≤ 35184372088832 ∧ s.size < 4294967296) := ⟨hnn, hn, hs⟩
  clear hn hnn
  go_enter Try.func61, Try.ntmps61
  go_wp2_with fail
  refine HL.out.mono ?_
  rintro e w1 ⟨v', rfl, ho, hG⟩
  obtain ⟨a', c', rfl, _, _⟩ := own_slice ho
  obtain ⟨hb1, hR, hD⟩ := HH.out.grown (ys := xs ++ lowB 4 s.size) hG (by rw [List.length_append, lowB_length, ← HN.out.1]; exact ho)
  obtain ⟨v2, W2, happ, ho2, hfr, hKa⟩ := append_text _ _ _ hR.row s (by rw [List.length_append, lowB_length]; have := HN.out; omega)
  obtain ⟨a2, c2, rfl, _, _⟩ := own_slice ho2
  obtain ⟨hb2, hR2, hD2⟩ := hR.grown (ys := xs ++ (lowB 4 s.size ++ s.data.toList)) ⟨hfr, hKa⟩ (by
    rw [← List.append_assoc, List.length_append (bs := s.data.toList)]; exact ho2)
  have hc := hb1.cell (i := 0) rfl
  have hf := hb1.frozen 0
  have hc2 := hb2.cell (i := 0) rfl
  have hf2 := hb2.frozen 0
  have HR : Hid (RW _ _ _ (xs ++ (lowB 4 s.size ++ s.data.toList))) := hR2
  have HD : Hid (Does w b _ _ _) := hD.trans hD2
  have HAP : Hid (∀ ty, _) := happ
  have hl4 : (xs ++ lowB 4 s.size).length = n + 4 := by rw [List.length_append, lowB_length, ← HN.out.1]
  rw [hl4] at HR HD HAP
  clear hR hD hG ho hb1 HH HL hR2 hD2 happ ho2 hfr hKa hb2 hl4
  go_wp2_with (at_builtin; go_must (refine wpList_append_run rfl (.tmp 19) (.tmp 20) 38 9 rfl (.slice a' (n + 4) c') (.string s) (.slice a2 (n + 4 + s.size) c2) W2 rfl rfl HAP.out ?_))
  go_end0
  exact ⟨rfl, _, HR.out, HD.out⟩
end Go.Proofs.Ytonjmknjjdnjkaa
namespace Go.Proofs.Ytonjmknjjdnjkaa
open Go.RowKit
set_option linter.unusedVariables false

/-- A reader of the document's, in block b, of the bytes xs, at p, with the fault er. -/
structure RR (w : World) (b : Nat) (v : Value) (xs : List UInt8) (p : Nat) (er : Int) : Prop where
  blk : Blk w b [v, .int .i64 p, .int .i64 er] 97
  row : w.ownsRow 0 5 1 v xs.length (bvs xs)
  ne : v.ownBlock ≠ some b
  le : p ≤ xs.length

theorem owns_set {w : World} {e : TypeId} {size n b i : Nat} {v u : Value} {vs : List Value} (h : w.ownsRow 0 e size v n vs) (hne : v.ownBlock ≠ some b) : (w.setCell ⟨b, i, none⟩ u).ownsRow 0 e size v n vs := by
  have hK1 : Keeps (· = b) w (w.setCell ⟨b, i, none⟩ u) := (Keeps.refl (· = b) w).setCell ⟨b, i, none⟩ u (fun _ => Eq.refl b)
  refine owns_kept h hK1 ?_
  intro k hk e
  apply hne
  rw [hk, e]

theorem RR.go {w : World} {b p : Nat} {er : Int} {v : Value} {xs : List UInt8} (h : RR w b v xs p er) (p' : Nat) (hp : p' ≤ xs.length) : RR (w.setCell ⟨b, 1, none⟩ (.int .i64 p')) b v xs p' er :=
  ⟨h.blk.setCell 1 (.int .i64 p'), owns_set h.row h.ne, h.ne, hp⟩
theorem RR.fall {w : World} {b p : Nat} {er : Int} {v : Value} {xs : List UInt8} (h : RR w b v xs p er) (er' : Int) : RR (w.setCell ⟨b, 2, none⟩ (.int .i64 er')) b v xs p er' :=
  ⟨h.blk.setCell 2 (.int .i64 er'), owns_set h.row h.ne, h.ne, h.le⟩
theorem RR.drewN {w : World} {b p : Nat} {er : Int} {v : Value} {xs : List UInt8} (h : RR w b v xs p er) (n : Nat) : RR (w.drewN n) b v xs p er :=
  ⟨h.blk, ⟨h.row.1, h.row.2⟩, h.ne, h.le⟩

/-- What is known of a reader, as its cells stand. -/
theorem RR.look {w : World} {b p : Nat} {er : Int} {v : Value} {xs : List UInt8} (h : RR w b v xs p er) : ∃ a c, v = .slice a xs.length c ∧ xs.length ≤ c ∧ c ≤ 9223372036854775807 ∧ Seg w a xs := by
  obtain ⟨a, c, rfl, h1, h2⟩ := own_slice h.row
  exact ⟨a, c, rfl, h1, by unfold maxLen at h2; omega, (own_seg h.row).2⟩

set_option maxHeartbeats 400000 in
theorem refRNum_fault (b p n : Nat) (er : Int) (v : Value) (xs : List UInt8) (w : World) (h : RR w b v xs p er) (he : (er != 0) = true) :
    Calls Try.prog 62 #[.pointer (some ⟨b, 0, none⟩), .int .i64 n] w fun e w' => e = .returned (.int .u64 0) ∧ w' = w := by
  have c2 := h.blk.cell (i := 2) rfl
  clear h
  go_enter Try.func62, Try.ntmps62
  go_wp2
  go_ret
  exact ⟨rfl, rfl⟩

set_option maxHeartbeats 400000 in
theorem refRNum_short (b p n : Nat) (v : Value) (xs : List UInt8) (w : World) (h : RR w b v xs p 0) (hn : xs.length < p + n) (h8 : n ≤ 8) :
    Calls Try.prog 62 #[.pointer (some ⟨b, 0, none⟩), .int .i64 n] w fun e w' => e = .returned (.int .u64 0) ∧ RR w' b v xs p 12 ∧ Keeps (· = b) w w' := by
  obtain ⟨a, c, rfl, h1, h2, _⟩ := h.look
  have c0 := h.blk.cell (i := 0) rfl
  have c1 := h.blk.cell (i := 1) rfl
  have c2 := h.blk.cell (i := 2) rfl
  have f2 := h.blk.frozen 2
  have hle := h.le
  have HH : Hid (RR _ _ _ _ _ _) := h
  obtain ⟨L, hL⟩ : ∃ L, L = xs.length := ⟨_, rfl⟩
  rw [← hL] at hn hle HH c0 h1 ⊢
  have t1 : (L : Int) - (p : Int) < (n : Int) := by omega
  have hLm : (L : Int) ≤ 9223372036854775807 := by omega
  clear h hL hn h1 h2
  go_enter Try.func62, Try.ntmps62
  go_wp2
  go_quiet (fail)
  go_wp2
  go_ret
  exact ⟨rfl, (HH.out.drewN _).fall 12, ((Keeps.refl _ w).drewN _).setCell _ _ fun _ => rfl⟩

set_option maxHeartbeats 400000 in
theorem refRNum_ok (b p n : Nat) (v : Value) (xs : List UInt8) (w : World) (h : RR w b v xs p 0) (hn : p + n ≤ xs.length) (h8 : n ≤ 8) (h0 : 0 < n) :
    Calls Try.prog 62 #[.pointer (some ⟨b, 0, none⟩), .int .i64 n] w fun e w' => e = .returned (.int .u64 (highN ((xs.drop p).take n))) ∧ RR w' b v xs (p + n) 0 ∧ Keeps (· = b) w w' := by
  obtain ⟨a, c, rfl, h1, h2, hs⟩ := h.look
  rcases hs with hs | ⟨g, o, rfl, hcell⟩
  · rw [hs] at hn; simp at hn; omega
  have c0 := h.blk.cell (i := 0) rfl
  have c1 := h.blk.cell (i := 1) rfl
  have c2 := h.blk.cell (i := 2) rfl
  have f1 := h.blk.frozen 1
  have hle := h.le
  have HH : Hid (RR _ _ _ _ _ _) := h
  have hln : ((xs.drop p).take n).length = n := by rw [List.length_take, List.length_drop]; omega
  have HC : Hid (∀ k, Calls Try.prog 85 #[.slice (some ⟨g, o + p, none⟩) n (c - p)] (w.drewN k) fun e w' => e = .returned (.int .u64 (highN ((xs.drop p).take n))) ∧ w' = w.drewN k) := fun k =>
    high_any g (o + p) n (c - p) ((xs.drop p).take n) (w.drewN k) (fun j hj => by
      rw [hln] at hj
      have := hcell (p + j) (by omega)
      rw [Nat.add_assoc, World.cell?_drewN, this]
      simp) hln h8
  obtain ⟨L, hL⟩ : ∃ L, L = xs.length := ⟨_, rfl⟩
  have HL : Hid (p + n ≤ xs.length) := hn
  rw [← hL] at hn hle HH c0 h1 ⊢
  obtain ⟨V, hV⟩ : ∃ V, V = highN ((xs.drop p).take n) := ⟨_, rfl⟩
  rw [← hV] at HC ⊢
  have t1 : ¬ (L : Int) - (p : Int) < (n : Int) := by omega
  have hLm : (L : Int) ≤ 9223372036854775807 := by omega
  have hcp : ¬ c = p := by omega
  have hwr : IntKind.i64.wrap ((p : Int) + (n : Int)) = (p : Int) + (n : Int) := by rw [IntKind.wrap_i64]; omega
  have t3 : (p : Int) + (n : Int) ≤ (c : Int) := by omega
  have HT : Hid (((p : Int) + (n : Int)).toNat - p = n) := by show _ = _; omega
  have t4 : (p : Int) ≤ (p : Int) + (n : Int) := by omega
  clear h hL hV hcell hln
  go_enter Try.func62, Try.ntmps62
  go_wp2
  go_quiet (fail)
  go_wp2
  go_quiet ((go_at_call 85; (try rw [HT.out]); exact (HC.out _).mono fun e w2 h2 => ⟨h2.1, _, h2.2⟩))
  go_wp2
  go_ret
  refine ⟨rfl, ?_, ((Keeps.refl _ w).drewN _).setCell _ _ fun _ => rfl⟩
  refine (?_ : ∀ m, RR ((w.drewN m).setCell ⟨b, 1, none⟩ (.int .i64 ((p : Int) + (n : Int)))) b _ xs (p + n) 0) _
  intro m
  have := (HH.out.drewN m).go (p + n) HL.out
  rw [Int.natCast_add] at this
  exact this
end Go.Proofs.Ytonjmknjjdnjkaa
