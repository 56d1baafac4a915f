import Derived.Test.YtohojpacijnnaaaDoorTe
import Derived.Laws.OwnMore
namespace Go.Proofs.YtohojpacijnnaaaDoor
open Go.RowKit Go.Shelf
set_option linter.unusedVariables false
set_option linter.unusedSimpArgs false
set_option maxRecDepth 6000

theorem info_parts {t : TypeId} {z : Value} {n b : Nat} (h : (Tryd.prog.info? t).map (fun i => (i.zero, i.size, i.bytes)) = some (some z, n, b)) : ∃ i, Tryd.prog.info? t = some i ∧ i.zero = some z ∧ i.size = n ∧ i.bytes = b := by
  obtain ⟨i, hi, he⟩ := Option.map_eq_some_iff.1 h
  simp only [Prod.mk.injEq] at he
  exact ⟨i, hi, he.1, he.2.1, he.2.2⟩
theorem info5 : (Tryd.prog.info? 5).map (fun i => (i.zero, i.size, i.bytes)) = some (some (.int .u8 0), 1, 1) := by kernel_rfl
theorem Keeps.of_grown {w w' : World} {row : Option Nat} (h : w.grownBy w' row) : Keeps (fun k => some k = row) w w' :=
  ⟨h.os, h.tape, h.output, h.size, fun k hk hn => h.block k hk hn⟩
theorem grown_of_keeps {S : Nat → Prop} {w w' : World} {row : Option Nat} (h : Keeps S w w') (hs : ∀ k, k < w.heap.size → S k → some k = row) : w.grownBy w' row :=
  ⟨h.os, h.tape, h.output, h.size, fun k hk hn => h.block k hk fun hS => hn (hs k hk hS)⟩

/-- An owned row is kept where its block is. -/
theorem owns_kept {S : Nat → Prop} {w w' : World} {e : TypeId} {size n : Nat} {v : Value} {vs : List Value} (h : w.ownsRow 0 e size v n vs) (hK : Keeps S w w') (hn : ∀ k, v.ownBlock = some k → ¬ S k) : w'.ownsRow 0 e size v n vs := by
  refine ⟨h.1, ?_⟩
  rcases h.2 with h2 | ⟨g, cap, cur, rfl, hb, hg, h3⟩
  · exact .inl h2
  · refine .inr ⟨g, cap, cur, rfl, hb, ?_, h3⟩
    rw [hK.block g (Array.getElem?_eq_some_iff.1 hg).1 (hn g rfl)]
    exact hg

theorem append_many {w : World} (t e : TypeId) (i : TypeInfo) (z : Value) (size bytes : Nat) (ht : Tryd.prog.underlying t = some (.slice e)) (hi : Tryd.prog.info? e = some i) (hz : i.zero = some z)
    (hs : i.size = size) (hb : i.bytes = bytes) (hzs : z.cells.size = size) (h0 : 0 < size) (v : Value) (n : Nat) (vs : List Value) (hown : w.ownsRow 0 e size v n vs)
    (a : Addr) (m c : Nat) (news : List Value) (hl : news.length = m * size) (hnews : ∀ j u, news[j]? = some u → w.cell? (a.add j) = some u) (h1 : ∀ u ∈ news, u.oneCell' = true)
    (hm : n + m ≤ maxLen) (hbytes : (n + m) * bytes ≤ 140737488355328) :
    ∃ v' W', (∀ ty, (Builtin.append_ #[t, t] ty #[v, .slice (some a) m c]).run Tryd.prog w = .ok v' W') ∧ W'.ownsRow 0 e size v' (n + m) (vs ++ news) ∧
      (v'.ownBlock = v.ownBlock ∨ ∃ k, v'.ownBlock = some k ∧ w.heap.size ≤ k) ∧ Keeps (fun k => some k = v.ownBlock) w W' := by
  obtain ⟨v', W', hr, ho, hg, hnil⟩ := run_append_own (P := Tryd.prog) w 0 t 0 e i z size bytes ht hi hz hs hb hzs h0 v n vs hown a m c news hl hnews h1 hm hbytes (Nat.zero_le _)
  refine ⟨v', W', fun ty => hr, ho, ?_, Keeps.of_grown hg⟩
  have hbig : n + m ≤ 9223372036854775807 := by unfold maxLen at hm; omega
  rcases hown.2 with ⟨rfl, rfl⟩ | ⟨g, cap, cur, rfl, _, hg1, hnc, hcm, hcs, htake⟩
  · by_cases hm0 : m = 0
    · left; rw [hnil.2 ⟨rfl, hm0⟩]
    · have h2 := run_append_nil (P := Tryd.prog) w t 0 e i z ht hi hz a m c news (by rw [hs]; exact hl) hnews (by omega) (by omega) (by
        rw [hb]
        rw [Nat.zero_add] at hbytes
        omega)
      rw [hr] at h2
      have e1 : v' = _ := (Result.ok.inj h2).1
      right
      rw [e1]
      exact ⟨_, rfl, by simp⟩
  · by_cases hroom : n + m ≤ cap
    · have h2 := run_append_room (P := Tryd.prog) w t 0 e i ht hi g n cap cur hg1 a m c news (by rw [hs]; exact hl) hnews h1 hroom (by
        rw [hs, hcs, hl, ← Nat.add_mul]; exact Nat.mul_le_mul_right _ hroom)
      rw [hr] at h2
      have e1 : v' = _ := (Result.ok.inj h2).1
      left
      rw [e1]
      rfl
    · have h2 := run_append_grow (P := Tryd.prog) w t 0 e i z ht hi hz ⟨g, 0, none⟩ n cap vs (by rw [hs]; exact hown.1) (hown.cells rfl) a m c news (by rw [hs]; exact hl) hnews (by omega) (by omega) (by
        rw [hb]; exact growslice_fits (by omega) hbytes)
      rw [hr] at h2
      have e1 : v' = _ := (Result.ok.inj h2).1
      right
      rw [e1]
      exact ⟨_, rfl, by simp⟩

theorem append_new {w : World} (t e : TypeId) (i : TypeInfo) (z : Value) (size bytes : Nat) (ht : Tryd.prog.underlying t = some (.slice e)) (hi : Tryd.prog.info? e = some i) (hz : i.zero = some z)
    (hs : i.size = size) (hb : i.bytes = bytes) (hzs : z.cells.size = size) (h0 : 0 < size) (v : Value) (n : Nat) (vs : List Value) (hown : w.ownsRow 0 e size v n vs)
    (xs : Array Value) (hl : xs.size = size) (h1 : ∀ u ∈ xs.toList, u.oneCell' = true)
    (hm : n + 1 ≤ maxLen) (hbytes : (n + 1) * bytes ≤ 140737488355328) :
    ∃ v' W', (∀ ty, (Builtin.append_ #[t, t] ty #[v, .slice (some ⟨w.heap.size, 0, none⟩) 1 1]).run Tryd.prog (w.alloc (.cells xs e)) = .ok v' W') ∧ W'.ownsRow 0 e size v' (n + 1) (vs ++ xs.toList) ∧
      (v'.ownBlock = v.ownBlock ∨ ∃ k, v'.ownBlock = some k ∧ w.heap.size ≤ k) ∧ Keeps (fun k => some k = v.ownBlock) w W' := by
  have hW : Keeps (fun _ => False) w (w.alloc (.cells xs e)) := (Keeps.refl _ w).alloc _
  have hown1 : (w.alloc (.cells xs e)).ownsRow 0 e size v n vs := owns_kept hown hW (fun _ _ h => h)
  obtain ⟨v', W', hr, ho, hfr, hK⟩ := append_many t e i z size bytes ht hi hz hs hb hzs h0 v n vs hown1 ⟨w.heap.size, 0, none⟩ 1 1 xs.toList (by simpa using hl) (by
    intro j u hj
    have hB := Blk.new w xs e
    rw [addr_add]
    exact hB.cell (by rw [Nat.zero_add]; exact hj)) h1 hm hbytes
  refine ⟨v', W', hr, ho, ?_, (hW.mono fun _ _ h => h.elim).trans hK fun _ _ h => h⟩
  rcases hfr with h | ⟨k, h, h2⟩
  · exact .inl h
  · exact .inr ⟨k, h, by simp at h2; omega⟩

theorem append_text {w : World} (v : Value) (n : Nat) (xs : List UInt8) (hown : w.ownsRow 0 5 1 v n (bvs xs)) (s : ByteArray) (hm : n + s.size ≤ 140737488355328) :
    ∃ v' W', (∀ ty, (Builtin.append_ #[28, 9] ty #[v, .string s]).run Tryd.prog w = .ok v' W') ∧ W'.ownsRow 0 5 1 v' (n + s.size) (bvs (xs ++ s.data.toList)) ∧
      (v'.ownBlock = v.ownBlock ∨ ∃ k, v'.ownBlock = some k ∧ w.heap.size ≤ k) ∧ Keeps (fun k => some k = v.ownBlock) w W' := by
  obtain ⟨i, hi, hz, hs, hb⟩ := info_parts info5
  have hsz : s.data.toList.length = s.size := rfl
  have hlen : (bvs s.data.toList).length = s.size := by rw [bvs_length, hsz]
  have hxl : xs.length = n := by have := hown.1; rw [bvs_length] at this; omega
  have hx : Array.map (fun b : UInt8 => Value.int IntKind.u8 (b.toNat : Int)) s.data = (bvs s.data.toList).toArray := by
    apply Array.ext'
    simp [bvs]
  have hext : (Array.map (fun b : UInt8 => Value.int IntKind.u8 (b.toNat : Int)) s.data).extract 0 s.size = (bvs s.data.toList).toArray := by
    have hq : s.size = (Array.map (fun b : UInt8 => Value.int IntKind.u8 (b.toNat : Int)) s.data).size := by rw [Array.size_map]; rfl
    rw [hq, Array.extract_size, hx]
  have hbv : bvs (xs ++ s.data.toList) = bvs xs ++ bvs s.data.toList := bvs_append _ _
  have hfirst : ∀ w1 : World, (Builtin.firstCells 1 s.size (.string s)).run Tryd.prog w1 = .ok (bvs s.data.toList).toArray w1 := by
    intro w1
    simp [Builtin.firstCells]
    exact hx
  rcases hown.2 with ⟨rfl, rfl⟩ | ⟨g, cap, cur, rfl, _, hg1, hnc, hcm, hcs, htake⟩
  · have hx0 : xs = [] := List.length_eq_zero_iff.1 hxl
    subst hx0
    by_cases h0 : s.size = 0
    · refine ⟨.slice none 0 0, w, fun ty => ?_, ?_, .inl rfl, Keeps.refl _ _⟩
      · simp [Builtin.append_, run_underlying Tryd.underlying28, run_underlying (P := Tryd.prog) (t := 9) (show Tryd.prog.underlying 9 = some .string by kernel_rfl), sizeOf, typeInfo, hi, hs, Builtin.lenOf, h0, h0 ▸ hfirst w]
      · have : s.data.toList = [] := List.length_eq_zero_iff.1 (by omega)
        rw [h0, this]
        exact World.ownsRow_nil _ _ _ _
    · have h2 := fun ty => run_append_nil_string (P := Tryd.prog) w 28 9 ty 5 i (.int .u8 0) Tryd.underlying28 (by kernel_rfl) hi hz s (by omega) (by omega) (by rw [hb]; omega)
      refine ⟨_, _, h2, ?_, .inr ⟨_, rfl, Nat.le_refl _⟩, (Keeps.refl _ w).drew.alloc _⟩
      have hge := grownCap_ge w s.size 0 5
      have hle := grownCap_le_maxLen w s.size 0 5 (by unfold maxLen; omega)
      refine ⟨by rw [bvs_length]; simp [hsz], .inr ⟨w.heap.size, grownCap w s.size 0 5, _, by simp, Nat.zero_le _, heap_alloc_new w.drew _, by omega, hle, ?_, ?_⟩⟩
      · rw [hx]
        have : (Value.int IntKind.u8 0).cells.size = 1 := rfl
        simp only [Array.size_append, List.size_toArray, hlen, size_zeroCells, this, Nat.mul_one]
        omega
      · rw [hx]
        simp only [Array.toList_append, List.nil_append, Nat.mul_one, Nat.zero_add]
        rw [List.take_append_of_le_length (by rw [hlen]; omega), List.take_of_length_le (by rw [hlen]; omega)]
  · have hBg : Blk w g cur.toList 5 := by unfold Blk; rw [Array.toArray_toList]; exact hg1
    by_cases hroom : n + s.size ≤ cap
    · have hst := run_storeCells_at Tryd.prog g n 5 (bvs s.data.toList) 0 cur w hg1 (by rw [hlen]; simp; omega) (bvs_one _)
      rw [hlen] at hst
      simp only [Nat.add_zero] at hst
      refine ⟨.slice (some ⟨g, 0, none⟩) (n + s.size) cap, w.setRow g (cur.toList.take n ++ bvs s.data.toList ++ cur.toList.drop (n + s.size)).toArray, fun ty => ?_, ?_, .inl rfl, (Keeps.refl _ w).setRow _ _ fun _ => rfl⟩
      · simp [Builtin.append_, run_underlying Tryd.underlying28, run_underlying (P := Tryd.prog) (t := 9) (show Tryd.prog.underlying 9 = some .string by kernel_rfl), sizeOf, typeInfo, hi, hs, Builtin.lenOf, hroom, hfirst, addr_add, hst]
      · have hB2 := hBg.setRow (cur.toList.take n ++ bvs s.data.toList ++ cur.toList.drop (n + s.size))
        have hln : (cur.toList.take n).length = n := by rw [List.length_take]; simp; omega
        refine ⟨by rw [bvs_length]; simp [hsz, hxl], .inr ⟨g, cap, _, rfl, Nat.zero_le _, hB2, by omega, hcm, ?_, ?_⟩⟩
        · simp [hlen]; omega
        · rw [hbv, ← htake]
          simp only [Nat.mul_one]
          rw [List.take_append_of_le_length (by rw [List.length_append, hln, hlen]; exact Nat.le_refl _), List.take_of_length_le (by rw [List.length_append, hln, hlen]; exact Nat.le_refl _)]
    · have hfo := run_firstCells_some (P := Tryd.prog) w.drew 1 n ⟨g, 0, none⟩ n cap (bvs xs) (by rw [bvs_length]; omega) (by
        intro j u hj
        have := hown.cells rfl j u hj
        exact this)
      have h63' : ¬ (9223372036854775807 < ((n : Int) + (s.size : Int))) := by omega
      have h48' : ¬ (281474976710656 < Builtin.nextslicecap (n + s.size) cap * 1) := by
        have := growslice_fits (bytes := 1) (need := n + s.size) (old := cap) (by omega) (by omega)
        omega
      have h48'' : ¬ (281474976710656 < Builtin.nextslicecap (n + s.size) cap) := by omega
      have hge := grownCap_ge w (n + s.size) cap 5
      have hle := grownCap_le_maxLen w (n + s.size) cap 5 (by unfold maxLen; omega)
      refine ⟨.slice (some ⟨w.heap.size, 0, none⟩) (n + s.size) (grownCap w (n + s.size) cap 5), w.drew.alloc (.cells ((bvs xs).toArray ++ (bvs s.data.toList).toArray ++ Builtin.zeroCells (Value.int .u8 0).cells (grownCap w (n + s.size) cap 5 - (n + s.size))) 5), fun ty => ?_, ?_, .inr ⟨_, rfl, Nat.le_refl _⟩, (Keeps.refl _ w).drew.alloc _⟩
      · simp [Builtin.append_, run_underlying Tryd.underlying28, run_underlying (P := Tryd.prog) (t := 9) (show Tryd.prog.underlying 9 = some .string by kernel_rfl), sizeOf, typeInfo, zeroValue, hi, hs, hz, hb, Builtin.lenOf, hroom, h63', h48'', Question.forced, hfirst, hfo, newRow, grownCap]
        rw [show (bvs xs ++ bvs s.data.toList).toArray = (bvs xs).toArray ++ (bvs s.data.toList).toArray by simp, Array.append_assoc]
      · refine ⟨by rw [bvs_length]; simp [hsz, hxl], .inr ⟨w.heap.size, _, _, rfl, Nat.zero_le _, heap_alloc_new w.drew _, by omega, hle, ?_, ?_⟩⟩
        · have : (Value.int IntKind.u8 0).cells.size = 1 := rfl
          simp only [Array.size_append, List.size_toArray, hlen, size_zeroCells, bvs_length, hxl, this, Nat.mul_one]
          omega
        · rw [hbv]
          simp only [Array.toList_append, Nat.mul_one]
          rw [List.take_append_of_le_length (by simp [hlen, bvs_length, hxl]), List.take_of_length_le (by simp [hlen, bvs_length, hxl])]
end Go.Proofs.YtohojpacijnnaaaDoor
