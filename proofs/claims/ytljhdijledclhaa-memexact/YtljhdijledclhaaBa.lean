import Derived.Test.YtljhdijledclhaaI
import Derived.Test.YtljhdijledclhaaD
import Derived.Deep.RegionHeld3
import Derived.StillTailTactics
namespace Go.Proofs.Ytljhdijledclhaa
open Go.RowKit
set_option linter.unusedVariables false
set_option linter.unusedSimpArgs false

theorem Keeps.of_grown {w w' : World} {row : Option Nat} (h : w.grownBy w' row) : Keeps (fun k => some k = row) w w' :=
  ⟨h.os, h.tape, h.output, h.size, fun k hk hn => h.block k hk hn⟩

theorem owns_kept {S : Nat → Prop} {w w' : World} {e : TypeId} {size n : Nat} {v : Value} {vs : List Value} (h : w.ownsRow 0 e size v n vs) (hK : Keeps S w w') (hn : ∀ k, v.ownBlock = some k → ¬ S k) : w'.ownsRow 0 e size v n vs := by
  refine ⟨h.1, ?_⟩
  rcases h.2 with h2 | ⟨g, cap, cur, rfl, hb, hg, h3⟩
  · exact .inl h2
  · refine .inr ⟨g, cap, cur, rfl, hb, ?_, h3⟩
    rw [hK.block g (Array.getElem?_eq_some_iff.1 hg).1 (hn g rfl)]
    exact hg

/-! ### append to a row of one's own, and where the new row lies -/

theorem append_many {w : World} (t e : TypeId) (i : TypeInfo) (z : Value) (size bytes : Nat) (ht : Try.prog.underlying t = some (.slice e)) (hi : Try.prog.info? e = some i) (hz : i.zero = some z)
    (hs : i.size = size) (hb : i.bytes = bytes) (hzs : z.cells.size = size) (h0 : 0 < size) (v : Value) (n : Nat) (vs : List Value) (hown : w.ownsRow 0 e size v n vs)
    (a : Addr) (m c : Nat) (news : List Value) (hl : news.length = m * size) (hnews : ∀ j u, news[j]? = some u → w.cell? (a.add j) = some u) (h1 : ∀ u ∈ news, u.oneCell' = true)
    (hm : n + m ≤ maxLen) (hbytes : (n + m) * bytes ≤ 140737488355328) :
    ∃ v' W', (∀ ty, (Builtin.append_ #[t, t] ty #[v, .slice (some a) m c]).run Try.prog w = .ok v' W') ∧ W'.ownsRow 0 e size v' (n + m) (vs ++ news) ∧
      (v'.ownBlock = v.ownBlock ∨ ∃ k, v'.ownBlock = some k ∧ w.heap.size ≤ k) ∧ Keeps (fun k => some k = v.ownBlock) w W' := by
  obtain ⟨v', W', hr, ho, hg, hnil⟩ := run_append_own (P := Try.prog) w 0 t 0 e i z size bytes ht hi hz hs hb hzs h0 v n vs hown a m c news hl hnews h1 hm hbytes (Nat.zero_le _)
  refine ⟨v', W', fun ty => hr, ho, ?_, Keeps.of_grown hg⟩
  have hbig : n + m ≤ 9223372036854775807 := by unfold maxLen at hm; omega
  rcases hown.2 with ⟨rfl, rfl⟩ | ⟨g, cap, cur, rfl, _, hg1, hnc, hcm, hcs, htake⟩
  · by_cases hm0 : m = 0
    · left; rw [hnil.2 ⟨rfl, hm0⟩]
    · have h2 := run_append_nil (P := Try.prog) w t 0 e i z ht hi hz a m c news (by rw [hs]; exact hl) hnews (by omega) (by omega) (by
        rw [hb]
        rw [Nat.zero_add] at hbytes
        omega)
      rw [hr] at h2
      have e1 : v' = _ := (Result.ok.inj h2).1
      right
      rw [e1]
      exact ⟨_, rfl, by simp⟩
  · by_cases hroom : n + m ≤ cap
    · have h2 := run_append_room (P := Try.prog) w t 0 e i ht hi g n cap cur hg1 a m c news (by rw [hs]; exact hl) hnews h1 hroom (by
        rw [hs, hcs, hl, ← Nat.add_mul]; exact Nat.mul_le_mul_right _ hroom)
      rw [hr] at h2
      have e1 : v' = _ := (Result.ok.inj h2).1
      left
      rw [e1]
      rfl
    · have h2 := run_append_grow (P := Try.prog) w t 0 e i z ht hi hz ⟨g, 0, none⟩ n cap vs (by rw [hs]; exact hown.1) (hown.cells rfl) a m c news (by rw [hs]; exact hl) hnews (by omega) (by omega) (by
        rw [hb]; exact growslice_fits (by omega) hbytes)
      rw [hr] at h2
      have e1 : v' = _ := (Result.ok.inj h2).1
      right
      rw [e1]
      exact ⟨_, rfl, by simp⟩

theorem append_none {w : World} (t e : TypeId) (i : TypeInfo) (size : Nat) (ht : Try.prog.underlying t = some (.slice e)) (hi : Try.prog.info? e = some i)
    (hs : i.size = size) (h0 : 0 < size) (v : Value) (n c : Nat) (vs : List Value) (hown : w.ownsRow 0 e size v n vs) (ty : TypeId) :
    (Builtin.append_ #[t, t] ty #[v, .slice none 0 c]).run Try.prog w = .ok v w := by
  rcases hown.2 with ⟨rfl, rfl⟩ | ⟨g, cap, cur, rfl, _, hg1, hnc, hcm, hcs, htake⟩
  · simp [Builtin.append_, run_underlying ht, sizeOf, typeInfo, hi, Builtin.lenOf, run_firstCells_none]
  · simp [Builtin.append_, run_underlying ht, sizeOf, typeInfo, hi, Builtin.lenOf, hnc, run_firstCells_none, storeCells]

theorem append_new {w : World} (t e : TypeId) (i : TypeInfo) (z : Value) (size bytes : Nat) (ht : Try.prog.underlying t = some (.slice e)) (hi : Try.prog.info? e = some i) (hz : i.zero = some z)
    (hs : i.size = size) (hb : i.bytes = bytes) (hzs : z.cells.size = size) (h0 : 0 < size) (v : Value) (n : Nat) (vs : List Value) (hown : w.ownsRow 0 e size v n vs)
    (xs : Array Value) (hl : xs.size = size) (h1 : ∀ u ∈ xs.toList, u.oneCell' = true)
    (hm : n + 1 ≤ maxLen) (hbytes : (n + 1) * bytes ≤ 140737488355328) :
    ∃ v' W', (∀ ty, (Builtin.append_ #[t, t] ty #[v, .slice (some ⟨w.heap.size, 0, none⟩) 1 1]).run Try.prog (w.alloc (.cells xs e)) = .ok v' W') ∧ W'.ownsRow 0 e size v' (n + 1) (vs ++ xs.toList) ∧
      (v'.ownBlock = v.ownBlock ∨ ∃ k, v'.ownBlock = some k ∧ w.heap.size ≤ k) ∧ Keeps (fun k => some k = v.ownBlock) w W' := by
  have hW : Keeps (fun _ => False) w (w.alloc (.cells xs e)) := (Keeps.refl _ w).alloc _
  have hown1 : (w.alloc (.cells xs e)).ownsRow 0 e size v n vs := owns_kept hown hW (fun _ _ h => h)
  obtain ⟨v', W', hr, ho, hfr, hK⟩ := append_many t e i z size bytes ht hi hz hs hb hzs h0 v n vs hown1 ⟨w.heap.size, 0, none⟩ 1 1 xs.toList (by simpa using hl) (by
    intro j u hj
    have hB := Blk.new w xs e
    rw [addr_add]
    exact hB.cell (by rw [Nat.zero_add]; exact hj)) h1 hm hbytes
  refine ⟨v', W', hr, ho, ?_, (hW.mono fun _ _ h => h.elim).trans hK fun _ _ h => h⟩
  rcases hfr with h | ⟨k, h, h2⟩
  · exact .inl h
  · exact .inr ⟨k, h, by simp at h2; omega⟩

structure Grew (w : World) (v : Value) (w' : World) (v' : Value) : Prop where
  fresh : v'.ownBlock = v.ownBlock ∨ ∃ k, v'.ownBlock = some k ∧ w.heap.size ≤ k
  keeps : Keeps (fun k => some k = v.ownBlock) w w'

theorem Grew.refl (w : World) (v : Value) : Grew w v w v := ⟨.inl rfl, Keeps.refl _ _⟩

theorem Grew.trans {w w1 w2 : World} {v v1 v2 : Value} (h : Grew w v w1 v1) (k : Grew w1 v1 w2 v2) : Grew w v w2 v2 := by
  refine ⟨?_, h.keeps.trans k.keeps ?_⟩
  · rcases k.fresh with e | ⟨b, e, hb⟩
    · rw [e]; exact h.fresh
    · exact .inr ⟨b, e, Nat.le_trans h.keeps.size hb⟩
  · intro b hb e
    rcases h.fresh with f | ⟨c, f, hc⟩
    · rw [← f]; exact e
    · rw [f] at e; cases e; omega

theorem Keeps.none {S : Nat → Prop} {w w' : World} (h : Keeps (fun _ => False) w w') : Keeps S w w' := h.mono fun _ _ e => e.elim

theorem cell_kept {S : Nat → Prop} {w w' : World} {a : Addr} {v : Value} (h : w.cell? a = some v) (k : Keeps S w w') (hn : ¬ S a.block) : w'.cell? a = some v := by
  rw [World.cell?_of_block (w := w) (k.block a.block (World.block_lt_of_cell? w a h) hn)]; exact h

def ivs (zs : List Int) : List Value := zs.map fun z => .int .i64 z

theorem ivs_length (zs : List Int) : (ivs zs).length = zs.length := by simp [ivs]

theorem ivs_get (zs : List Int) (i : Nat) (h : i < zs.length) : (ivs zs)[i]? = some (.int .i64 zs[i]) := by simp [ivs, h]

theorem ivs_one (xs : List Int) : ∀ v ∈ ivs xs, v.oneCell' = true := by
  intro v hv
  obtain ⟨x, _, rfl⟩ := List.mem_map.1 hv
  rfl

def SegI (w : World) (a : Option Addr) (zs : List Int) : Prop :=
  zs = [] ∨ ∃ g o, a = some ⟨g, o, none⟩ ∧ ∀ j, (h : j < zs.length) → w.cell? ⟨g, o + j, none⟩ = some (.int .i64 zs[j])

theorem SegI.kept {S : Nat → Prop} {w w' : World} {a : Option Addr} {ws : List Int} (h : SegI w a ws) (hK : Keeps S w w') (hn : ∀ x, a = some x → ¬ S x.block) : SegI w' a ws := by
  rcases h with h | ⟨g, o, ha, hc⟩
  · exact .inl h
  · exact .inr ⟨g, o, ha, fun j hj => cell_kept (hc j hj) hK (hn ⟨g, o, none⟩ ha)⟩

def CloneP (w : World) (t : TypeId) (vs : List Value) (n : Nat) (e : Ending) (w' : World) : Prop :=
  ∃ v', e = .returned v' ∧ w'.ownsRow 0 t 1 v' n vs ∧ (v'.ownBlock = none ∨ ∃ k, v'.ownBlock = some k ∧ w.heap.size ≤ k) ∧ Keeps (fun _ => False) w w'

set_option maxRecDepth 20000 in
set_option maxHeartbeats 400000 in

theorem owns_lt {w : World} {e : TypeId} {size n g : Nat} {v : Value} {vs : List Value} (h : w.ownsRow 0 e size v n vs) (hg : v.ownBlock = some g) : g < w.heap.size := by
  rcases h.2 with ⟨rfl, _⟩ | ⟨g', cap, cur, rfl, _, hgg, _⟩
  · simp [Value.ownBlock] at hg
  · simp [Value.ownBlock] at hg
    subst hg
    exact (Array.getElem?_eq_some_iff.1 hgg).1

theorem owns_slice {w : World} {e : TypeId} {size n : Nat} {v : Value} {vs : List Value} (h : w.ownsRow 0 e size v n vs) : ∃ a c, v = .slice a n c ∧ n ≤ c ∧ c ≤ maxLen := by
  rcases h.2 with ⟨rfl, rfl⟩ | ⟨g', cap, cur, rfl, _, _, h1, h2, _⟩
  · exact ⟨none, 0, rfl, Nat.le_refl _, Nat.zero_le _⟩
  · exact ⟨_, cap, rfl, h1, h2⟩

theorem owns_cell {w : World} {e : TypeId} {n c : Nat} {a : Option Addr} {vs : List Value} (h : w.ownsRow 0 e 1 (.slice a n c) n vs) {i : Nat} {v : Value} (hv : vs[i]? = some v) : ∃ g, a = some ⟨g, 0, none⟩ ∧ w.cell? ⟨g, i, none⟩ = some v := by
  have hlt := (List.getElem?_eq_some_iff.1 hv).1
  have hl := h.1
  rcases h.2 with ⟨h1, h2⟩ | ⟨g', cap, cur, h0, _, hg, h1, h2, h3, h4⟩
  · omega
  · cases h0
    refine ⟨g', rfl, ?_⟩
    have hB : Blk w g' cur.toList e := by unfold Blk; simpa using hg
    refine hB.cell ?_
    rw [← h4, List.getElem?_take] at hv
    split at hv
    · exact hv
    · cases hv

set_option maxHeartbeats 400000 in
theorem sameW_any (a b : Option Addr) (xs : List UInt32) (c d : Nat) (w : World) (h1 : SegW w a xs) (h2 : SegW w b xs) (hl : xs.length ≤ 4294967296) :
    Calls Try.prog 20 #[.slice a xs.length c, .slice b xs.length d] w fun e w' => e = .returned (.bool true) ∧ Keeps (fun _ => False) w w' := by
  obtain ⟨n, hn⟩ : ∃ n, n = xs.length := ⟨_, rfl⟩
  have HN : Hid (n = xs.length) := hn
  rw [← hn] at hl ⊢
  have H1 : Hid (SegW _ _ _) := h1
  have H2 : Hid (SegW _ _ _) := h2
  have hn1 : (n : Int) ≤ 4294967296 := by omega
  clear hn h1 h2 hl
  go_enter Try.func20, Try.ntmps20
  go_wp2
  go_loopw [5] (fun i wr => ∃ j : Nat, j ≤ n ∧ i = .int .i64 j ∧ Keeps (fun _ => False) w wr)
    (fun i _ => n - (intOf i).toNat)
  case atStart => exact ⟨0, by omega, rfl, Keeps.refl _ _⟩
  case round =>
    obtain ⟨j, hj, rfl, hKr⟩ := hrel
    have HK : Hid (Keeps (fun _ => False) w wr) := hKr
    clear hKr
    by_cases hlt : j < n
    · have hjx : j < xs.length := by have := HN.out; omega
      rcases H1.out.kept HK.out (fun _ _ e => e) with h | ⟨g1, o1, rfl, c1⟩
      · rw [h] at hjx; simp at hjx
      rcases H2.out.kept HK.out (fun _ _ e => e) with h | ⟨g2, o2, rfl, c2⟩
      · rw [h] at hjx; simp at hjx
      have c1 := c1 j hjx
      have c2 := c2 j hjx
      obtain ⟨v, hv⟩ : ∃ v : Nat, v = (xs[j]).toNat := ⟨_, rfl⟩
      rw [← hv] at c1 c2
      clear hv
      go_wp2
      go_quiet (fail)
      go_wp2
      go_roundw
      case rel => exact ⟨j + 1, by omega, by go_num, HK.out.drewN _⟩
      case measure => simp [intOf]; omega
    · obtain rfl : j = n := by omega
      go_wp2
      go_ret
      exact ⟨rfl, HK.out⟩

theorem owns_segI {w : World} {a : Option Addr} {c : Nat} {zs : List Int} (h : w.ownsRow 0 3 1 (.slice a zs.length c) zs.length (ivs zs)) : SegI w a zs := by
  by_cases h0 : zs.length = 0
  · exact .inl (List.eq_nil_of_length_eq_zero h0)
  · obtain ⟨g, h1, h2⟩ := owns_cell h (ivs_get zs 0 (by omega))
    refine .inr ⟨g, 0, h1, fun j hj => ?_⟩
    obtain ⟨g', h1', h2'⟩ := owns_cell h (ivs_get zs j hj)
    rw [h1] at h1'
    cases h1'
    rw [Nat.zero_add]; exact h2'

theorem owns_segW {w : World} {a : Option Addr} {c : Nat} {zs : List UInt32} (h : w.ownsRow 0 26 1 (.slice a zs.length c) zs.length (wvs zs)) : SegW w a zs := by
  by_cases h0 : zs.length = 0
  · exact .inl (List.eq_nil_of_length_eq_zero h0)
  · obtain ⟨g, h1, h2⟩ := owns_cell h (wvs_get zs 0 (by omega))
    refine .inr ⟨g, 0, h1, fun j hj => ?_⟩
    obtain ⟨g', h1', h2'⟩ := owns_cell h (wvs_get zs j hj)
    rw [h1] at h1'
    cases h1'
    rw [Nat.zero_add]; exact h2'

theorem append_int {w : World} (x : Int) (v : Value) (n : Nat) (vs : List Value) (hown : w.ownsRow 0 3 1 v n vs) (hn : n ≤ 4294967296) :
    ∃ v' W', (∀ ty, (Builtin.append_ #[62, 62] ty #[v, .slice (some ⟨w.heap.size, 0, none⟩) 1 1]).run Try.prog (w.alloc (.cells #[.int .i64 x] 3)) = .ok v' W') ∧ W'.ownsRow 0 3 1 v' (n + 1) (vs ++ [.int .i64 x]) ∧ Grew w v W' v' := by
  obtain ⟨i0, hi, hz0, hz1, hz2⟩ := info_parts Try.info3
  obtain ⟨v', W', h1, h2, h3, h4⟩ := append_new 62 3 i0 (.int .i64 0) 1 8 Try.underlying62 hi hz0 hz1 hz2 rfl (by omega) v n vs hown #[.int .i64 x] rfl (by
    intro y hy
    simp at hy
    subst hy; rfl) (by unfold maxLen; omega) (by omega)
  exact ⟨v', W', h1, h2, h3, h4⟩

theorem Try.mixed : Try.prog.follows .mixedOrders = true := by kernel_rfl

theorem region_tail {id : Nat} {Q : Exit → Act → World → Prop} {a : Act} {w : World} {l : List Oper} (n : Nat) (hB : Region.lexTailB .any l.toArray n = true)
    (h : wpStill Try.prog l.toArray (w.drewN 1) (fun a' => wpList Try.prog l.toArray Q (l.drop n) a' (w.drewN 1)) (l.take n) a) : (Code.region id l.toArray true).wp Try.prog Q a w :=
  wp_region_still_tail n Try.mixed hB h

set_option maxHeartbeats 1000000 in
set_option maxHeartbeats 1000000 in

theorem nil_app_words (a : Option Addr) (c : Nat) (xs : List UInt32) (w : World) (hx : SegW w a xs) (hl : xs.length ≤ 4294967296) :
    ∃ v' W', (∀ ty, (Builtin.append_ #[27, 27] ty #[.slice none 0 0, .slice a xs.length c]).run Try.prog w = .ok v' W') ∧ CloneP w 26 (wvs xs) xs.length (.returned v') W' := by
  obtain ⟨i0, hi, hz0, hz1, hz2⟩ := info_parts Try.info26
  have hown : w.ownsRow 0 26 1 (.slice none 0 0) 0 [] := ⟨rfl, .inl ⟨rfl, rfl⟩⟩
  have hx0 := hx
  rcases hx with rfl | ⟨g, o, rfl, hc⟩
  · refine ⟨.slice none 0 0, w, fun ty => ?_, _, rfl, hown, .inl rfl, Keeps.refl _ _⟩
    cases a with
    | none => exact append_none 27 26 i0 1 Try.underlying27 hi hz1 (by omega) (.slice none 0 0) 0 c [] hown ty
    | some ad => simp [Builtin.append_, run_underlying Try.underlying27, sizeOf, typeInfo, hi, hz1, Builtin.lenOf, run_firstCells_some (P := Try.prog) w 1 0 ad 0 c [] rfl (by intro j v h; cases h)]
  · obtain ⟨v', W', h1, h2, h3, h4⟩ := append_many 27 26 i0 (.int .u32 0) 1 4 Try.underlying27 hi hz0 hz1 hz2 rfl (by omega) (.slice none 0 0) 0 [] hown ⟨g, o, none⟩ xs.length c (wvs xs) (by rw [wvs_length]; omega) (by
      intro j u hj
      rcases segW_cells hx0 with h | ⟨b, p, e, hb⟩
      · rw [h] at hj; cases hj
      · cases e
        rw [addr_add]
        exact hb j u hj) (wvs_one xs) (by unfold maxLen; omega) (by omega)
    rw [Nat.zero_add, List.nil_append] at h2
    refine ⟨v', W', h1, v', rfl, h2, ?_, h4.mono fun b _ e => by cases e⟩
    rcases h3 with h | h
    · exact .inl h
    · exact .inr h

theorem run_copy_big {w : World} (dT ty elem : TypeId) (k : Nat) (hk : 0 < k) (g dLen dCap : Nat) (a : Option Addr) (sLen sCap : Nat) (cur : List Value) (t : TypeId) (cs : List Value)
    (hu : Try.prog.underlying dT = some (.slice elem)) (hs : (Try.prog.info? elem).map (·.size) = some k) (hg : Blk w g cur t) (hn : cs.length = sLen * k) (hle : sLen ≤ dLen)
    (hsrc : cs = [] ∨ ∃ b p, a = some ⟨b, p, none⟩ ∧ ∀ j v, cs[j]? = some v → w.cell? ⟨b, p + j, none⟩ = some v) (hfit : cs.length ≤ cur.length) (h1 : ∀ v ∈ cs, v.oneCell' = true) :
    (Builtin.copy_ #[dT, dT] ty #[.slice (some ⟨g, 0, none⟩) dLen dCap, .slice a sLen sCap]).run Try.prog w = .ok (goInt sLen) (w.setRow g (cs ++ cur.drop cs.length).toArray) := by
  have hmin : min sLen dLen = sLen := by omega
  have hst := run_storeCells_at Try.prog g 0 t cs 0 cur.toArray w hg (by simpa using hfit) h1
  simp only [Nat.zero_add, List.take_zero, List.nil_append, Nat.add_zero] at hst
  cases hq : Try.prog.info? elem with
  | none => simp [hq] at hs
  | some i =>
    have hi : i.size = k := by simpa [hq] using hs
    rcases hsrc with rfl | ⟨b, p, rfl, hc⟩
    · have h0 : sLen = 0 := by
        have : sLen * k = 0 := by simpa using hn.symm
        rcases Nat.mul_eq_zero.1 this with h | h
        · exact h
        · omega
      subst h0
      cases a with
      | none => simp [Builtin.copy_, run_underlying hu, Builtin.lenOf, Builtin.firstCells, sizeOf, typeInfo, hq, hst]
      | some x => simp [Builtin.copy_, run_underlying hu, Builtin.lenOf, Builtin.firstCells, sizeOf, typeInfo, hq, hst, loadCells, loadCellsFrom]
    · have hl := run_loadCells_list (P := Try.prog) w ⟨b, p, none⟩ cs (fun j v hj => by rw [addr_add]; exact hc j v hj)
      rw [hn] at hl
      simp [Builtin.copy_, run_underlying hu, Builtin.lenOf, Builtin.firstCells, sizeOf, typeInfo, hq, hi, hmin, hl, hst]

set_option maxRecDepth 20000 in
def marksW (j : Nat) : List UInt32 := List.replicate j (2004318071) ++ List.replicate (9 - j) 0

theorem marksW_length (j : Nat) (h : j ≤ 9) : (marksW j).length = 9 := by simp [marksW]; omega

theorem marksW_set (ts : List UInt32) (j : Nat) (h : j < 9) : (ts ++ marksW j).set (ts.length + j) (2004318071) = ts ++ marksW (j + 1) := by
  rw [List.set_append_right _ _ (by omega), Nat.add_sub_cancel_left]
  congr 1
  unfold marksW
  rw [List.set_append_right _ _ (by simp), List.length_replicate, Nat.sub_self]
  obtain ⟨d, hd⟩ : ∃ d, 9 - j = d + 1 := ⟨9 - j - 1, by omega⟩
  rw [hd, show 9 - (j + 1) = d by omega, List.replicate_succ, List.set_cons_zero, List.replicate_succ']
  simp

theorem wvs_set' (ts : List UInt32) (i : Nat) (z : UInt32) : wvs (ts.set i z) = (wvs ts).set i (.int .u32 (z.toNat : Int)) := by simp [wvs, List.map_set]

set_option maxRecDepth 20000 in
set_option maxHeartbeats 2000000 in
theorem lentW (a : Option Addr) (c : Nat) (zs : List UInt32) (w : World) (hx : SegW w a zs) (hl : zs.length ≤ 4294967000) :
    Calls Try.prog 31 #[.slice a zs.length c] w fun e w' => e = .returned (.slice (some ⟨w.heap.size, 0, none⟩) zs.length (zs.length + 9)) ∧ Blk w' w.heap.size (wvs (zs ++ marksW 9)) 26 ∧ Keeps (fun _ => False) w w' := by
  have m1 := run_make_words (w := w) (zs.length + 9) (by omega)
  obtain ⟨w2, hw2⟩ : ∃ w2, w2 = w.alloc (.cells (wvs (List.replicate (zs.length + 9) 0)).toArray 26) := ⟨_, rfl⟩
  rw [← hw2] at m1
  have k2 : Keeps (fun _ => False) w w2 := by rw [hw2]; exact (Keeps.refl _ w).alloc _
  have b2 : Blk w2 w.heap.size (wvs (List.replicate (zs.length + 9) 0)) 26 := by rw [hw2]; exact Blk.new w _ 26
  have cp1 := fun ty => run_copy_big (w := w2) 27 ty 26 1 (by omega) w.heap.size (zs.length + 9) (zs.length + 9) a zs.length c (wvs (List.replicate (zs.length + 9) 0)) 26 (wvs zs) Try.underlying27 Try.size26 b2 (by rw [wvs_length]; omega) (by omega)
    (segW_cells (hx.kept k2 fun _ _ e => e)) (by rw [wvs_length, wvs_length]; simp) (wvs_one zs)
  have e1 : wvs zs ++ (wvs (List.replicate (zs.length + 9) 0)).drop (wvs zs).length = wvs (zs ++ marksW 0) := by
    rw [wvs_length]
    simp [wvs, marksW]
  rw [e1] at cp1
  obtain ⟨w3, hw3⟩ : ∃ w3, w3 = w2.setRow w.heap.size (wvs (zs ++ marksW 0)).toArray := ⟨_, rfl⟩
  rw [← hw3] at cp1
  have b3 : Blk w3 w.heap.size (wvs (zs ++ marksW 0)) 26 := by rw [hw3]; exact b2.setRow _
  have k3 : Keeps (fun _ => False) w w3 := by rw [hw3]; exact k2.setRow _ _ (fun h => by omega)
  obtain ⟨L, hL⟩ : ∃ L, L = zs.length := ⟨_, rfl⟩
  obtain ⟨B, hB⟩ : ∃ B, B = w.heap.size := ⟨_, rfl⟩
  rw [← hL] at m1 cp1 ⊢
  rw [← hB] at m1 cp1 b3 ⊢
  have e9 : ((L + 9 : Nat) : Int) = (L : Int) + 9 := by omega
  rw [e9] at m1
  have M1 : Hid (_ = _) := m1
  have C1 : Hid (∀ ty, _) := cp1
  have HH : Hid (Blk w3 B (wvs (zs ++ marksW 0)) 26 ∧ Keeps (fun _ => False) w w3 ∧ L = zs.length ∧ B = w.heap.size) := ⟨b3, k3, hL, hB⟩
  have hLb : (L : Int) ≤ 4294967000 := by omega
  have hw9 : IntKind.i64.wrap ((L : Int) + 9) = (L : Int) + 9 := by rw [IntKind.wrap_i64]; omega
  clear m1 cp1 hw2 k2 b2 hw3 b3 k3 e1 hL hB e9 hx hl
  go_enter Try.func31, Try.ntmps31
  go_wp2_with (at_make; refine wpList_make_run rfl (.tmp 7) (.tmp 7) 27 rfl (.int .i64 ((L : Int) + 9)) (.int .i64 ((L : Int) + 9)) (.slice (some ⟨B, 0, none⟩) (L + 9) (L + 9)) w2 rfl rfl M1.out ?_; refine Hid.out ?_)
  unfold Hid
  go_wp2_with (refine isCopy (.tmp 9) (.tmp 10) 27 27 rfl ?_; go_must (refine wpList_copy_run rfl (.tmp 9) (.tmp 10) 27 27 rfl (.slice (some ⟨B, 0, none⟩) (L + 9) (L + 9)) (.slice a L c) (goInt L) w3 rfl rfl C1.out ?_))
  go_loopw [4] (fun i wr => ∃ k : Nat, k ≤ 9 ∧ i = .int .i64 ((L + k : Nat) : Int) ∧ Blk wr B (wvs (zs ++ marksW k)) 26 ∧ Keeps (fun _ => False) w wr) (fun i _ => L + 9 - (intOf i).toNat)
  case atStart => exact ⟨0, by omega, rfl, HH.out.1, HH.out.2.1⟩
  case round =>
    obtain ⟨k, hk, rfl, hBk, hKk⟩ := hrel
    obtain ⟨q, hq⟩ : ∃ q, q = L + k := ⟨_, rfl⟩
    rw [← hq]
    by_cases hlt : k < 9
    · have hq' : (q : Int) < (L : Int) + 9 := by omega
      have hql : q < (wvs (zs ++ marksW k)).length := by rw [wvs_length, List.length_append, marksW_length k hk, ← HH.out.2.2.1]; omega
      obtain ⟨vq, hvq⟩ : ∃ vq, (wvs (zs ++ marksW k))[q]? = some vq := ⟨_, List.getElem?_eq_getElem hql⟩
      have cq := hBk.cell hvq
      have zq := hBk.frozen q
      have HB2 : Hid (Blk (wr.setCell ⟨B, q, none⟩ (.int .u32 2004318071)) B (wvs (zs ++ marksW (k + 1))) 26 ∧ Keeps (fun _ => False) w (wr.setCell ⟨B, q, none⟩ (.int .u32 2004318071)) ∧ q = L + k) := by
        refine ⟨?_, hKk.setCell _ _ (fun h => by have := HH.out.2.2.2; simp only at h; omega), hq⟩
        rw [← marksW_set zs k hlt, wvs_set', ← HH.out.2.2.1, ← hq]
        exact hBk.setCell q _
      have hqs : IntKind.i64.wrap ((q : Int) + 1) = ((q + 1 : Nat) : Int) := by rw [IntKind.wrap_i64]; omega
      clear hBk hKk hql hq hvq
      go_wp2
      go_roundw
      case rel => exact ⟨k + 1, by omega, by have := HB2.out.2.2; subst this; go_num, HB2.out.1, HB2.out.2.1⟩
      case measure => have := HB2.out.2.2; simp [intOf]; omega
    · obtain rfl : k = 9 := by omega
      have hq' : ¬ (q : Int) < (L : Int) + 9 := by omega
      have HB2 : Hid (Blk wr B (wvs (zs ++ marksW 9)) 26 ∧ Keeps (fun _ => False) w wr) := ⟨hBk, hKk⟩
      clear hBk hKk hq
      go_wp2
      go_ret
      exact ⟨rfl, HB2.out⟩

def overW (zs : List UInt32) (k : Nat) : List UInt32 := List.replicate k (2021161080) ++ (zs ++ marksW 9).drop k

theorem overW_get (zs : List UInt32) (k : Nat) (hk : k < zs.length + 9) : (wvs (overW zs k))[k]? = (wvs (zs ++ marksW 9))[k]? := by
  unfold overW
  simp only [wvs, List.map_append, List.map_replicate]
  rw [List.getElem?_append_right (by simp)]
  simp

theorem overW_set (zs : List UInt32) (k : Nat) (hk : k < zs.length + 9) : (overW zs k).set k (2021161080) = overW zs (k + 1) := by
  unfold overW
  have hl : k < (zs ++ marksW 9).length := by rw [List.length_append, marksW_length 9 (by omega)]; exact hk
  rw [List.set_append_right _ _ (by simp), List.length_replicate, Nat.sub_self, List.drop_eq_getElem_cons hl, List.set_cons_zero, List.replicate_succ']
  simp

set_option maxRecDepth 20000 in
set_option maxHeartbeats 2000000 in
theorem backW (B : Nat) (a : Option Addr) (c : Nat) (zs : List UInt32) (w : World) (hB : Blk w B (wvs (zs ++ marksW 9)) 26) (hx : SegW w a zs) (hne : ∀ x, a = some x → zs ≠ [] → x.block ≠ B) (hl : zs.length ≤ 4294967000) :
    Calls Try.prog 34 #[.slice (some ⟨B, 0, none⟩) zs.length (zs.length + 9), .slice a zs.length c] w fun e w' => e = .returned (.bool true) ∧ Keeps (· = B) w w' := by
  obtain ⟨L, hL⟩ : ∃ L, L = zs.length := ⟨_, rfl⟩
  have HH : Hid (Blk w B (wvs (zs ++ marksW 9)) 26 ∧ SegW w a zs ∧ (∀ x, a = some x → zs ≠ [] → x.block ≠ B) ∧ L = zs.length) := ⟨hB, hx, hne, hL⟩
  rw [← hL] at hl ⊢
  have hLb : (L : Int) ≤ 4294967000 := by omega
  have hw9 : IntKind.i64.wrap ((L : Int) + 9) = (L : Int) + 9 := by rw [IntKind.wrap_i64]; omega
  clear hB hx hne hL hl
  go_enter Try.func34, Try.ntmps34
  go_wp2_with fail
  go_loopw [6, 7] (fun ok i wr => ∃ k : Nat, k ≤ L + 9 ∧ ok = .bool true ∧ i = .int .i64 (k : Int) ∧ Blk wr B (wvs (overW zs k)) 26 ∧ Keeps (· = B) w wr) (fun _ i _ => L + 9 - (intOf i).toNat)
  case atStart => exact ⟨0, by omega, rfl, rfl, by unfold overW; simpa using HH.out.1, Keeps.refl _ _⟩
  case round =>
    obtain ⟨k, hk, rfl, rfl, hBk, hKk⟩ := hrel
    have HR : Hid (Blk wr B (wvs (overW zs k)) 26 ∧ Keeps (· = B) w wr) := ⟨hBk, hKk⟩
    by_cases hlt : k < L + 9
    · have hk' : (k : Int) < (L : Int) + 9 := by omega
      have hkz : k < zs.length + 9 := by have := HH.out.2.2.2; omega
      have zq := hBk.frozen k
      have hBn : Blk (wr.setCell ⟨B, k, none⟩ (.int .u32 2021161080)) B (wvs (overW zs (k + 1))) 26 := by
        rw [← overW_set zs k hkz, wvs_set']
        exact hBk.setCell k _
      have hks : IntKind.i64.wrap ((k : Int) + 1) = ((k + 1 : Nat) : Int) := by rw [IntKind.wrap_i64]; omega
      by_cases hkL : k < L
      · have hkL' : (k : Int) < L := by omega
        have hkz2 : k < zs.length := by have := HH.out.2.2.2; omega
        rcases HH.out.2.1 with h | ⟨ga, oa, ha, hc⟩
        · rw [h] at hkz2; simp at hkz2
        have hga : ¬ ga = B := HH.out.2.2.1 _ ha (by intro e; rw [e] at hkz2; simp at hkz2)
        have cl := cell_kept (hc k hkz2) hKk hga
        have hv : (wvs (overW zs k))[k]? = some (.int .u32 ((zs[k]'hkz2).toNat : Int)) := by
          rw [overW_get zs k hkz]
          simp only [wvs, List.map_append]
          rw [List.getElem?_append_left (by simpa using hkz2)]
          simp [hkz2]
        have cq := hBk.cell hv
        obtain ⟨Z, hZ⟩ : ∃ Z : Nat, Z = ((zs[k]'hkz2).toNat) := ⟨_, rfl⟩
        rw [← hZ] at cl cq
        have HN : Hid (Blk (wr.setCell ⟨B, k, none⟩ (.int .u32 2021161080)) B (wvs (overW zs (k + 1))) 26 ∧ Keeps (· = B) w (wr.setCell ⟨B, k, none⟩ (.int .u32 2021161080))) := ⟨hBn, hKk.setCell _ _ fun _ => rfl⟩
        have HN2 : Hid (∀ n, Blk ((wr.drewN n).setCell ⟨B, k, none⟩ (.int .u32 2021161080)) B (wvs (overW zs (k + 1))) 26 ∧ Keeps (· = B) w ((wr.drewN n).setCell ⟨B, k, none⟩ (.int .u32 2021161080))) := fun n => by
          refine ⟨?_, (hKk.drewN n).setCell _ _ fun _ => rfl⟩
          rw [← overW_set zs k hkz, wvs_set']
          exact (hBk.drewN n).setCell k _
        subst ha
        clear hBk hKk hBn hc hv hZ
        go_wp2_with fail
        go_quiet (fail)
        go_wp2
        go_roundw
        case rel => exact ⟨k + 1, by omega, rfl, by go_num, HN2.out _⟩
        case measure => simp [intOf]; omega
      · have hkL' : ¬ (k : Int) < L := by omega
        have hkz2 : zs.length ≤ k := by have := HH.out.2.2.2; omega
        have hv : (wvs (overW zs k))[k]? = some (.int .u32 2004318071) := by
          rw [overW_get zs k hkz]
          simp only [wvs, List.map_append]
          rw [List.getElem?_append_right (by simpa using hkz2)]
          simp only [marksW, Nat.sub_self, List.replicate_zero, List.append_nil, List.map_replicate, List.length_map, List.getElem?_replicate]
          rw [if_pos (by omega)]; rfl
        have cq := hBk.cell hv
        have HN : Hid (Blk (wr.setCell ⟨B, k, none⟩ (.int .u32 2021161080)) B (wvs (overW zs (k + 1))) 26 ∧ Keeps (· = B) w (wr.setCell ⟨B, k, none⟩ (.int .u32 2021161080))) := ⟨hBn, hKk.setCell _ _ fun _ => rfl⟩
        clear hBk hKk hBn hv
        go_wp2
        go_roundw
        case rel => exact ⟨k + 1, by omega, rfl, by go_num, HN.out⟩
        case measure => simp [intOf]; omega
    · have hk' : ¬ (k : Int) < (L : Int) + 9 := by omega
      clear hBk hKk
      go_wp2
      go_ret
      exact ⟨rfl, HR.out.2⟩

theorem Try.info101 : (Try.prog.info? 101).map (fun i => (i.zero, i.size, i.bytes)) = some (some (.agg #[.slice none 0 0, .slice none 0 0, .slice none 0 0, .slice none 0 0]), 4, 96) := by kernel_rfl

theorem append_kept {w : World} (a b : Option Addr) (n1 c1 n2 c2 : Nat) (v : Value) (n : Nat) (vs : List Value) (hown : w.ownsRow 0 101 4 v n vs) (hn : n ≤ 17179869184) :
    ∃ v' W', (∀ ty, (Builtin.append_ #[34, 34] ty #[v, .slice (some ⟨w.heap.size, 0, none⟩) 1 1]).run Try.prog (w.alloc (.cells #[.slice a n1 c1, .slice b n2 c2, .slice none 0 0, .slice none 0 0] 101)) = .ok v' W') ∧ W'.ownsRow 0 101 4 v' (n + 1) (vs ++ [.slice a n1 c1, .slice b n2 c2, .slice none 0 0, .slice none 0 0]) ∧ Grew w v W' v' := by
  obtain ⟨i0, hi, hz0, hz1, hz2⟩ := info_parts Try.info101
  obtain ⟨v', W', h1, h2, h3, h4⟩ := append_new 34 101 i0 (.agg #[.slice none 0 0, .slice none 0 0, .slice none 0 0, .slice none 0 0]) 4 96 Try.underlying34 hi hz0 hz1 hz2 rfl (by omega) v n vs hown #[.slice a n1 c1, .slice b n2 c2, .slice none 0 0, .slice none 0 0] rfl (by
    intro y hy
    simp at hy
    rcases hy with rfl | rfl | rfl <;> rfl) (by unfold maxLen; omega) (by omega)
  exact ⟨v', W', h1, h2, h3, h4⟩

def KeepP (w : World) (WB : Nat) (cells : List Value) (kv : Value) (n : Nat) (vs : List Value) (al : Option Addr) (cl : Nat) (ts : List UInt32) (e : Ending) (w' : World) : Prop :=
  e = .returned (.bool true) ∧ ∃ kv' wa wc, Blk w' WB (cells.set 2 kv') 38 ∧ w'.ownsRow 0 101 4 kv' (n + 1) (vs ++ [.slice al ts.length cl, .slice wa ts.length wc, .slice none 0 0, .slice none 0 0]) ∧ w'.ownsRow 0 26 1 (.slice wa ts.length wc) ts.length (wvs ts) ∧
    (∀ k, (Value.slice wa ts.length wc).ownBlock = some k → w.heap.size ≤ k ∧ kv'.ownBlock ≠ some k) ∧ (kv'.ownBlock = kv.ownBlock ∨ ∃ k, kv'.ownBlock = some k ∧ w.heap.size ≤ k) ∧ Keeps (fun k => k = WB ∨ some k = kv.ownBlock) w w'

set_option maxHeartbeats 2000000 in
theorem keep_any (WB : Nat) (cells : List Value) (kv : Value) (n : Nat) (vs : List Value) (al aw : Option Addr) (cl cw : Nat) (ts : List UInt32) (w : World) (hB : Blk w WB cells 38) (h5 : cells[2]? = some kv) (hk : w.ownsRow 0 101 4 kv n vs) (hn : n ≤ 17179869184) (hkb : kv.ownBlock ≠ some WB)
    (hl : SegW w al ts) (hw : SegW w aw ts) (hln : ∀ x, al = some x → ts ≠ [] → x.block ≠ WB ∧ kv.ownBlock ≠ some x.block) (hwn : ∀ x, aw = some x → ts ≠ [] → x.block ≠ WB ∧ kv.ownBlock ≠ some x.block) (hts : ts.length ≤ 4294967296) :
    Calls Try.prog 46 #[.pointer (some ⟨WB, 2, none⟩), .slice al ts.length cl, .slice aw ts.length cw] w (KeepP w WB cells kv n vs al cl ts) := by
  obtain ⟨v1, W1, hap1, v1', hv, ho1, hf1, hk1⟩ := nil_app_words aw cw ts w hw hts
  cases hv
  obtain ⟨wa, wc, rfl, -, -⟩ := owns_slice ho1
  have hB1 := hB.kept hk1 (fun e => e)
  have hkr1 := owns_kept hk hk1 (fun _ _ e => e)
  obtain ⟨kv', W2, hap2, ho2, hg2⟩ := append_kept al wa ts.length cl ts.length wc kv n vs hkr1 hn
  obtain ⟨ka, kc, hkv, -, -⟩ := owns_slice hkr1
  obtain ⟨ka', kc', hkv', -, -⟩ := owns_slice ho2
  have hB2 : Blk W2 WB cells 38 := hB1.kept hg2.keeps (fun e => hkb e.symm)
  have c5 := hB1.cell h5
  rw [hkv] at c5
  have d5 := hB2.cell h5
  have z5 := hB2.frozen 2
  have hfr1 : ∀ k, (Value.slice wa ts.length wc).ownBlock = some k → w.heap.size ≤ k := by
    intro k hk'
    rcases hf1 with h | ⟨k', h, h2⟩
    · rw [h] at hk'; cases hk'
    · rw [h] at hk'; cases hk'; exact h2
  have hdis : ∀ k, (Value.slice wa ts.length wc).ownBlock = some k → kv'.ownBlock ≠ some k := by
    intro k hk' e
    have h1 := owns_lt ho1 hk'
    have h2 := hfr1 k hk'
    rcases hg2.fresh with e2 | ⟨k', e2, h3⟩
    · rw [e2] at e
      have := owns_lt hk e
      omega
    · rw [e2] at e; cases e; omega
  obtain ⟨W3, hW3⟩ : ∃ W3, W3 = W2.setCell ⟨WB, 2, none⟩ kv' := ⟨_, rfl⟩
  have hKB : Keeps (· = WB) W2 W3 := by rw [hW3]; exact (Keeps.refl _ _).setCell _ _ fun _ => rfl
  have hK12 : Keeps (fun k => k = WB ∨ some k = kv.ownBlock) w W2 := hk1.none.trans hg2.keeps fun _ _ e => .inr e
  have hK3 : Keeps (fun k => k = WB ∨ some k = kv.ownBlock) w W3 := hK12.trans hKB fun _ _ e => .inl e
  have hwb : ∀ k, (Value.slice wa ts.length wc).ownBlock = some k → k ≠ WB := by
    intro k hk' e
    have := hfr1 k hk'
    have := hB.lt
    omega
  have hkwb : kv'.ownBlock ≠ some WB := by
    rcases hg2.fresh with e2 | ⟨k', e2, h3⟩
    · rw [e2]; exact hkb
    · rw [e2]; intro e; cases e; have := hB1.lt; omega
  have HF : Hid (∀ w', Keeps (fun _ => False) W3 w' → KeepP w WB cells kv n vs al cl ts (.returned (.bool true)) w') := by
    intro w' hk'
    refine ⟨rfl, kv', wa, wc, ?_, ?_, ?_, fun k hk'' => ⟨hfr1 k hk'', hdis k hk''⟩, ?_, hK3.trans hk' fun _ _ e => e.elim⟩
    · have : Blk W3 WB (cells.set 2 kv') 38 := by rw [hW3]; exact hB2.setCell 2 _
      exact this.kept hk' (fun e => e)
    · exact owns_kept (owns_kept ho2 hKB fun k hk'' e => by rw [e] at hk''; exact hkwb hk'') hk' fun _ _ e => e
    · refine owns_kept (owns_kept (owns_kept ho1 hg2.keeps ?_) hKB ?_) hk' fun _ _ e => e
      · intro k hk'' e
        have h2 := hfr1 k hk''
        have := owns_lt hk e.symm
        omega
      · intro k hk'' e; exact hwb k hk'' e
    · rcases hg2.fresh with e2 | ⟨k', e2, h3⟩
      · exact .inl e2
      · exact .inr ⟨k', e2, Nat.le_trans hk1.size h3⟩
  have hS : ∀ {a : Option Addr}, SegW w a ts → (∀ x, a = some x → ts ≠ [] → x.block ≠ WB ∧ kv.ownBlock ≠ some x.block) → SegW W3 a ts := by
    intro a h hn'
    by_cases h0 : ts = []
    · exact .inl h0
    · exact h.kept hK3 fun x hx e => by
        rcases e with e | e
        · exact (hn' x hx h0).1 e
        · exact (hn' x hx h0).2 e.symm
  have HS : Hid (Calls _ _ _ _ _) := sameW_any al aw ts cl cw W3 (hS hl hln) (hS hw hwn) hts
  rw [hkv] at hap2
  rw [hkv'] at hap2 hW3
  obtain ⟨nt, hnt⟩ : ∃ nt, nt = ts.length := ⟨_, rfl⟩
  rw [← hnt] at hap1 hap2 HS ⊢
  have HA1 : Hid (∀ ty, _) := hap1
  have HA2 : Hid (∀ ty, _) := hap2
  have HW3 : Hid (W3 = W2.setCell ⟨WB, 2, none⟩ (.slice ka' (n + 1) kc')) := hW3
  clear hB hk hl hw hln hwn hap1 hap2 ho1 hf1 hk1 hB1 hkr1 ho2 hg2 hkv hkv' hB2 hfr1 hdis hW3 hKB hK12 hK3 hwb hkwb hS hnt
  go_enter Try.func46, Try.ntmps46
  go_wp2_with (at_builtin; go_must (refine wpList_append_run rfl (.tmp 8) (.tmp 9) 27 27 rfl (.slice none 0 0) (.slice aw nt cw) (.slice wa nt wc) W1 rfl rfl HA1.out ?_; refine Hid.out ?_))
  unfold Hid
  clear HA1
  go_wp2_with (at_builtin; go_must (refine wpList_append_run rfl (.tmp 15) (.tmp 19) 34 34 rfl (.slice ka n kc) (.slice (some ⟨W1.heap.size, 0, none⟩) 1 1) (.slice ka' (n + 1) kc') W2 rfl rfl HA2.out ?_; refine Hid.out ?_))
  unfold Hid
  clear HA2 c5
  go_wp2_with fail
  rw [← HW3.out]
  clear HW3
  refine HS.out.mono ?_
  rintro e w2 ⟨rfl, hk2⟩
  have HF' := HF.out w2 hk2
  clear HS HF
  go_wp2
  go_ret
  exact HF'

end Go.Proofs.Ytljhdijledclhaa
