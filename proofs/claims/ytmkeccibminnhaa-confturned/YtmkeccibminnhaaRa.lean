import Derived.Test.YtmkeccibminnhaaProg
import Derived.Test.YtmkeccibminnhaaWalkC
import Derived.WalkKit
import Derived.Test.YtmkeccibminnhaaPv
import Derived.Deep.RegionHeld3
import Derived.Deep.RegionHeld2
namespace Go.Proofs.Ytmkeccibminnhaa
open Go.RowKit
set_option linter.unusedVariables false

theorem Keeps.of_grown {w w' : World} {row : Option Nat} (h : w.grownBy w' row) : Keeps (fun k => some k = row) w w' :=
  ⟨h.os, h.tape, h.output, h.size, fun k hk hn => h.block k hk hn⟩
theorem grown_of_keeps {S : Nat → Prop} {w w' : World} {row : Option Nat} (h : Keeps S w w') (hs : ∀ k, k < w.heap.size → S k → some k = row) : w.grownBy w' row :=
  ⟨h.os, h.tape, h.output, h.size, fun k hk hn => h.block k hk fun hS => hn (hs k hk hS)⟩

/-- An owned row is kept where its block is. -/
theorem owns_kept {S : Nat → Prop} {w w' : World} {e : TypeId} {size n : Nat} {v : Value} {vs : List Value} (h : w.ownsRow 0 e size v n vs) (hK : Keeps S w w') (hn : ∀ k, v.ownBlock = some k → ¬ S k) : w'.ownsRow 0 e size v n vs := by
  refine ⟨h.1, ?_⟩
  rcases h.2 with h2 | ⟨g, cap, cur, rfl, hb, hg, h3⟩
  · exact .inl h2
  · refine .inr ⟨g, cap, cur, rfl, hb, ?_, h3⟩
    rw [hK.block g (Array.getElem?_eq_some_iff.1 hg).1 (hn g rfl)]
    exact hg

/-! ### append to a row of one's own, and where the new row lies -/

theorem append_many {w : World} (t e : TypeId) (i : TypeInfo) (z : Value) (size bytes : Nat) (ht : Try.prog.underlying t = some (.slice e)) (hi : Try.prog.info? e = some i) (hz : i.zero = some z)
    (hs : i.size = size) (hb : i.bytes = bytes) (hzs : z.cells.size = size) (h0 : 0 < size) (v : Value) (n : Nat) (vs : List Value) (hown : w.ownsRow 0 e size v n vs)
    (a : Addr) (m c : Nat) (news : List Value) (hl : news.length = m * size) (hnews : ∀ j u, news[j]? = some u → w.cell? (a.add j) = some u) (h1 : ∀ u ∈ news, u.oneCell' = true)
    (hm : n + m ≤ maxLen) (hbytes : (n + m) * bytes ≤ 140737488355328) :
    ∃ v' W', (∀ ty, (Builtin.append_ #[t, t] ty #[v, .slice (some a) m c]).run Try.prog w = .ok v' W') ∧ W'.ownsRow 0 e size v' (n + m) (vs ++ news) ∧
      (v'.ownBlock = v.ownBlock ∨ ∃ k, v'.ownBlock = some k ∧ w.heap.size ≤ k) ∧ Keeps (fun k => some k = v.ownBlock) w W' := by
  obtain ⟨v', W', hr, ho, hg, hnil⟩ := run_append_own (P := Try.prog) w 0 t 0 e i z size bytes ht hi hz hs hb hzs h0 v n vs hown a m c news hl hnews h1 hm hbytes (Nat.zero_le _)
  refine ⟨v', W', fun ty => hr, ho, ?_, Keeps.of_grown hg⟩
  have hbig : n + m ≤ 9223372036854775807 := by unfold maxLen at hm; omega
  rcases hown.2 with ⟨rfl, rfl⟩ | ⟨g, cap, cur, rfl, _, hg1, hnc, hcm, hcs, htake⟩
  · by_cases hm0 : m = 0
    · left; rw [hnil.2 ⟨rfl, hm0⟩]
    · have h2 := run_append_nil (P := Try.prog) w t 0 e i z ht hi hz a m c news (by rw [hs]; exact hl) hnews (by omega) (by omega) (by
        rw [hb]
        rw [Nat.zero_add] at hbytes
        omega)
      rw [hr] at h2
      have e1 : v' = _ := (Result.ok.inj h2).1
      right
      rw [e1]
      exact ⟨_, rfl, by simp⟩
  · by_cases hroom : n + m ≤ cap
    · have h2 := run_append_room (P := Try.prog) w t 0 e i ht hi g n cap cur hg1 a m c news (by rw [hs]; exact hl) hnews h1 hroom (by
        rw [hs, hcs, hl, ← Nat.add_mul]; exact Nat.mul_le_mul_right _ hroom)
      rw [hr] at h2
      have e1 : v' = _ := (Result.ok.inj h2).1
      left
      rw [e1]
      rfl
    · have h2 := run_append_grow (P := Try.prog) w t 0 e i z ht hi hz ⟨g, 0, none⟩ n cap vs (by rw [hs]; exact hown.1) (hown.cells rfl) a m c news (by rw [hs]; exact hl) hnews (by omega) (by omega) (by
        rw [hb]; exact growslice_fits (by omega) hbytes)
      rw [hr] at h2
      have e1 : v' = _ := (Result.ok.inj h2).1
      right
      rw [e1]
      exact ⟨_, rfl, by simp⟩

/-- append of nothing, from nowhere. -/
theorem append_none {w : World} (t e : TypeId) (i : TypeInfo) (size : Nat) (ht : Try.prog.underlying t = some (.slice e)) (hi : Try.prog.info? e = some i)
    (hs : i.size = size) (h0 : 0 < size) (v : Value) (n c : Nat) (vs : List Value) (hown : w.ownsRow 0 e size v n vs) (ty : TypeId) :
    (Builtin.append_ #[t, t] ty #[v, .slice none 0 c]).run Try.prog w = .ok v w := by
  rcases hown.2 with ⟨rfl, rfl⟩ | ⟨g, cap, cur, rfl, _, hg1, hnc, hcm, hcs, htake⟩
  · simp [Builtin.append_, run_underlying ht, sizeOf, typeInfo, hi, Builtin.lenOf, run_firstCells_none]
  · simp [Builtin.append_, run_underlying ht, sizeOf, typeInfo, hi, Builtin.lenOf, hnc, run_firstCells_none, storeCells]

/-- append of a new block of one. -/
theorem append_new {w : World} (t e : TypeId) (i : TypeInfo) (z : Value) (size bytes : Nat) (ht : Try.prog.underlying t = some (.slice e)) (hi : Try.prog.info? e = some i) (hz : i.zero = some z)
    (hs : i.size = size) (hb : i.bytes = bytes) (hzs : z.cells.size = size) (h0 : 0 < size) (v : Value) (n : Nat) (vs : List Value) (hown : w.ownsRow 0 e size v n vs)
    (xs : Array Value) (hl : xs.size = size) (h1 : ∀ u ∈ xs.toList, u.oneCell' = true)
    (hm : n + 1 ≤ maxLen) (hbytes : (n + 1) * bytes ≤ 140737488355328) :
    ∃ v' W', (∀ ty, (Builtin.append_ #[t, t] ty #[v, .slice (some ⟨w.heap.size, 0, none⟩) 1 1]).run Try.prog (w.alloc (.cells xs e)) = .ok v' W') ∧ W'.ownsRow 0 e size v' (n + 1) (vs ++ xs.toList) ∧
      (v'.ownBlock = v.ownBlock ∨ ∃ k, v'.ownBlock = some k ∧ w.heap.size ≤ k) ∧ Keeps (fun k => some k = v.ownBlock) w W' := by
  have hW : Keeps (fun _ => False) w (w.alloc (.cells xs e)) := (Keeps.refl _ w).alloc _
  have hown1 : (w.alloc (.cells xs e)).ownsRow 0 e size v n vs := owns_kept hown hW (fun _ _ h => h)
  obtain ⟨v', W', hr, ho, hfr, hK⟩ := append_many t e i z size bytes ht hi hz hs hb hzs h0 v n vs hown1 ⟨w.heap.size, 0, none⟩ 1 1 xs.toList (by simpa using hl) (by
    intro j u hj
    have hB := Blk.new w xs e
    rw [addr_add]
    exact hB.cell (by rw [Nat.zero_add]; exact hj)) h1 hm hbytes
  refine ⟨v', W', hr, ho, ?_, (hW.mono fun _ _ h => h.elim).trans hK fun _ _ h => h⟩
  rcases hfr with h | ⟨k, h, h2⟩
  · exact .inl h
  · exact .inr ⟨k, h, by simp at h2; omega⟩

/-- A row that has grown: where it lies, and that nothing else was changed. -/
structure Grew (w : World) (v : Value) (w' : World) (v' : Value) : Prop where
  fresh : v'.ownBlock = v.ownBlock ∨ ∃ k, v'.ownBlock = some k ∧ w.heap.size ≤ k
  keeps : Keeps (fun k => some k = v.ownBlock) w w'

theorem Grew.refl (w : World) (v : Value) : Grew w v w v := ⟨.inl rfl, Keeps.refl _ _⟩
theorem Grew.trans {w w1 w2 : World} {v v1 v2 : Value} (h : Grew w v w1 v1) (k : Grew w1 v1 w2 v2) : Grew w v w2 v2 := by
  refine ⟨?_, h.keeps.trans k.keeps ?_⟩
  · rcases k.fresh with e | ⟨b, e, hb⟩
    · rw [e]; exact h.fresh
    · exact .inr ⟨b, e, Nat.le_trans h.keeps.size hb⟩
  · intro b hb e
    rcases h.fresh with f | ⟨c, f, hc⟩
    · rw [← f]; exact e
    · rw [f] at e; cases e; omega


theorem Grew.owns {w w' : World} {v v' : Value} (h : Grew w v w' v') (hv : v.ownBlock = none) : Keeps (fun _ => False) w w' :=
  h.keeps.mono fun b _ e => by rw [hv] at e; cases e

end Go.Proofs.Ytmkeccibminnhaa
namespace Go.Proofs.Ytmkeccibminnhaa
open Go.RowKit
set_option linter.unusedVariables false
set_option maxRecDepth 6000

/-- The reader gave up at this place. -/
abbrev refV (q : Nat) (k : Int) : Value := .iface 53 (.agg #[.int .i64 q, .int .i64 k])
abbrev gone (q : Nat) (k : Int) : Ending := .panicked [{ v := refV q k, recovered := false }]

/-- A post that says of a panic what the function's own says, and hangs on no slot. -/
def PanicTo (R : Ending → World → Prop) (Q : Exit → Act → World → Prop) : Exit → Act → World → Prop
  | .panic c, a, w => a.defers = [] ∧ R (.panicked c) w
  | e, a, w => Q e a w
theorem PanicTo.normal {R : Ending → World → Prop} {Q : Exit → Act → World → Prop} {a : Act} {w : World} (h : Q .normal a w) : PanicTo R Q .normal a w := h
theorem wp_region_panicTo {P : Program} {id : Nat} {ops : Array Oper} {b : Bool} {Q : Exit → Act → World → Prop} {a : Act} {w : World} (R : Ending → World → Prop)
    (hQ : ∀ c a w, a.defers = [] → R (.panicked c) w → Q (.panic c) a w) (h : (Code.region id ops b).wp P (PanicTo R Q) a w) : (Code.region id ops b).wp P Q a w :=
  Code.wp_mono (fun e a w h => by cases e <;> first | exact h | exact hQ _ _ _ h.1 h.2) h

theorem Rd.drew {w : World} {b g p : Nat} {B : List UInt8} {er : Int} (h : Rd w b g B p er) : Rd w.drew b g B p er := h.kept ((Keeps.refl (fun _ => False) w).drew) (fun e => e) (fun e => e)

set_option maxHeartbeats 400000 in
theorem item32_bad (b g p : Nat) (B : List UInt8) (er : Int) (v : Value) (w : World) (h : Rd w b g B p er) (he : er ≠ 0) :
    Calls Try.prog 66 #[.agg #[.pointer (some ⟨b, 0, none⟩)], v] w fun e w' => e = gone p 110 ∧ Keeps (fun _ => False) w w' := by
  have HR : Hid (Rd w b g B p er) := h
  have he' : (er != 0) = true := by simpa using he
  clear h
  go_enter Try.func66, Try.ntmps66
  go_wp2_with fail
  have hK : Keeps (fun _ => False) w (w.alloc (.cells #[.pointer (some ⟨b, 0, none⟩)] 99)) := (Keeps.refl _ w).alloc _
  have hR1 := HR.out.kept hK (fun e => e) (fun e => e)
  refine (rFault_any b g p er B _ hR1).mono ?_
  rintro e w1 ⟨rfl, rfl⟩
  go_wp2_with fail
  refine (rAt_any b g p er B _ hR1).mono ?_
  rintro e w1 ⟨rfl, rfl⟩
  go_wp2
  exact ⟨rfl, rfl, hK⟩

set_option maxHeartbeats 400000 in
theorem item32_good (b g p : Nat) (B : List UInt8) (v : Value) (w : World) (h : Rd w b g B p 0) :
    Calls Try.prog 66 #[.agg #[.pointer (some ⟨b, 0, none⟩)], v] w fun e w' => e = .returned v ∧ Keeps (fun _ => False) w w' := by
  have HR : Hid (Rd w b g B p 0) := h
  clear h
  go_enter Try.func66, Try.ntmps66
  go_wp2_with fail
  have hK : Keeps (fun _ => False) w (w.alloc (.cells #[.pointer (some ⟨b, 0, none⟩)] 99)) := (Keeps.refl _ w).alloc _
  have hR1 := HR.out.kept hK (fun e => e) (fun e => e)
  refine (rFault_any b g p 0 B _ hR1).mono ?_
  rintro e w1 ⟨rfl, rfl⟩
  go_wp2
  go_ret
  exact ⟨rfl, hK⟩

theorem item32_any (b g p : Nat) (B : List UInt8) (er : Int) (v : Value) (w : World) (h : Rd w b g B p er) :
    Calls Try.prog 66 #[.agg #[.pointer (some ⟨b, 0, none⟩)], v] w fun e w' => ((er = 0 ∧ e = .returned v) ∨ (er ≠ 0 ∧ e = gone p 110)) ∧ Keeps (fun _ => False) w w' := by
  by_cases he : er = 0
  · subst he
    exact (item32_good b g p B v w h).mono fun e w' h => ⟨.inl ⟨rfl, h.1⟩, h.2⟩
  · exact (item32_bad b g p B er v w h he).mono fun e w' h => ⟨.inr ⟨he, h.1⟩, h.2⟩

set_option maxHeartbeats 400000 in
theorem item8_bad (b g p : Nat) (B : List UInt8) (er : Int) (v : Value) (w : World) (h : Rd w b g B p er) (he : er ≠ 0) :
    Calls Try.prog 84 #[.agg #[.pointer (some ⟨b, 0, none⟩)], v] w fun e w' => e = gone p 110 ∧ Keeps (fun _ => False) w w' := by
  have HR : Hid (Rd w b g B p er) := h
  have he' : (er != 0) = true := by simpa using he
  clear h
  go_enter Try.func84, Try.ntmps84
  go_wp2_with fail
  have hK : Keeps (fun _ => False) w (w.alloc (.cells #[.pointer (some ⟨b, 0, none⟩)] 99)) := (Keeps.refl _ w).alloc _
  have hR1 := HR.out.kept hK (fun e => e) (fun e => e)
  refine (rFault_any b g p er B _ hR1).mono ?_
  rintro e w1 ⟨rfl, rfl⟩
  go_wp2_with fail
  refine (rAt_any b g p er B _ hR1).mono ?_
  rintro e w1 ⟨rfl, rfl⟩
  go_wp2
  exact ⟨rfl, rfl, hK⟩

set_option maxHeartbeats 400000 in
theorem item8_good (b g p : Nat) (B : List UInt8) (v : Value) (w : World) (h : Rd w b g B p 0) :
    Calls Try.prog 84 #[.agg #[.pointer (some ⟨b, 0, none⟩)], v] w fun e w' => e = .returned v ∧ Keeps (fun _ => False) w w' := by
  have HR : Hid (Rd w b g B p 0) := h
  clear h
  go_enter Try.func84, Try.ntmps84
  go_wp2_with fail
  have hK : Keeps (fun _ => False) w (w.alloc (.cells #[.pointer (some ⟨b, 0, none⟩)] 99)) := (Keeps.refl _ w).alloc _
  have hR1 := HR.out.kept hK (fun e => e) (fun e => e)
  refine (rFault_any b g p 0 B _ hR1).mono ?_
  rintro e w1 ⟨rfl, rfl⟩
  go_wp2
  go_ret
  exact ⟨rfl, hK⟩

theorem item8_any (b g p : Nat) (B : List UInt8) (er : Int) (v : Value) (w : World) (h : Rd w b g B p er) :
    Calls Try.prog 84 #[.agg #[.pointer (some ⟨b, 0, none⟩)], v] w fun e w' => ((er = 0 ∧ e = .returned v) ∨ (er ≠ 0 ∧ e = gone p 110)) ∧ Keeps (fun _ => False) w w' := by
  by_cases he : er = 0
  · subst he
    exact (item8_good b g p B v w h).mono fun e w' h => ⟨.inl ⟨rfl, h.1⟩, h.2⟩
  · exact (item8_bad b g p B er v w h he).mono fun e w' h => ⟨.inr ⟨he, h.1⟩, h.2⟩

set_option maxHeartbeats 400000 in
theorem itemT_bad (b g p : Nat) (B : List UInt8) (er : Int) (v : Value) (w : World) (h : Rd w b g B p er) (he : er ≠ 0) :
    Calls Try.prog 88 #[.agg #[.pointer (some ⟨b, 0, none⟩)], v] w fun e w' => e = gone p 110 ∧ Keeps (fun _ => False) w w' := by
  have HR : Hid (Rd w b g B p er) := h
  have he' : (er != 0) = true := by simpa using he
  clear h
  go_enter Try.func88, Try.ntmps88
  go_wp2_with fail
  have hK : Keeps (fun _ => False) w (w.alloc (.cells #[.pointer (some ⟨b, 0, none⟩)] 99)) := (Keeps.refl _ w).alloc _
  have hR1 := HR.out.kept hK (fun e => e) (fun e => e)
  refine (rFault_any b g p er B _ hR1).mono ?_
  rintro e w1 ⟨rfl, rfl⟩
  go_wp2_with fail
  refine (rAt_any b g p er B _ hR1).mono ?_
  rintro e w1 ⟨rfl, rfl⟩
  go_wp2
  exact ⟨rfl, rfl, hK⟩

set_option maxHeartbeats 400000 in
theorem itemT_good (b g p : Nat) (B : List UInt8) (v : Value) (w : World) (h : Rd w b g B p 0) :
    Calls Try.prog 88 #[.agg #[.pointer (some ⟨b, 0, none⟩)], v] w fun e w' => e = .returned v ∧ Keeps (fun _ => False) w w' := by
  have HR : Hid (Rd w b g B p 0) := h
  clear h
  go_enter Try.func88, Try.ntmps88
  go_wp2_with fail
  have hK : Keeps (fun _ => False) w (w.alloc (.cells #[.pointer (some ⟨b, 0, none⟩)] 99)) := (Keeps.refl _ w).alloc _
  have hR1 := HR.out.kept hK (fun e => e) (fun e => e)
  refine (rFault_any b g p 0 B _ hR1).mono ?_
  rintro e w1 ⟨rfl, rfl⟩
  go_wp2
  go_ret
  exact ⟨rfl, hK⟩

theorem itemT_any (b g p : Nat) (B : List UInt8) (er : Int) (v : Value) (w : World) (h : Rd w b g B p er) :
    Calls Try.prog 88 #[.agg #[.pointer (some ⟨b, 0, none⟩)], v] w fun e w' => ((er = 0 ∧ e = .returned v) ∨ (er ≠ 0 ∧ e = gone p 110)) ∧ Keeps (fun _ => False) w w' := by
  by_cases he : er = 0
  · subst he
    exact (itemT_good b g p B v w h).mono fun e w' h => ⟨.inl ⟨rfl, h.1⟩, h.2⟩
  · exact (itemT_bad b g p B er v w h he).mono fun e w' h => ⟨.inr ⟨he, h.1⟩, h.2⟩

theorem rdNum_bd {B : List UInt8} {p q : Nat} {n : Int} (h : rdNum B p = .ok (n, q)) : 0 ≤ n ∧ n < 4294967296 := by
  unfold rdNum at h
  split at h
  · cases h
  · cases h
    have := numV_lt B p 0 4
    unfold numV at this
    rw [if_neg (by omega), if_neg (by omega)] at this
    have e : (256 : Nat) ^ 4 = 4294967296 := by decide
    rw [e] at this
    exact ⟨by omega, by omega⟩
theorem rdNum_of (B : List UInt8) (p : Nat) : (numE B p 0 4 = 0 ∧ rdNum B p = .ok ((numV B p 0 4 : Nat), numP B p 0 4)) ∨ (numE B p 0 4 ≠ 0 ∧ rdNum B p = .error p ∧ numP B p 0 4 = p) := by
  unfold numE rdNum numV numP
  by_cases hl : B.length < p + 4
  · right; simp [hl]
  · left; simp [hl]
theorem rdU8_of (B : List UInt8) (p : Nat) : (numE B p 0 1 = 0 ∧ rdU8 B p = .ok (numV B p 0 1, numP B p 0 1)) ∨ (numE B p 0 1 ≠ 0 ∧ rdU8 B p = .error p ∧ numP B p 0 1 = p) := by
  unfold numE rdU8 numV numP
  by_cases hl : B.length < p + 1
  · right; simp [hl]
  · left; simp [hl]
theorem rdText_of (B : List UInt8) (p : Nat) : (txtE B p 0 255 = 0 ∧ rdText B p = .ok (⟨(txtV B p 0 255).toArray⟩, txtP B p 0 255)) ∨ (txtE B p 0 255 ≠ 0 ∧ rdText B p = .error p ∧ txtP B p 0 255 = p) := by
  unfold rdText
  by_cases hl : txtE B p 0 255 = 0
  · left; simp [hl]
  · right; simp [hl, txtP]

set_option maxHeartbeats 1000000 in
theorem number_any (b g p : Nat) (B : List UInt8) (w : World) (h : Rd w b g B p 0) :
    Calls Try.prog 68 #[.agg #[.pointer (some ⟨b, 0, none⟩)]] w fun e w' => ((∃ n q, rdNum B p = .ok (n, q) ∧ e = .returned (.int .i64 n) ∧ Rd w' b g B q 0) ∨ (∃ q, rdNum B p = .error q ∧ e = gone q 110)) ∧ Keeps (· = b) w w' := by
  obtain ⟨c, hc⟩ : ∃ c, c = w.heap.size := ⟨_, rfl⟩
  have HR : Hid (Rd w b g B p 0 ∧ c = w.heap.size) := ⟨h, hc⟩
  have hb : c ≠ b := by have := h.blk.lt; omega
  clear h
  go_enter Try.func68, Try.ntmps68
  go_wp2
  rw [← hc]
  obtain ⟨W, hW⟩ : ∃ W, W = w.alloc (.cells #[.pointer (some ⟨b, 0, none⟩)] 99) := ⟨_, rfl⟩
  have hB : Blk W c [.pointer (some ⟨b, 0, none⟩)] 99 := by rw [hW, hc]; exact Blk.new w _ _
  have hR : Rd W b g B p 0 := by rw [hW]; exact HR.out.1.kept ((Keeps.refl (fun _ => False) w).alloc _) (fun e => e) (fun e => e)
  have HK : Hid (Keeps (· = b) w W) := by rw [hW]; exact (Keeps.refl _ w).alloc _
  have p0 := hB.cell (i := 0) rfl
  rw [← hW]
  have HB : Hid (Blk W c [.pointer (some ⟨b, 0, none⟩)] 99 ∧ Rd W b g B p 0) := ⟨hB, hR⟩
  clear hW hB hR HR hc
  refine wp_region_panicTo (fun e w' => ((∃ n q, rdNum B p = .ok (n, q) ∧ e = .returned (.int .i64 n) ∧ Rd w' b g B q 0) ∨ (∃ q, rdNum B p = .error q ∧ e = gone q 110)) ∧ Keeps (· = b) w w') (fun c a w h1 h2 => ⟨h1, h2⟩) ?_
  obtain ⟨V, hV⟩ : ∃ V, numV B p 0 4 = V := ⟨_, rfl⟩
  have hlt := numV_lt B p 0 4
  rw [hV, show (256 : Nat) ^ 4 = 4294967296 from by decide] at hlt
  have hcv : IntKind.i64.wrap (V : Int) = V := by rw [IntKind.wrap_i64]; omega
  have HV : Hid (numV B p 0 4 = V) := hV
  clear hV
  go_region_held2 (fun w' => w'.cell? ⟨c, 0, none⟩ = some (.pointer (some ⟨b, 0, none⟩))) (first | exact hS | go_keep)
    (first
      | (go_at_call 67; refine (rU32_any b g p 0 B _ HB.out.2.drew).mono ?_; rintro e w2 ⟨rfl, hR2, hK2⟩; rw [HV.out]; have hS : w2.cell? ⟨c, 0, none⟩ = some (.pointer (some ⟨b, 0, none⟩)) := (HB.out.1.drew.kept hK2 hb).cell (i := 0) rfl)
      | (go_at_call 66; refine (item32_any b g _ B _ _ _ hR2).mono ?_; rintro e w3 ⟨⟨he, rfl⟩ | ⟨he, rfl⟩, hK3⟩; rotate_left; exact ⟨rfl, .inr ⟨p, (rdNum_of B p).elim (fun h => absurd h.1 he) (fun h => h.2.1), by rw [(rdNum_of B p).elim (fun h => absurd h.1 he) (fun h => h.2.2)]⟩, (HK.out.drew.trans hK2 fun _ _ e => e).trans hK3 fun _ _ e => e.elim⟩; have hS : w3.cell? ⟨c, 0, none⟩ = some (.pointer (some ⟨b, 0, none⟩)) := ((HB.out.1.drew.kept hK2 hb).kept hK3 fun e => e).cell (i := 0) rfl))
  refine PanicTo.normal ?_
  have HF : Hid ((∃ n q, rdNum B p = .ok (n, q) ∧ Ending.returned (Value.int .i64 V) = .returned (.int .i64 n) ∧ Rd w3 b g B q 0) ∧ Keeps (· = b) w w3) := by
    refine ⟨⟨V, numP B p 0 4, ?_, rfl, ?_⟩, (HK.out.drew.trans hK2 fun _ _ e => e).trans hK3 fun _ _ e => e.elim⟩
    · rcases rdNum_of B p with h | h
      · rw [h.2, HV.out]
      · exact absurd he h.1
    · have := hR2.kept hK3 (fun e => e) (fun e => e)
      rw [he] at this; exact this
  clear hR2 hK2 hK3 hS he
  go_wp2
  go_ret
  exact ⟨.inl HF.out.1, HF.out.2⟩
end Go.Proofs.Ytmkeccibminnhaa
