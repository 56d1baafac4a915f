import Derived.Test.YtfcgpjojjehkiaaR
import Derived.Test.YtfcgpjojjehkiaaApp
namespace Go.Proofs.Ytfcgpjojjehkiaa
open Go.RowKit
set_option linter.unusedVariables false
set_option linter.unusedSimpArgs false

/-- These numbers can be read at this address. -/
def SegI (w : World) (a : Option Addr) (ks : List Int) : Prop :=
  ks = [] ∨ ∃ g o, a = some ⟨g, o, none⟩ ∧ ∀ j, (h : j < ks.length) → w.cell? ⟨g, o + j, none⟩ = some (.int .i64 ks[j])
theorem SegI.kept {S : Nat → Prop} {w w' : World} {a : Option Addr} {ks : List Int} (h : SegI w a ks) (hK : Keeps S w w') (hn : ∀ x, a = some x → ¬ S x.block) : SegI w' a ks := by
  rcases h with h | ⟨g, o, ha, hc⟩
  · exact .inl h
  · refine .inr ⟨g, o, ha, fun j hj => ?_⟩
    have h1 := hc j hj
    have hlt : g < w.heap.size := World.block_lt_of_cell? w ⟨g, o + j, none⟩ h1
    rw [World.cell?_of_block (w := w) (hK.block g hlt (hn _ ha))]
    exact h1

def flatB (bs : List Bx) : List Value := bs.flatMap Bx.vs
theorem flatB_length (bs : List Bx) : (flatB bs).length = bs.length * 3 := by
  induction bs with
  | nil => rfl
  | cons b bs ih => rw [flatB, List.flatMap_cons, List.length_append, show (bs.flatMap Bx.vs).length = bs.length * 3 from ih, List.length_cons]; show 3 + _ = _; omega
theorem flatB_get {bs : List Bx} {j : Nat} {b : Bx} (h : bs[j]? = some b) {r : Nat} {u : Value} (hu : b.vs[r]? = some u) : (flatB bs)[j * 3 + r]? = some u := by
  have hr : r < 3 := (List.getElem?_eq_some_iff.1 hu).1
  induction bs generalizing j with
  | nil => simp at h
  | cons c bs ih =>
    have e : flatB (c :: bs) = c.vs ++ flatB bs := rfl
    have hc : c.vs.length = 3 := rfl
    rw [e]
    cases j with
    | zero =>
      simp at h
      subst h
      rw [List.getElem?_append_left (by omega), Nat.zero_mul, Nat.zero_add]; exact hu
    | succ j =>
      rw [List.getElem?_append_right (by omega), hc, show (j + 1) * 3 + r - 3 = j * 3 + r by omega]
      exact ih (by simpa using h)
theorem segB_of_owns {w : World} {v : Value} {bs : List Bx} (h : w.ownsRow 0 69 3 v bs.length (flatB bs)) (h1 : 1 ≤ bs.length) : ∃ g c, v = .slice (some ⟨g, 0, none⟩) bs.length c ∧ (bs.length ≤ c ∧ c ≤ maxLen) ∧ g < w.heap.size ∧ SegB w (some ⟨g, 0, none⟩) bs := by
  have hcl := fun g hg => h.cells (g := g) hg
  rcases h.2 with ⟨rfl, h0⟩ | ⟨g, cap, cur, rfl, _, hg, h2, h3, _⟩
  · omega
  · refine ⟨g, cap, rfl, ⟨h2, h3⟩, (Array.getElem?_eq_some_iff.1 hg).1, .inr ⟨g, 0, rfl, fun j b hb => ?_⟩⟩
    have q : ∀ r u, b.vs[r]? = some u → w.cell? ⟨g, 0 + j * 3 + r, none⟩ = some u := fun r u hu => by
      have := hcl g rfl _ _ (flatB_get hb hu)
      rw [addr_add] at this
      rw [Nat.add_assoc]
      exact this
    exact ⟨q 0 _ rfl, q 1 _ rfl, q 2 _ rfl⟩

theorem Try.info69 : (Try.prog.info? 69).map (fun i => (i.zero, i.size, i.bytes)) = some (some (.agg #[.int .i64 0, .int .i64 0, .int .i64 0]), 3, 24) := by kernel_rfl

/-- append of one box. -/
theorem append_box {w : World} (x : Bx) (v : Value) (n : Nat) (vs : List Value) (hown : w.ownsRow 0 69 3 v n vs) (hn : n ≤ 100) :
    ∃ v' W', (∀ ty, (Builtin.append_ #[71, 71] ty #[v, .slice (some ⟨w.heap.size, 0, none⟩) 1 1]).run Try.prog (w.alloc (.cells #[.int .i64 x.p, .int .i64 x.h, .int .i64 x.n] 69)) = .ok v' W') ∧ W'.ownsRow 0 69 3 v' (n + 1) (vs ++ x.vs) ∧
      (v'.ownBlock = v.ownBlock ∨ ∃ k, v'.ownBlock = some k ∧ w.heap.size ≤ k) ∧ Keeps (fun k => some k = v.ownBlock) w W' := by
  obtain ⟨i0, hi, hz0, hz1, hz2⟩ := info_parts Try.info69
  exact append_new 71 69 i0 _ 3 24 Try.underlying71 hi hz0 hz1 hz2 rfl (by omega) v n vs hown #[.int .i64 x.p, .int .i64 x.h, .int .i64 x.n] rfl (by intro u hu; simp at hu; rcases hu with rfl | rfl | rfl <;> rfl) (by unfold maxLen; omega) (by omega)

def pbx (n : Int) (ports : List Int) : List Bx := ports.map fun q => ⟨q, 3, n⟩
def boxes (p n : Int) (ports : List Int) : List Bx := ⟨p, 2, n⟩ :: pbx n ports
theorem pbx_length (n : Int) (ports : List Int) : (pbx n ports).length = ports.length := by simp [pbx]
theorem boxes_length (p n : Int) (ports : List Int) : (boxes p n ports).length = ports.length + 1 := by simp [boxes, pbx]

/-- While the boxes are listed. -/
structure Dl (w wr : World) (v : Value) (p n : Int) (ports : List Int) (j : Nat) : Prop where
  own : wr.ownsRow 0 69 3 v (j + 1) (flatB (boxes p n (ports.take j)))
  new : ∃ k, v.ownBlock = some k ∧ w.heap.size ≤ k
  k : Keeps (fun _ => False) w wr

theorem Dl.step {w wr w1 : World} {v : Value} {p n : Int} {ports : List Int} {j : Nat} (h : Dl w wr v p n ports j) (hj : j < ports.length) (hj2 : j ≤ 50) (hk : Keeps (fun _ => False) wr w1) :
    ∃ v' W', (∀ ty, (Builtin.append_ #[71, 71] ty #[v, .slice (some ⟨w1.heap.size, 0, none⟩) 1 1]).run Try.prog (w1.alloc (.cells #[.int .i64 (ports[j]'hj), .int .i64 3, .int .i64 n] 69)) = .ok v' W') ∧ Dl w W' v' p n ports (j + 1) := by
  have ho := owns_kept h.own hk (fun _ _ e => e)
  obtain ⟨v', W', hr, hown, hf, hK⟩ := append_box ⟨ports[j], 3, n⟩ v (j + 1) _ ho (by omega)
  refine ⟨v', W', hr, ?_, ?_, ?_⟩
  · have e : flatB (boxes p n (ports.take (j + 1))) = flatB (boxes p n (ports.take j)) ++ (⟨ports[j], 3, n⟩ : Bx).vs := by
      unfold flatB boxes pbx
      rw [List.take_add_one, List.getElem?_eq_getElem hj, List.map_append, List.flatMap_cons, List.flatMap_cons, List.flatMap_append, List.append_assoc]
      simp
    rw [e]; exact hown
  · obtain ⟨k, hk1, hk2⟩ := h.new
    rcases hf with e | ⟨q, e, hq⟩
    · exact ⟨k, by rw [e]; exact hk1, hk2⟩
    · exact ⟨q, e, by have := h.k.size; have := hk.size; omega⟩
  · obtain ⟨k, hk1, hk2⟩ := h.new
    refine (h.k.trans hk fun _ _ e => e).trans hK fun b hb e => ?_
    rw [hk1] at e
    cases e
    omega

def dlE (nil : Bool) (xs : List UInt32) (p n : Int) (ports : List Int) : Int :=
  if nil then 3 else if ports.length < 1 ∨ 4 < ports.length then 1 else laE xs (boxes p n ports)
def dlX (nil : Bool) (xs : List UInt32) (p n : Int) (ports : List Int) : List UInt32 :=
  if dlE nil xs p n ports = 0 then
    if wd xs p.toNat = 0 then ageX xs (pbx n ports)
    else lay (briX xs n.toNat (win xs (p.toNat + 2) (wd xs (p.toNat + 1)).toNat) (pbx n ports)) p.toNat (List.replicate (2 + n.toNat) 0)
  else xs

set_option maxHeartbeats 400000 in
theorem deliver_nil (p n : Int) (pv : Value) (w : World) :
    Calls Try.prog 15 #[.pointer none, .int .i64 p, .int .i64 n, pv] w fun e w' => e = .returned (.int .i64 3) ∧ w' = w := by
  go_enter Try.func15, Try.ntmps15
  go_wp2
  go_ret
  exact ⟨rfl, rfl⟩

set_option maxHeartbeats 400000 in
theorem deliver_arg (b : Nat) (p n : Int) (a : Option Addr) (N c : Nat) (w : World) (h : N < 1 ∨ 4 < N) :
    Calls Try.prog 15 #[.pointer (some ⟨b, 0, none⟩), .int .i64 p, .int .i64 n, .slice a N c] w fun e w' => e = .returned (.int .i64 1) ∧ w' = w := by
  have hkk : (N : Int) < 1 ∨ (¬ (N : Int) < 1 ∧ 4 < (N : Int)) := by omega
  clear h
  rcases hkk with g1 | ⟨g1, g2⟩
  all_goals
    go_enter Try.func15, Try.ntmps15
    go_wp2
    go_ret
    exact ⟨rfl, rfl⟩

end Go.Proofs.Ytfcgpjojjehkiaa
