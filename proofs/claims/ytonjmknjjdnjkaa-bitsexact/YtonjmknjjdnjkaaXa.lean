import Derived.Test.YtonjmknjjdnjkaaBegD
import Derived.Test.YtonjmknjjdnjkaaBegC
import Derived.Test.YtonjmknjjdnjkaaLsA
import Derived.Test.YtonjmknjjdnjkaaLsC
import Derived.Test.YtonjmknjjdnjkaaLsD
import Derived.Test.YtonjmknjjdnjkaaRdE
import Derived.Test.YtonjmknjjdnjkaaWriB
import Derived.Test.YtonjmknjjdnjkaaWriD
import Derived.Test.YtonjmknjjdnjkaaWriC
namespace Go.Proofs.Ytonjmknjjdnjkaa
open Go.RowKit
set_option linter.unusedVariables false

theorem Game.quiet {w0 w w' : World} {X T : Nat} (h : Game w0 w X T) (hK : Keeps (fun _ => False) w w') : Game w0 w' X T := by
  obtain ⟨s, g, h1, h2, h3, h4⟩ := h.out
  exact ⟨s, g, h1.quiet hK, h2, h3, h4⟩
theorem Game.more {w0 w : World} {X T T' : Nat} (h : Game w0 w X T) (hT : T ≤ T') : Game w0 w X T' := by
  obtain ⟨s, g, h1, h2, h3, h4⟩ := h.out
  exact ⟨s, g, h1, h2, h3.more hT, h4⟩
theorem Game.base {w0 w : World} {X T : Nat} (h : Game w0 w X T) : Keeps (fun _ => False) w0 w := by
  obtain ⟨s, g, h1, h2, h3, h4⟩ := h.out
  exact h1.base h2.base

/-- Where the play begins: nobody, and nothing told. -/
def sNil : Value := .slice none 0 0
def st0 (w0 : World) (X : Nat) : Nat × Nat → Ob := fun o =>
  if o = (0, 0) then .base w0 else if o = (1, 0) then .blk X [sNil, sNil, sNil, sNil, sNil, sNil] 34 else if o = (2, 0) then .row 58 1 sNil 0 [] else if o = (3, 0) then .row 86 1 sNil 0 [] else if o = (4, 0) then .row 66 1 sNil 0 [] else
  if o = (5, 0) then .row 90 1 sNil 0 [] else if o = (6, 0) then .row 100 4 sNil 0 [] else if o = (7, 0) then .row 102 4 sNil 0 [] else .nothing

theorem holds_nil (tag : Nat → Nat × Nat) (w : World) (o : Nat × Nat) (e : TypeId) (z : Nat) : Holds tag w o (.row e z sNil 0 []) := ⟨World.ownsRow_nil _ _ _ _, fun k hk => by cases hk⟩

theorem play0 (w0 w : World) (hK : Keeps (fun _ => False) w0 w) : Play w0 (w.alloc (.cells #[.slice none 0 0, .slice none 0 0, .slice none 0 0, .slice none 0 0, .slice none 0 0, .slice none 0 0] 34)) w.heap.size 0 0 0 := by
  refine ⟨st0 w0 w.heap.size, ⟨w.heap.size, sNil, sNil, sNil, sNil, sNil, sNil, [], [], [], [], [], []⟩, ⟨fun k => if k < w0.heap.size then (0, 0) else (1, 0), fun o => ?_⟩, ?_, ?_, rfl, rfl, rfl⟩
  · unfold st0
    split
    · next h => subst h; exact ⟨fun k hk => if_pos hk, hK.alloc _⟩
    split
    · next h => subst h; exact ⟨Blk.new w _ 34, if_neg (by have := hK.size; omega)⟩
    repeat (split; · exact holds_nil _ _ _ _ _)
    trivial
  · exact ⟨rfl, rfl, rfl, rfl, rfl, rfl, rfl, rfl, fun i b xs h => by simp at h, fun i b v c xs h => by simp at h, fun i b xs p er h => by simp at h, fun i b v c xs p er h => by simp at h, fun i a v xs h => by simp at h, fun i a v xs h => by simp at h, rfl, rfl⟩
  · exact ⟨by simp, by simp, by simp, by simp, fun i b xs h => by simp at h, fun i b xs p er h => by simp at h, fun i a v xs h => by simp at h, fun i a v xs h => by simp at h⟩

/-- The second beginning: a reader of a list that was built for it. -/
theorem begins_lit (w0 w : World) (X T nw nr : Nat) (h : Play w0 w X T nw nr) (hT : T ≤ 2147483600) :
    Calls Try.prog 10 #[.pointer (some ⟨X, 0, none⟩), .agg #[.int .i64 14, .int .i64 0, .int .i64 0, .int .i64 0, .int .u32 0, .int .u32 0, .int .u64 0, .slice (some ⟨w.heap.size, 0, none⟩) 3 3, .slice none 0 0, .string .empty]] (w.alloc (.cells #[.int .u8 7, .int .u8 0, .int .u8 1] 5)) fun e w' => e = .returned (.bool true) ∧ Play w0 w' X (T + 11) nw (nr + 1) := by
  obtain ⟨s, g, hH, hR, hF, h4, h5, h6⟩ := h.out
  have hB : Blk (w.alloc (.cells #[.int .u8 7, .int .u8 0, .int .u8 1] 5)) w.heap.size (bvs [7, 0, 1] ++ []) 5 := Blk.new w _ 5
  have H1 := hH.newBlk (24, 0) hB (Nat.le_refl _) ((Keeps.refl (fun _ => False) w).alloc _)
  have R1 := hR.other 24 0 (by omega) (.blk w.heap.size (bvs [7, 0, 1] ++ []) 5)
  exact begins_14m _ g 0 0 0 0 0 0 (some ⟨w.heap.size, 0, none⟩) [7, 0, 1] 3 none 0 0 .empty w0 _ X T nw nr H1 R1 hF h4 h5 h6 (by simp; omega) (by rw [upd_self]; exact src_blk)

/-- A call of the script with its lists. -/
structure Oc where
  o : OpC
  bs : List UInt8
  ws : List UInt32
instance : Inhabited Oc := ⟨⟨⟨0, 0, 0, 0, 0, 0, 0, none, 0, 0, none, 0, 0, .empty⟩, [], []⟩⟩
def Oc.wt (x : Oc) : Nat := 8 + x.o.s.size + x.o.lb + 4 * x.o.lw
/-- Its numbers are such, its lists are where it says. -/
structure Oc.Ok (x : Oc) (w : World) : Prop where
  who : in64 x.o.who
  a : in64 x.o.a
  b : in64 x.o.b
  W : x.o.W < 4294967296
  V : x.o.V < 4294967296
  N : x.o.N < 18446744073709551616
  lb : x.o.lb = x.bs.length
  lw : x.o.lw = x.ws.length
  cb : x.bs.length ≤ x.o.cb ∧ x.o.cb ≤ maxLen
  pb : Seg w x.o.pb x.bs
  pw : SegW w x.o.pw x.ws
  z : x.o.s.size ≤ 140737488355328 ∧ x.o.lb ≤ 140737488355328 ∧ x.o.lw ≤ 140737488355328

/-- What a call of the play leaves. -/
def Went (w0 : World) (X T : Nat) (e : Ending) (w' : World) : Prop := e = .returned (.bool true) ∧ Game w0 w' X T

section
variable {w0 w : World} {X T : Nat} {x : Oc}
theorem call12 (h : Game w0 w X T) (hx : x.Ok w0) : Calls Try.prog 12 #[x.o.agg] w (Went w0 X (T + x.wt)) :=
  (numbers_any x.o w hx.W hx.V hx.a hx.b).mono fun e w' h' => ⟨h'.1, (h.quiet h'.2).more (by omega)⟩
theorem call13 (h : Game w0 w X T) (hx : x.Ok w0) (hT : T + x.wt ≤ 2147483700) (hs : x.wt ≤ 2147483647) (hk : x.o.k = 5 ∨ x.o.k = 6 ∨ x.o.k = 7) : Calls Try.prog 13 #[.pointer (some ⟨X, 0, none⟩), x.o.agg] w (Went w0 X (T + x.wt)) := by
  obtain ⟨⟨k, who, a, b, W, V, N, pb, lb, cb, pw, lw, cw, s⟩, bs, ws⟩ := x
  have h1 := hx.lb
  have h2 := hx.lw
  have h3 := hx.pb
  have h4 := hx.pw
  have h5 := hx.cb
  dsimp only [Oc.wt] at h1 h2 h3 h4 h5 hT hs hk ⊢
  subst h1 h2
  unfold OpC.agg
  rcases hk with rfl | rfl | rfl
  · exact (lists_5 who a b W V N pb bs.length cb pw ws cw s w0 w X T h h4 (by omega) (by omega)).mono fun e w' h' => ⟨h'.1, h'.2.more (by omega)⟩
  · exact (lists_6 who a b W V N pb bs cb pw ws.length cw s w0 w X T h h3 (by omega) h5 (by omega)).mono fun e w' h' => ⟨h'.1, h'.2.more (by omega)⟩
  · exact (lists_7 who a b W V N pb bs cb pw ws.length cw s w0 w X T h h3 (by omega)).mono fun e w' h' => ⟨h'.1, h'.2.more (by omega)⟩
theorem call10 (h : Game w0 w X T) (hx : x.Ok w0) (hT : T + x.wt ≤ 2147483700) (hs : x.wt ≤ 2147483647) (hk : x.o.k = 8 ∨ x.o.k = 14 ∨ x.o.k = 15) : Calls Try.prog 10 #[.pointer (some ⟨X, 0, none⟩), x.o.agg] w (Went w0 X (T + x.wt)) := by
  obtain ⟨⟨k, who, a, b, W, V, N, pb, lb, cb, pw, lw, cw, s⟩, bs, ws⟩ := x
  have h1 := hx.lb
  have h2 := hx.lw
  have h3 := hx.pb
  have h6 := hx.who
  dsimp only [Oc.wt] at h1 h2 h3 h6 hT hs hk ⊢
  subst h1 h2
  unfold OpC.agg
  obtain ⟨nw, nr, hw, hr, hp⟩ := h.play
  rcases hk with rfl | rfl | rfl
  · exact (begins_writer who a b W V N pb bs.length cb pw ws.length cw s w0 w X T nw nr hp (by omega)).mono fun e w' h' => ⟨h'.1, (h'.2.game (by omega) hr).more (by omega)⟩
  · exact (begins_14 who a b W V N pb bs cb pw ws.length cw s w0 w X T nw nr hp (by omega) h3).mono fun e w' h' => ⟨h'.1, (h'.2.game hw (by omega)).more (by omega)⟩
  · exact (begins_15 who a b W V N pb bs.length cb pw ws.length cw s w0 w X T nw nr hp h6 hw (by omega)).mono fun e w' h' => ⟨h'.1, (h'.2.game hw (by omega)).more (by omega)⟩
theorem call14 (h : Game w0 w X T) (hx : x.Ok w0) (hT : T + x.wt ≤ 2147483700) (hs : x.wt ≤ 2147483647) (hk : x.o.k = 9 ∨ x.o.k = 10 ∨ x.o.k = 11 ∨ x.o.k = 12 ∨ x.o.k = 13) : Calls Try.prog 14 #[.pointer (some ⟨X, 0, none⟩), x.o.agg] w (Went w0 X (T + x.wt)) := by
  obtain ⟨⟨k, who, a, b, W, V, N, pb, lb, cb, pw, lw, cw, s⟩, bs, ws⟩ := x
  have h6 := hx.who
  have h7 := hx.V
  have h8 := hx.N
  dsimp only [Oc.wt] at h6 h7 h8 hT hs hk ⊢
  unfold OpC.agg
  rcases hk with rfl | rfl | rfl | rfl | rfl
  · exact (writes_u8 who a b W V N pb lb cb pw lw cw s w0 w X T h h6 h7 (by omega)).mono fun e w' h' => ⟨h'.1, h'.2.more (by omega)⟩
  · exact (writes_u32 who a b W V N pb lb cb pw lw cw s w0 w X T h h6 h7 (by omega)).mono fun e w' h' => ⟨h'.1, h'.2.more (by omega)⟩
  · exact (writes_u64 who a b W V N pb lb cb pw lw cw s w0 w X T h h6 h8 (by omega)).mono fun e w' h' => ⟨h'.1, h'.2.more (by omega)⟩
  · exact (writes_text who a b W V N pb lb cb pw lw cw s w0 w X T h h6 (by omega) (by omega)).mono fun e w' h' => ⟨h'.1, h'.2.more (by omega)⟩
  · exact (writes_out who a b W V N pb lb cb pw lw cw s w0 w X T h h6 (by omega)).mono fun e w' h' => ⟨h'.1, h'.2.more (by omega)⟩
theorem call15 (h : Game w0 w X T) (hx : x.Ok w0) (hT : T + x.wt ≤ 2147483700) (hk : 16 ≤ x.o.k) : Calls Try.prog 15 #[.pointer (some ⟨X, 0, none⟩), x.o.agg] w (Went w0 X (T + x.wt)) := by
  obtain ⟨⟨k, who, a, b, W, V, N, pb, lb, cb, pw, lw, cw, s⟩, bs, ws⟩ := x
  have h6 := hx.who
  dsimp only [Oc.wt] at h6 hT hk ⊢
  unfold OpC.agg
  by_cases k1 : k = 16
  · subst k1; exact (reads_16 who a b W V N pb lb cb pw lw cw s w0 w X T h h6 (by omega)).mono fun e w' h' => ⟨h'.1, h'.2.more (by omega)⟩
  by_cases k1 : k = 17
  · subst k1; exact (reads_17 who a b W V N pb lb cb pw lw cw s w0 w X T h h6 (by omega)).mono fun e w' h' => ⟨h'.1, h'.2.more (by omega)⟩
  by_cases k1 : k = 18
  · subst k1; exact (reads_18 who a b W V N pb lb cb pw lw cw s w0 w X T h h6 (by omega)).mono fun e w' h' => ⟨h'.1, h'.2.more (by omega)⟩
  by_cases k1 : k = 19
  · subst k1; exact (reads_19 who a b W V N pb lb cb pw lw cw s w0 w X T h h6 (by omega)).mono fun e w' h' => ⟨h'.1, h'.2.more (by omega)⟩
  by_cases k1 : k = 20
  · subst k1; exact (reads_20 who a b W V N pb lb cb pw lw cw s w0 w X T h h6 (by omega)).mono fun e w' h' => ⟨h'.1, h'.2.more (by omega)⟩
  exact (reads_other k who a b W V N pb lb cb pw lw cw s w0 w X T h h6 (by omega) (by omega)).mono fun e w' h' => ⟨h'.1, h'.2.more (by omega)⟩
end
end Go.Proofs.Ytonjmknjjdnjkaa
