import Derived.Test.YtipejahmjdamjaaDoorAd
import Derived.Test.YtipejahmjdamjaaDoorChOu
import Derived.Test.YtipejahmjdamjaaDoorAlMath
import Derived.Test.YtipejahmjdamjaaDoorAlB
import Derived.Test.YtipejahmjdamjaaDoorIsDec
import Derived.Deep.MidRow
import Derived.Deep.RegionHeld3
import Derived.StillTail
import Derived.StillTailTactics
namespace Go.Proofs.YtipejahmjdamjaaDoor
open Go.RowKit Go.Shelf
set_option linter.unusedVariables false
set_option maxRecDepth 6000

abbrev ptr (b : Nat) : Value := .pointer (some ⟨b, 0, none⟩)

/-- What stands in the block of an instruction under way. -/
structure Sp where
  rg : List UInt32
  pc : Nat
  c : Nat
  m : Nat
  root : Nat
  clock : Nat
  op : Nat
  a : Nat
  b : Nat
  d : Nat
  imm : Int
  cost : Int
  trap : Nat
  call : Int
  apc : Nat
  word : Nat
  rd : Bool
  addr : Nat
  val : Nat

def Sp.tail (t : Sp) : List Value := [.int .u32 t.pc, ptr t.c, ptr t.m, .int .i64 t.root, .int .u32 t.clock, .int .i64 t.op, .int .i64 t.a, .int .i64 t.b, .int .i64 t.d, .int .i64 t.imm,
  .int .i64 t.cost, .int .i64 t.trap, .int .i64 t.call, .int .u32 t.apc, .int .u32 t.word, .bool t.rd, .int .u32 t.addr, .int .u32 t.val]
def Sp.cells (t : Sp) : List Value := wvs t.rg ++ t.tail

/-- It lies in block s. -/
structure SpAt (w : World) (s : Nat) (t : Sp) : Prop where
  blk : Blk w s t.cells 55
  len : t.rg.length = 16
  la : t.a < 16
  lb : t.b < 16
  ld : t.d < 16

theorem SpAt.kept {S : Nat → Prop} {w w' : World} {s : Nat} {t : Sp} (h : SpAt w s t) (hK : Keeps S w w') (hn : ¬ S s) : SpAt w' s t := ⟨h.blk.kept hK hn, h.len, h.la, h.lb, h.ld⟩

theorem SpAt.get {w : World} {s : Nat} {t : Sp} (h : SpAt w s t) (j : Nat) {v : Value} (hv : t.tail[j]? = some v) : w.cell? ⟨s, 16 + j, none⟩ = some v := by
  refine h.blk.cell ?_
  rw [Sp.cells, List.getElem?_append_right (by rw [wvs_length, h.len]; omega), wvs_length, h.len, Nat.add_sub_cancel_left]
  exact hv

theorem SpAt.reg {w : World} {s : Nat} {t : Sp} (h : SpAt w s t) (i : Nat) (hi : i < 16) : w.cell? ⟨s, i, none⟩ = some (.int .u32 ((t.rg.getD i 0).toNat : Int)) := by
  refine h.blk.cell ?_
  have hl := h.len
  rw [Sp.cells, List.getElem?_append_left (by rw [wvs_length]; omega), wvs_get _ _ (by omega)]
  rw [List.getD_eq_getElem?_getD, List.getElem?_eq_getElem (by omega)]; rfl

theorem SpAt.set {w : World} {s : Nat} {t : Sp} (h : SpAt w s t) (j : Nat) (v : Value) (t' : Sp) (hv : t.tail.set j v = t'.tail) (hr : t'.rg = t.rg) (h1 : t'.a < 16) (h2 : t'.b < 16) (h3 : t'.d < 16) : SpAt (w.setCell ⟨s, 16 + j, none⟩ v) s t' := by
  refine ⟨?_, by rw [hr]; exact h.len, h1, h2, h3⟩
  have := h.blk.setCell (16 + j) v
  rw [Sp.cells, List.set_append_right _ _ (by rw [wvs_length, h.len]; omega), wvs_length, h.len, Nat.add_sub_cancel_left, hv] at this
  rw [Sp.cells, hr]
  exact this

theorem wvs_set (xs : List UInt32) (i : Nat) (x : UInt32) : (wvs xs).set i (.int .u32 (x.toNat : Int)) = wvs (xs.set i x) := by
  rw [wvs, wvs, List.map_set]

theorem SpAt.setReg {w : World} {s : Nat} {t : Sp} (h : SpAt w s t) (i : Nat) (hi : i < 16) (x : UInt32) : SpAt (w.setCell ⟨s, i, none⟩ (.int .u32 (x.toNat : Int))) s { t with rg := t.rg.set i x } := by
  have hl := h.len
  refine ⟨?_, by simpa using h.len, h.la, h.lb, h.ld⟩
  have := h.blk.setCell i (.int .u32 (x.toNat : Int))
  rw [Sp.cells, List.set_append_left _ _ (by rw [wvs_length]; omega), wvs_set] at this
  exact this

theorem SpAt.frozen {w : World} {s : Nat} {t : Sp} (h : SpAt w s t) (i : Nat) : w.frozen? ⟨s, i, none⟩ = false := h.blk.frozen i

theorem ra_any (s : Nat) (t : Sp) (w : World) (h : SpAt w s t) : Calls Tryd.prog 62 #[ptr s] w fun e w' => e = .returned (.int .u32 ((t.rg.getD t.a 0).toNat : Int)) ∧ ∃ k, w' = w.drewN k := by
  have c1 : w.cell? ⟨s, 22, none⟩ = some (.int .i64 t.a) := h.get 6 rfl
  have c2 := h.reg t.a h.la
  have hb : (t.a : Int) < 16 := by have := h.la; omega
  obtain ⟨b, eb⟩ : ∃ b, b = t.a := ⟨_, rfl⟩
  obtain ⟨v, ev⟩ : ∃ v, v = (t.rg.getD t.a 0).toNat := ⟨_, rfl⟩
  rw [← eb] at c1 c2 hb
  rw [← ev]
  rw [← eb] at ev
  rw [← ev] at c2
  clear h ev eb
  go_enter Tryd.func62, Tryd.ntmps62
  go_wp2
  go_quiet (fail)
  go_wp2
  go_ret
  exact ⟨rfl, _, rfl⟩

theorem rb_any (s : Nat) (t : Sp) (w : World) (h : SpAt w s t) : Calls Tryd.prog 57 #[ptr s] w fun e w' => e = .returned (.int .u32 ((t.rg.getD t.b 0).toNat : Int)) ∧ ∃ k, w' = w.drewN k := by
  have c1 : w.cell? ⟨s, 23, none⟩ = some (.int .i64 t.b) := h.get 7 rfl
  have c2 := h.reg t.b h.lb
  have hb : (t.b : Int) < 16 := by have := h.lb; omega
  obtain ⟨b, eb⟩ : ∃ b, b = t.b := ⟨_, rfl⟩
  obtain ⟨v, ev⟩ : ∃ v, v = (t.rg.getD t.b 0).toNat := ⟨_, rfl⟩
  rw [← eb] at c1 c2 hb
  rw [← ev]
  rw [← eb] at ev
  rw [← ev] at c2
  clear h ev eb
  go_enter Tryd.func57, Tryd.ntmps57
  go_wp2
  go_quiet (fail)
  go_wp2
  go_ret
  exact ⟨rfl, _, rfl⟩

theorem rc_any (s : Nat) (t : Sp) (w : World) (h : SpAt w s t) : Calls Tryd.prog 60 #[ptr s] w fun e w' => e = .returned (.int .u32 ((t.rg.getD t.d 0).toNat : Int)) ∧ ∃ k, w' = w.drewN k := by
  have c1 : w.cell? ⟨s, 24, none⟩ = some (.int .i64 t.d) := h.get 8 rfl
  have c2 := h.reg t.d h.ld
  have hb : (t.d : Int) < 16 := by have := h.ld; omega
  obtain ⟨b, eb⟩ : ∃ b, b = t.d := ⟨_, rfl⟩
  obtain ⟨v, ev⟩ : ∃ v, v = (t.rg.getD t.d 0).toNat := ⟨_, rfl⟩
  rw [← eb] at c1 c2 hb
  rw [← ev]
  rw [← eb] at ev
  rw [← ev] at c2
  clear h ev eb
  go_enter Tryd.func60, Tryd.ntmps60
  go_wp2
  go_quiet (fail)
  go_wp2
  go_ret
  exact ⟨rfl, _, rfl⟩

/-- A number as a word. -/
def wd (n : Int) : Nat := (n % 4294967296).toNat
theorem wd_cast (n : Int) : ((wd n : Nat) : Int) = n % 4294967296 := by unfold wd; omega
theorem wd_lt (n : Int) : wd n < 4294967296 := by unfold wd; omega

/-- A call that changes nothing, in whatever order its fellows go. -/
def Quiet (f : Nat) (args : Array Value) (v : Value) (w : World) : Prop := ∀ k, Calls Tryd.prog f args (w.drewN k) fun e w' => e = .returned v ∧ ∃ n, w' = w.drewN n
theorem quiet_of {f : Nat} {args : Array Value} {v : Value} {w : World} (h : ∀ k, Calls Tryd.prog f args (w.drewN k) fun e w' => e = .returned v ∧ ∃ n, w' = (w.drewN k).drewN n) : Quiet f args v w := fun k =>
  (h k).mono fun e w' ⟨h1, n, h2⟩ => ⟨h1, k + n, by rw [h2, World.drewN_drewN]⟩
theorem quiet_eq {f : Nat} {args : Array Value} {v : Value} {w : World} (h : ∀ k, Calls Tryd.prog f args (w.drewN k) fun e w' => e = .returned v ∧ w' = w.drewN k) : Quiet f args v w := fun k =>
  (h k).mono fun e w' ⟨h1, h2⟩ => ⟨h1, k, h2⟩
theorem Quiet.at {f : Nat} {args : Array Value} {v : Value} {w : World} (h : Quiet f args v w) (k : Nat) : Calls Tryd.prog f args (w.drewN k) fun e w' => e = .returned v ∧ ∃ n, w' = w.drewN n := h k
theorem SpAt.drewN {w : World} {s : Nat} {t : Sp} (h : SpAt w s t) (k : Nat) : SpAt (w.drewN k) s t := h.kept ((Keeps.refl (fun _ => False) w).drewN k) fun h => h

theorem imm_any (s : Nat) (t : Sp) (w : World) (h : SpAt w s t) : Calls Tryd.prog 58 #[ptr s] w fun e w' => e = .returned (.int .u32 (wd t.imm : Nat)) ∧ ∃ k, w' = w.drewN k := by
  have c1 : w.cell? ⟨s, 25, none⟩ = some (.int .i64 t.imm) := h.get 9 rfl
  rw [wd_cast]
  obtain ⟨v, ev⟩ : ∃ v, v = t.imm := ⟨_, rfl⟩
  rw [← ev] at c1 ⊢
  clear h ev
  go_enter Tryd.func58, Tryd.ntmps58
  go_wp2
  go_ret
  exact ⟨rfl, 0, rfl⟩

theorem away_any (s : Nat) (t : Sp) (w : World) (h : SpAt w s t) : Calls Tryd.prog 65 #[ptr s] w fun e w' => e = .returned (.int .u32 (wd (t.apc + wd t.imm) : Nat)) ∧ ∃ k, w' = w.drewN k := by
  have c1 : w.cell? ⟨s, 29, none⟩ = some (.int .u32 t.apc) := h.get 13 rfl
  have HI : Hid (Quiet 58 #[ptr s] (.int .u32 (wd t.imm : Nat)) w) := quiet_of fun k => imm_any s t (w.drewN k) (h.drewN k)
  rw [wd_cast (_ + _)]
  obtain ⟨v, ev⟩ : ∃ v, v = t.apc := ⟨_, rfl⟩
  obtain ⟨i, ei⟩ : ∃ i, i = wd t.imm := ⟨_, rfl⟩
  rw [← ev] at c1 ⊢
  rw [← ei] at HI ⊢
  clear h ev ei
  go_enter Tryd.func65, Tryd.ntmps65
  go_wp2_with fail
  go_quiet (exact HI.out.at _)
  go_wp2
  go_ret
  exact ⟨rfl, _, rfl⟩

theorem put_any (s v : Nat) (t : Sp) (w : World) (h : SpAt w s t) (hv : v < 4294967296) : Calls Tryd.prog 56 #[ptr s, .int .u32 v] w fun e w' => e = .returned (.int .i64 0) ∧ SpAt w' s { t with rg := t.rg.set t.a (UInt32.ofNat v) } ∧ Keeps (· = s) w w' := by
  have c1 : w.cell? ⟨s, 22, none⟩ = some (.int .i64 t.a) := h.get 6 rfl
  have c2 := h.reg t.a h.la
  have f2 := h.frozen t.a
  have hb : (t.a : Int) < 16 := by have := h.la; omega
  have HS : Hid (∀ k, SpAt ((w.drewN k).setCell ⟨s, t.a, none⟩ (.int .u32 v)) s { t with rg := t.rg.set t.a (UInt32.ofNat v) } ∧ Keeps (· = s) w ((w.drewN k).setCell ⟨s, t.a, none⟩ (.int .u32 v))) := fun k => by
    have := (h.kept ((Keeps.refl (fun _ => False) w).drewN k) fun h => h).setReg t.a h.la (UInt32.ofNat v)
    rw [UInt32.toNat_ofNat_of_lt' (by simpa using hv)] at this
    exact ⟨this, ((Keeps.refl _ w).drewN k).setCell _ _ fun _ => rfl⟩
  obtain ⟨b, eb⟩ : ∃ b, b = t.a := ⟨_, rfl⟩
  obtain ⟨u, eu⟩ : ∃ u, u = (t.rg.getD t.a 0).toNat := ⟨_, rfl⟩
  obtain ⟨T, eT⟩ : ∃ T : Sp, T = { t with rg := t.rg.set t.a (UInt32.ofNat v) } := ⟨_, rfl⟩
  rw [← eT] at HS ⊢
  rw [← eu] at c2
  rw [← eb] at c1 c2 hb f2 HS
  clear h eu eb eT
  go_enter Tryd.func56, Tryd.ntmps56
  go_wp2_with fail
  refine Ch.region_tail 11 (by kernel_rfl) ?_
  simp only [List.take_succ_cons, List.take_zero, List.drop_succ_cons, List.drop_zero]
  repeat still_step
  refine wpStill_nil ?_
  go_wp2
  go_ret
  exact ⟨rfl, HS.out 1⟩

theorem goOn_any (s v : Nat) (t : Sp) (w : World) (h : SpAt w s t) : Calls Tryd.prog 64 #[ptr s, .int .u32 v] w fun e w' => e = .returned (.int .i64 0) ∧ SpAt w' s { t with pc := v } ∧ Keeps (· = s) w w' := by
  have c1 : w.cell? ⟨s, 16, none⟩ = some (.int .u32 t.pc) := h.get 0 rfl
  have f1 := h.frozen 16
  have HS : Hid (SpAt (w.setCell ⟨s, 16, none⟩ (.int .u32 v)) s { t with pc := v } ∧ Keeps (· = s) w (w.setCell ⟨s, 16, none⟩ (.int .u32 v))) :=
    ⟨h.set 0 _ _ rfl rfl h.la h.lb h.ld, (Keeps.refl _ w).setCell _ _ fun _ => rfl⟩
  obtain ⟨T, eT⟩ : ∃ T : Sp, T = { t with pc := v } := ⟨_, rfl⟩
  obtain ⟨u, eu⟩ : ∃ u, u = t.pc := ⟨_, rfl⟩
  rw [← eT] at HS ⊢
  rw [← eu] at c1
  clear h eT eu
  go_enter Tryd.func64, Tryd.ntmps64
  go_wp2
  go_ret
  exact ⟨rfl, HS.out⟩

end Go.Proofs.YtipejahmjdamjaaDoor
