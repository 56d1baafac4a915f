import Derived.Test.YtipejahmjdamjaaGreatDoorCu
import Derived.Deep.CutBlock
import Derived.Deep.CutRange
namespace Go.Proofs.YtipejahmjdamjaaGreatDoor
open Go.RowKit Go.Shelf
set_option linter.unusedVariables false
set_option maxRecDepth 6000

theorem results_cell_one {P : Program} {fn : Func} {p : Tmp} {ty : TypeId} (h : fn.results = #[.cell p ty]) (tmps : Array Value) (w : World) (a : Addr) (v : Value)
    (hp : tmps.getD p undef = .pointer (some a)) (hl : (loadVar ty a).run P w = .ok v w) : (results fn tmps).run P w = .ok v w := by
  have hp' : tmps[p]?.getD undef = .pointer (some a) := by simpa using hp
  simp [results, h, hp', asAddr, hl]

def tbl : List Value := [.nilFunc, .func (.func 130) #[] #[], .func (.func 131) #[] #[], .func (.func 132) #[] #[], .func (.func 133) #[] #[], .func (.func 134) #[] #[], .func (.func 134) #[] #[], .func (.func 134) #[] #[], .func (.func 134) #[] #[], .func (.func 134) #[] #[], .func (.func 134) #[] #[],
  .func (.func 134) #[] #[], .func (.func 134) #[] #[], .func (.func 134) #[] #[], .func (.func 134) #[] #[], .func (.func 134) #[] #[], .func (.func 134) #[] #[], .func (.func 134) #[] #[], .func (.func 135) #[] #[], .func (.func 136) #[] #[], .func (.func 137) #[] #[], .func (.func 138) #[] #[],
  .func (.func 138) #[] #[], .func (.func 138) #[] #[], .func (.func 138) #[] #[], .func (.func 138) #[] #[], .func (.func 139) #[] #[], .func (.func 140) #[] #[], .func (.func 141) #[] #[], .func (.func 142) #[] #[], .func (.func 143) #[] #[]]

theorem tbl_get (k : Nat) (h1 : 1 ≤ k) (h2 : k ≤ 30) : tbl[k]? = some (.func (.func (fnOf k)) #[] #[]) := by
  have : k = 1 ∨ k = 2 ∨ k = 3 ∨ k = 4 ∨ k = 5 ∨ k = 6 ∨ k = 7 ∨ k = 8 ∨ k = 9 ∨ k = 10 ∨ k = 11 ∨ k = 12 ∨ k = 13 ∨ k = 14 ∨ k = 15 ∨ k = 16 ∨ k = 17 ∨ k = 18 ∨ k = 19 ∨ k = 20 ∨ k = 21 ∨ k = 22 ∨ k = 23 ∨ k = 24 ∨ k = 25 ∨ k = 26 ∨ k = 27 ∨ k = 28 ∨ k = 29 ∨ k = 30 := by omega
  rcases this with rfl | rfl | rfl | rfl | rfl | rfl | rfl | rfl | rfl | rfl | rfl | rfl | rfl | rfl | rfl | rfl | rfl | rfl | rfl | rfl | rfl | rfl | rfl | rfl | rfl | rfl | rfl | rfl | rfl | rfl <;> rfl

theorem index_tbl (k : Nat) (h1 : 1 ≤ k) (h2 : k ≤ 30) (w : World) : (Instr.index 156 (.agg tbl.toArray) (.int .i64 (k : Int))).run Tryz.prog w = .ok (.func (.func (fnOf k)) #[] #[]) w := by
  have : k = 1 ∨ k = 2 ∨ k = 3 ∨ k = 4 ∨ k = 5 ∨ k = 6 ∨ k = 7 ∨ k = 8 ∨ k = 9 ∨ k = 10 ∨ k = 11 ∨ k = 12 ∨ k = 13 ∨ k = 14 ∨ k = 15 ∨ k = 16 ∨ k = 17 ∨ k = 18 ∨ k = 19 ∨ k = 20 ∨ k = 21 ∨ k = 22 ∨ k = 23 ∨ k = 24 ∨ k = 25 ∨ k = 26 ∨ k = 27 ∨ k = 28 ∨ k = 29 ∨ k = 30 := by omega
  rcases this with rfl | rfl | rfl | rfl | rfl | rfl | rfl | rfl | rfl | rfl | rfl | rfl | rfl | rfl | rfl | rfl | rfl | rfl | rfl | rfl | rfl | rfl | rfl | rfl | rfl | rfl | rfl | rfl | rfl | rfl <;> simp [Instr.index, go_sem, tbl, fnOf]

theorem tbl_one : (tbl.toArray.all fun x => x.oneCell') = true := by kernel_rfl

theorem load_blk {w : World} {b : Nat} {l : List Value} {t : TypeId} (h : Blk w b l t) (ty : TypeId) (d : TypeDesc) (hu : Tryz.prog.underlying ty = some d) (hd : d.isRow = true) (hi : (Tryz.prog.info? ty).map (·.size) = some l.length) :
    (loadVar ty ⟨b, 0, none⟩).run Tryz.prog w = .ok (.agg l.toArray) w :=
  run_loadVar_mid w b 0 ty l d (fun j v hv => by rw [Nat.zero_add]; exact h.cell hv) hu hd hi

abbrev nil31 : List Value := [.nilFunc, .nilFunc, .nilFunc, .nilFunc, .nilFunc, .nilFunc, .nilFunc, .nilFunc, .nilFunc, .nilFunc, .nilFunc, .nilFunc, .nilFunc, .nilFunc, .nilFunc, .nilFunc, .nilFunc, .nilFunc, .nilFunc, .nilFunc, .nilFunc, .nilFunc, .nilFunc, .nilFunc, .nilFunc, .nilFunc, .nilFunc, .nilFunc, .nilFunc, .nilFunc, .nilFunc]

set_option maxHeartbeats 2000000 in
theorem operations_any (w : World) : Calls Tryz.prog 93 #[] w fun e w' => e = .returned (.agg tbl.toArray) ∧ Keeps (fun _ => False) w w' := by
  obtain ⟨W, hW⟩ : ∃ W, W = w.alloc (.cells #[.nilFunc, .nilFunc, .nilFunc, .nilFunc, .nilFunc, .nilFunc, .nilFunc, .nilFunc, .nilFunc, .nilFunc, .nilFunc, .nilFunc, .nilFunc, .nilFunc, .nilFunc, .nilFunc, .nilFunc, .nilFunc, .nilFunc, .nilFunc, .nilFunc, .nilFunc, .nilFunc, .nilFunc, .nilFunc, .nilFunc, .nilFunc, .nilFunc, .nilFunc, .nilFunc, .nilFunc] 156) := ⟨_, rfl⟩
  have HB : Hid (Blk W w.heap.size nil31 156) := by rw [hW]; exact Blk.new w _ 156
  have HK : Hid (Keeps (fun _ => False) w (W.setRow w.heap.size tbl.toArray)) := by rw [hW]; exact ((Keeps.refl (fun _ => False) w).alloc _).setRow _ _ fun e => absurd e (Nat.lt_irrefl _)
  go_enter Tryz.func93, Tryz.ntmps93
  go_upto_region 1 with fail
  rw [← hW]
  clear hW
  go_wp2_with (refine Go.wpList_store_row rfl 156 (.tmp 0) (.tmp 1) rfl w.heap.size tbl.toArray rfl rfl 156 nil31.toArray HB.out (by kernel_rfl) rfl tbl_one ?_; refine Hid.out ?_)
  unfold Hid
  go_wp2
  have HL := load_blk (HB.out.setRow tbl) 156 _ Tryz.underlying156 rfl (by kernel_rfl)
  refine bodyPost_ret (results_cell_one (p := 0) (ty := 156) rfl _ _ ⟨w.heap.size, 0, none⟩ (.agg tbl.toArray) rfl HL) rfl ?_
  exact ⟨rfl, HK.out⟩

end Go.Proofs.YtipejahmjdamjaaGreatDoor
