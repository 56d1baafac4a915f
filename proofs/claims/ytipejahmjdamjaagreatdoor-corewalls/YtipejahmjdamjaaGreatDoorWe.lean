import Derived.Test.YtipejahmjdamjaaGreatDoorWc
import Derived.DeepKeys
namespace Go.Proofs.YtipejahmjdamjaaGreatDoor
open Go.RowKit Go.Shelf
set_option linter.unusedVariables false
set_option maxRecDepth 6000

theorem wf_u32 (n : Nat) (h : n < 4294967296) : (Lit.int .u32 (n : Int)).wf = true := by
  have h1 : IntKind.u32.min = 0 := rfl
  have h2 : IntKind.u32.max = 4294967295 := rfl
  simp only [Lit.wf, h1, h2, Bool.and_eq_true, decide_eq_true_eq]
  omega

theorem lit_one (d n : Nat) (h : n < 4294967296) : (Tryz.prog.keyLits (d + 1) 37 [.int .u32 (n : Int)]).isSome = true := by
  unfold Program.keyLits
  rw [show Tryz.prog.underlying 37 = some (.int .u32) from Tryz.underlying37]
  simp [wf_u32 n h]

theorem mapM_isSome {α β : Type} {f : α → Option β} : ∀ {l : List α}, (∀ a ∈ l, (f a).isSome = true) → (l.mapM f).isSome = true
  | [], _ => by simp
  | a :: l, h => by
    obtain ⟨b, hb⟩ := Option.isSome_iff_exists.1 (h a (by simp))
    obtain ⟨bs, hbs⟩ := Option.isSome_iff_exists.1 (mapM_isSome (l := l) fun x hx => h x (by simp [hx]))
    simp [hb, hbs]

theorem lits_arr (d : Nat) (rg : List UInt32) (h : rg.length = 16) : (Tryz.prog.keyLits (d + 2) 38 (wvs rg)).isSome = true := by
  unfold Program.keyLits
  rw [Tryz.underlying38]
  have hc : Tryz.prog.cellsOf 38 = 16 := by kernel_rfl
  have hc1 : Tryz.prog.cellsOf 37 = 1 := by kernel_rfl
  dsimp only
  rw [if_pos (by rw [hc, wvs_length, h]), Option.isSome_map]
  refine mapM_isSome fun i hi => ?_
  have hi' : i < rg.length := by rw [h]; simpa using hi
  rw [hc1, Nat.mul_one, show ((wvs rg).drop i).take 1 = [.int .u32 (rg[i].toNat : Int)] from ?_]
  · exact lit_one d _ (rg_lt _)
  · rw [List.take_one, List.head?_drop, wvs_get rg i hi']; rfl

theorem key_ctx (rg : List UInt32) (pc : Nat) (h : rg.length = 16) (hp : pc < 4294967296) : ∃ l, keyOf Tryz.prog 40 (.agg (ctx rg pc).toArray) = some l := by
  refine Option.isSome_iff_exists.1 ?_
  unfold keyOf
  rw [Tryz.underlying40]
  have hc : Tryz.prog.cellsOf 40 = 17 := by kernel_rfl
  dsimp only
  rw [if_pos]
  · rw [Option.isSome_map]
    unfold Program.keyLits
    rw [Tryz.underlying40]
    dsimp only
    rw [if_pos ⟨by show (ctx rg pc).length = _; rw [hc, ctx_len h], by kernel_rfl⟩, Option.isSome_map]
    refine mapM_isSome fun f hf => ?_
    have hc38 : Tryz.prog.cellsOf 38 = 16 := by kernel_rfl
    have hc37 : Tryz.prog.cellsOf 37 = 1 := by kernel_rfl
    have hsz : Tryz.prog.types.size = 265 + 2 := by kernel_rfl
    have hcs : (Value.agg (ctx rg pc).toArray).cells.toList = ctx rg pc := rfl
    rw [hcs, hsz]
    simp only [List.mem_cons, List.not_mem_nil, or_false] at hf
    rcases hf with rfl | rfl
    · dsimp only
      rw [hc38, List.drop_zero, show (ctx rg pc).take 16 = wvs rg by unfold ctx; rw [List.take_append_of_le_length (by rw [wvs_length, h]; omega), List.take_of_length_le (by rw [wvs_length, h]; omega)]]
      exact lits_arr 265 rg h
    · dsimp only
      rw [hc37, show ((ctx rg pc).drop 16).take 1 = [.int .u32 (pc : Int)] by unfold ctx; rw [List.drop_append_of_le_length (by rw [wvs_length, h]; omega), List.drop_of_length_le (by rw [wvs_length, h]; omega)]; rfl]
      exact lit_one 266 pc hp
  · rw [show Tryz.prog.keyType 40 = true by kernel_rfl, Bool.true_and]
    unfold Value.formed
    rw [Tryz.underlying40]
    show ((ctx rg pc).toArray.size == Tryz.prog.cellsOf 40) = true
    rw [hc, List.size_toArray, ctx_len h]; rfl

theorem eq_ctx (rg : List UInt32) (pc : Nat) (h : rg.length = 16) (hp : pc < 4294967296) (w : World) : (Op.equal 40 (.agg (ctx rg pc).toArray) (.agg (ctx rg pc).toArray)).run Tryz.prog w = .ok true w := by
  obtain ⟨l, hl⟩ := key_ctx rg pc h hp
  obtain ⟨r, h1, h2⟩ := run_equal_deep (P := Tryz.prog) w (m := 5) (by omega) (k := 40) (by kernel_rfl) (by kernel_rfl) hl hl
  rw [h1, h2.2 rfl]

theorem neq_ctx (rg : List UInt32) (pc : Nat) (h : rg.length = 16) (hp : pc < 4294967296) (w : World) : (binOp .neq 40 (.agg (ctx rg pc).toArray) (.agg (ctx rg pc).toArray)).run Tryz.prog w = .ok (.bool false) w := by
  simp only [binOp]
  simp [eq_ctx rg pc h hp]
theorem eql_ctx (rg : List UInt32) (pc : Nat) (h : rg.length = 16) (hp : pc < 4294967296) (w : World) : (binOp .eql 40 (.agg (ctx rg pc).toArray) (.agg (ctx rg pc).toArray)).run Tryz.prog w = .ok (.bool true) w := by
  simp only [binOp]
  simp [eq_ctx rg pc h hp]

end Go.Proofs.YtipejahmjdamjaaGreatDoor
