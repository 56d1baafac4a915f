import Derived.Test.YtfbapgcopidbpaaGreatVj
namespace Go.Proofs.YtfbapgcopidbpaaGreat
open Go.RowKit Go.Shelf
open Mq (SegW wvs wvs_length wvs_get run_make_words run_copy_wb segW_of_blk Mm lay)
set_option linter.unusedVariables false
set_option maxRecDepth 6000
set_option linter.unusedSimpArgs false

theorem input_nil (p e : Int) (i : Value) (w : World) : Calls Tryz.prog 7 #[.pointer none, .int .i64 p, .int .i64 e, i] w fun r w' => r = .returned (.tuple #[.int .i64 0, .int .u32 0]) ∧ w' = w := by
  go_enter Tryz.func7, Tryz.ntmps7
  go_wp2
  go_ret2
  exact ⟨rfl, rfl⟩
/-- What is told, of words. -/
def InP (ws : List UInt32) (i : Nat) (w : World) (r : Ending) (w' : World) : Prop :=
  Keeps (fun _ => False) w w' ∧ ((ws.length ≤ i ∧ r = .returned (.tuple #[.int .i64 7, .int .u32 0])) ∨ (i < ws.length ∧ r = .returned (.tuple #[.int .i64 0, .int .u32 (wAt ws i)])))
theorem wpList_look_run {ops : Array Oper} {rest : List Oper} {o : Oper} {a : Act} {Q : Exit → Act → World → Prop} {P : Program} {w : World} (hgd : o.guard = none) (m x : Operand) (t : TypeId)
    (ho : o.op = .lookup t m x false) (vm vx v' : Value) (hm : a.eval m = vm) (hx : a.eval x = vx)
    (hr : (Instr.lookup t vm vx false).run P w = .ok v' w) (h : wpList P ops Q rest (a.put o.dst v') w) : wpList P ops Q (o :: rest) a w :=
  wpList_plain hgd fun _ hK => by
    unfold Oper.wp execOp
    simp only [ho, hm, hx, hr, Sem.run_bind, Sem.run_pure, Result.andThen_ok]
    exact hK _ _ h
theorem input_walk (d m : Nat) (v0 v1 : Value) (p e : Int) (i : Nat) (hi : i < 4294967296) (w : World) (hd : Blk w d [v0, v1, .map (some m)] 71) (a : Option Addr) (ws : List UInt32) (hs : SegW w a ws) (hl : ws.length ≤ 1048576)
    (HL : Hid ((Instr.lookup 69 (.map (some m)) (kv e p) false).run Tryz.prog w = .ok (.slice a ws.length ws.length) w)) :
    Calls Tryz.prog 7 #[.pointer (some ⟨d, 0, none⟩), .int .i64 p, .int .i64 e, .int .u32 (i : Int)] w (InP ws i w) := by
  have d2 := hd.cell (i := 2) rfl
  obtain ⟨n, hn⟩ : ∃ n, ws.length = n := ⟨_, rfl⟩
  have HS : Hid (SegW w a ws ∧ ws.length = n) := ⟨hs, hn⟩
  rw [hn] at HL hl
  have hu : (n : Int) % 4294967296 = n := by omega
  by_cases hc : n ≤ i
  · have hc1 : (n : Int) ≤ i := by omega
    clear hd hs hn
    unfold kv at HL
    go_enter Tryz.func7, Tryz.ntmps7
    go_wp2_with (at_lookup; refine wpList_look_run rfl (.tmp 16) (.tmp 19) 69 rfl (.map (some m)) (.agg #[.int .i64 e, .int .i64 p]) (.slice a n n) rfl rfl HL.out ?_)
    go_ret2
    exact ⟨Keeps.refl _ _, .inl ⟨by have := HS.out.2; omega, rfl⟩⟩
  · have hc1 : (i : Int) < n := by omega
    have hc2 : ¬ (n : Int) ≤ i := by omega
    rcases hs with h | ⟨g, o, rfl, hcell⟩
    · exact absurd hn (by rw [h]; simp; omega)
    have y := hcell i (by omega)
    rw [wAt_eq] at y
    obtain ⟨V, hV⟩ : ∃ V, wAt ws i = V := ⟨_, rfl⟩
    rw [hV] at y
    have HV : Hid (wAt ws i = V) := hV
    clear hd hn hcell hV
    unfold kv at HL
    go_enter Tryz.func7, Tryz.ntmps7
    go_wp2_with (at_lookup; refine wpList_look_run rfl (.tmp 16) (.tmp 19) 69 rfl (.map (some m)) (.agg #[.int .i64 e, .int .i64 p]) (.slice (some ⟨g, o, none⟩) n n) rfl rfl HL.out ?_)
    go_still Tryz.mixed
    go_wp2
    go_ret2
    exact ⟨(Keeps.refl _ _).drew, .inr ⟨by have := HS.out.2; omega, by rw [HV.out]; rfl⟩⟩
/-- The words that are told of a partition and a frame. -/
def tells (R : List Tr) (e p : Int) : List UInt32 := match R.find? (fun r => decide (r.e = e) && decide (r.p = p)) with | some r => r.ws | none => []
theorem input_any (d m lo : Nat) (v0 v1 : Value) (R : List Tr) (p e : Int) (i : Nat) (hi : i < 4294967296) (hp : I64 p) (he : I64 e) (w : World) (hd : Blk w d [v0, v1, .map (some m)] 71) (ht : Td w m lo R) (hl : ∀ r ∈ R, r.ws.length ≤ 1048576) :
    Calls Tryz.prog 7 #[.pointer (some ⟨d, 0, none⟩), .int .i64 p, .int .i64 e, .int .u32 (i : Int)] w (InP (tells R e p) i w) := by
  obtain ⟨kl, hkl⟩ := key73 e p he hp
  unfold tells
  cases hf : R.find? (fun r => decide (r.e = e) && decide (r.p = p)) with
  | none =>
    refine input_walk d m v0 v1 p e i hi w hd none [] (.inl rfl) (by simp) ?_
    refine ht.map.look_none law73 under69 (zero57 w) hkl fun q hq he => ?_
    obtain ⟨r, hr, rfl⟩ := List.mem_map.1 hq
    obtain ⟨h1, h2⟩ := kv_inj he
    have := List.find?_eq_none.1 hf r hr
    simp [h1, h2] at this
  | some r =>
    have hr := List.mem_of_find?_eq_some hf
    have h1 := List.find?_some hf
    simp only [Bool.and_eq_true, decide_eq_true_eq] at h1
    refine input_walk d m v0 v1 p e i hi w hd (some ⟨r.g, 0, none⟩) r.ws (segW_of_blk (ht.blk r hr).1) (hl r hr) ?_
    refine ht.map.look_some law73 under69 hkl ?_
    rw [← h1.1, ← h1.2]
    exact List.mem_map.2 ⟨r, hr, rfl⟩
end Go.Proofs.YtfbapgcopidbpaaGreat
