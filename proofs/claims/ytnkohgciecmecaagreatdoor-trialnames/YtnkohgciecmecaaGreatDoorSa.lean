import Derived.Test.YtnkohgciecmecaaGreatDoorQc
namespace Go.Proofs.YtnkohgciecmecaaGreatDoor
open Go.RowKit
set_option linter.unusedVariables false
set_option linter.unusedSimpArgs false
set_option maxRecDepth 6000

theorem within_k (n a b : Int) (w : World) : Calls Tryz.prog 193 #[.int .i64 n, .int .i64 a, .int .i64 b] w fun e w' => e = .returned (.bool (inR n a b)) ∧ Keeps (fun _ => False) w w' :=
  (within_any n a b w).mono fun e w' h => ⟨h.1, by rw [h.2]; exact Keeps.refl _ _⟩
theorem Env.sub {x : Cfg} {N : Nat} {L L' : List (Nat × List Value × TypeId)} {w : World} (h : Env x N L w) (hs : ∀ b ∈ L', b ∈ L) : Env x N L' w := ⟨h.cin, h.nn, fun b hb => h.bl b (hs b hb)⟩
theorem Ask.of {f : Nat} {bs : Array Value} {E E' : World → Prop} {g : Flt} (h : Ask f bs E' g) (hE : ∀ w, E w → E' w) : Ask f bs E g := fun w hw => h w (hE w hw)
theorem inR_iff {n a b : Int} : inR n a b = true ↔ a ≤ n ∧ n ≤ b := by unfold inR; simp
theorem unl_n {b : Bool} {f : Flt} (hf : f.n ≠ 0) : (unl b f).n = 0 ↔ b = true := by
  cases b
  · simp [unl, hf]
  · simp [unl, Flt.no]
theorem qs_prev {qs : List Qn} {j : Nat} (h : ∀ i, i < j → ∀ r : Qn, qs[i]? = some r → r.2.2.n = 0) (i : Nat) (hi : i < j) {q : Qn} (hq : qs[i]? = some q) : q.2.2.n = 0 := h i hi q hq

theorem Env.box {x : Cfg} {N : Nat} {L : List (Nat × List Value × TypeId)} {w : World} (h : Env x N L w) (cs : List Value) (t : TypeId) : Env x N ((w.heap.size, cs, t) :: L) (w.alloc (.cells cs.toArray t)) := by
  have h1 := h.kept ((Keeps.refl _ _).alloc (.cells cs.toArray t))
  refine ⟨h1.cin, h1.nn, fun b hb => ?_⟩
  rcases List.mem_cons.1 hb with rfl | hb
  · exact Blk.new _ _ _
  · exact h1.bl b hb
theorem MkP.of {qs : List Qn} {E : World → Prop} {v : Flt} {w w' : World} {g n : Nat} {t : TypeId} (hq : Qs qs E) (k : Keeps (fun _ => False) w w') (hB : Blk w' g (qs.map QV) t) (hE : E w') (hv : firstF (qs.map (·.2.2)) = v) (hn : n = qs.length) : MkP v w (.returned (.slice (some ⟨g, 0, none⟩) n n)) w' := by
  subst hn
  exact ⟨k, g, t, qs, E, rfl, hB, hE, hq, hv⟩

theorem q14 (x : Cfg) (N C A : Nat) : Ask 191 #[.pointer (some ⟨C, 0, none⟩), .pointer (some ⟨A, 0, none⟩)] (Env x N [(C, [.int .i64 x.frames, .int .i64 x.major, .int .i64 x.kernel, .int .i64 x.room, .slice x.ca x.cs.length x.cc, .slice x.pa x.ps.length x.pc, .slice x.ha x.hs.length x.hc], 29), (A, [.int .i64 (-1), .int .i64 (-1)], 205)]) (unl (inR x.frames 1 1024) ⟨400, -1, -1⟩) := by
  intro w hE
  have HEk : Hid (∀ w w', (Env x N [(C, [.int .i64 x.frames, .int .i64 x.major, .int .i64 x.kernel, .int .i64 x.room, .slice x.ca x.cs.length x.cc, .slice x.pa x.ps.length x.pc, .slice x.ha x.hs.length x.hc], 29), (A, [.int .i64 (-1), .int .i64 (-1)], 205)]) w → Keeps (fun _ => False) w w' → (Env x N [(C, [.int .i64 x.frames, .int .i64 x.major, .int .i64 x.kernel, .int .i64 x.room, .slice x.ca x.cs.length x.cc, .slice x.pa x.ps.length x.pc, .slice x.ha x.hs.length x.hc], 29), (A, [.int .i64 (-1), .int .i64 (-1)], 205)]) w') := fun _ _ h k => h.kept k
  have HS : Hid (∀ w', (Env x N [(C, [.int .i64 x.frames, .int .i64 x.major, .int .i64 x.kernel, .int .i64 x.room, .slice x.ca x.cs.length x.cc, .slice x.pa x.ps.length x.pc, .slice x.ha x.hs.length x.hc], 29), (A, [.int .i64 (-1), .int .i64 (-1)], 205)]) w' → (w'.cell? ⟨C, 0, none⟩ = some (.int .i64 x.frames) ∧ w'.cell? ⟨C, 1, none⟩ = some (.int .i64 x.major) ∧ w'.cell? ⟨C, 2, none⟩ = some (.int .i64 x.kernel) ∧ w'.cell? ⟨C, 3, none⟩ = some (.int .i64 x.room) ∧ w'.cell? ⟨C, 4, none⟩ = some (.slice x.ca x.cs.length x.cc) ∧ w'.cell? ⟨C, 5, none⟩ = some (.slice x.pa x.ps.length x.pc) ∧ w'.cell? ⟨C, 6, none⟩ = some (.slice x.ha x.hs.length x.hc) ∧ w'.cell? ⟨A, 0, none⟩ = some (.int .i64 (-1)) ∧ w'.cell? ⟨A, 1, none⟩ = some (.int .i64 (-1)))) := fun w' h => ⟨(h.bl _ (.head _)).cell (i := 0) rfl, (h.bl _ (.head _)).cell (i := 1) rfl, (h.bl _ (.head _)).cell (i := 2) rfl, (h.bl _ (.head _)).cell (i := 3) rfl, (h.bl _ (.head _)).cell (i := 4) rfl, (h.bl _ (.head _)).cell (i := 5) rfl, (h.bl _ (.head _)).cell (i := 6) rfl, (h.bl _ (.tail _ (.head _))).cell (i := 0) rfl, (h.bl _ (.tail _ (.head _))).cell (i := 1) rfl⟩
  obtain ⟨W, hW⟩ : ∃ W, W = w.alloc (.cells #[.int .i64 0, .int .i64 0, .int .i64 0] 290) := ⟨_, rfl⟩
  obtain ⟨R, hR⟩ : ∃ R, R = w.heap.size := ⟨_, rfl⟩
  have HO : Hid (ObI w (Env x N [(C, [.int .i64 x.frames, .int .i64 x.major, .int .i64 x.kernel, .int .i64 x.room, .slice x.ca x.cs.length x.cc, .slice x.pa x.ps.length x.pc, .slice x.ha x.hs.length x.hc], 29), (A, [.int .i64 (-1), .int .i64 (-1)], 205)]) R W) := by rw [hW, hR]; exact ⟨hE.kept ((Keeps.refl _ _).alloc _), Blk.new _ _ _, (Keeps.refl _ _).alloc _, Nat.le_refl _⟩
  have HE0 : Hid ((Env x N [(C, [.int .i64 x.frames, .int .i64 x.major, .int .i64 x.kernel, .int .i64 x.room, .slice x.ca x.cs.length x.cc, .slice x.pa x.ps.length x.pc, .slice x.ha x.hs.length x.hc], 29), (A, [.int .i64 (-1), .int .i64 (-1)], 205)]) w) := hE
  clear hE
  go_enter Tryz.func191, Tryz.ntmps191
  go_upto_region 1 with fail
  rw [← hW, ← hR]
  clear hW hR
  refine wp_region_held_drew (S := (fun w' => w'.cell? ⟨C, 0, none⟩ = some (.int .i64 x.frames) ∧ w'.cell? ⟨C, 1, none⟩ = some (.int .i64 x.major) ∧ w'.cell? ⟨C, 2, none⟩ = some (.int .i64 x.kernel) ∧ w'.cell? ⟨C, 3, none⟩ = some (.int .i64 x.room) ∧ w'.cell? ⟨C, 4, none⟩ = some (.slice x.ca x.cs.length x.cc) ∧ w'.cell? ⟨C, 5, none⟩ = some (.slice x.pa x.ps.length x.pc) ∧ w'.cell? ⟨C, 6, none⟩ = some (.slice x.ha x.hs.length x.hc) ∧ w'.cell? ⟨A, 0, none⟩ = some (.int .i64 (-1)) ∧ w'.cell? ⟨A, 1, none⟩ = some (.int .i64 (-1)))) Tryz.mixd (HS.out _ (HO.out.env.kept ((Keeps.refl _ _).drew))) (fun hHeld => ?_)
  simp only [List.size_toArray, List.length_cons, List.length_nil, Nat.reduceAdd, Array.replicate_succ, Array.replicate_zero, List.push_toArray, List.append_toArray, List.nil_append, List.cons_append]
  refine wpAnyH_take (i := 0) (oi := { dst := some 3, op := Op.fieldAddr 29 (Operand.tmp 0) 0, type := 0, pos := "whole.go:12", after := #[], guard := none }) (v := .pointer (some ⟨C, 0, none⟩)) rfl (by kernel_rfl) (by kernel_rfl) (by kernel_rfl) (fun _ _ _ h => h) (Or.inl ⟨by kernel_rfl, by (intro w hSw; (try dsimp only at hSw); go_simp)⟩) hHeld ?_
  simp only [Act.put, List.setIfInBounds_toArray, List.set_cons_zero, List.set_cons_succ]
  refine wpAnyH_take (i := 1) (oi := { dst := some 4, op := Op.load 3 (Operand.tmp 3), type := 3, pos := "whole.go:12", after := #[{ on := 0, ground := Ground.data }], guard := none }) (v := .int .i64 x.frames) rfl (by kernel_rfl) (by kernel_rfl) (by kernel_rfl) (fun _ _ _ h => h) (Or.inl ⟨by kernel_rfl, by (intro w hSw; (try dsimp only at hSw); go_simp)⟩) hHeld ?_
  simp only [Act.put, List.setIfInBounds_toArray, List.set_cons_zero, List.set_cons_succ]
  refine wpAnyH_take (i := 3) (oi := { dst := some 6, op := Op.load 205 (Operand.tmp 1), type := 205, pos := "whole.go:12", after := #[], guard := none }) (v := .agg #[.int .i64 (-1), .int .i64 (-1)]) rfl (by kernel_rfl) (by kernel_rfl) (by kernel_rfl) (fun _ _ _ h => h) (Or.inl ⟨by kernel_rfl, by (intro w hSw; (try dsimp only at hSw); go_simp)⟩) hHeld ?_
  simp only [Act.put, List.setIfInBounds_toArray, List.set_cons_zero, List.set_cons_succ]
  refine wpAnyH_ready (rs := [2]) (by kernel_rfl) (by simp) ?_
  refine AllReadyH.cons (o := { dst := some 5, op := Op.call { callee := Callee.value (Operand.func 193), args := #[Operand.tmp 4, Operand.const (Value.int IntKind.i64 1), Operand.const (Value.int IntKind.i64 1024)], argTypes := #[3, 3, 3] }, type := 4, pos := "whole.go:12", after := #[{ on := 1, ground := Ground.data }], guard := none }) rfl (fun K hK => ?_) AllReadyH.nil
  go_simp
  refine ((within_k x.frames 1 1024 W.drew)).mono ?_
  rintro r w1 ⟨rfl, hKc⟩
  have HO1 : Hid (ObI w (Env x N [(C, [.int .i64 x.frames, .int .i64 x.major, .int .i64 x.kernel, .int .i64 x.room, .slice x.ca x.cs.length x.cc, .slice x.pa x.ps.length x.pc, .slice x.ha x.hs.length x.hc], 29), (A, [.int .i64 (-1), .int .i64 (-1)], 205)]) R w1) := HO.out.kept HEk.out (((Keeps.refl _ _).drew).trans hKc fun _ _ h => h)
  clear hKc
  refine hK.out _ _ (HS.out _ HO1.out.env) (fun hHeld => ?_)
  simp only [Act.put, List.setIfInBounds_toArray, List.set_cons_zero, List.set_cons_succ]
  refine wpAnyH_ready (rs := [4]) (by kernel_rfl) (by simp) ?_
  refine AllReadyH.cons (o := { dst := some 7, op := Op.call { callee := Callee.value (Operand.func 192), args := #[Operand.tmp 5, Operand.const (Value.int IntKind.i64 400), Operand.tmp 6], argTypes := #[4, 22, 205] }, type := 290, pos := "whole.go:12", after := #[{ on := 2, ground := Ground.data }, { on := 3, ground := Ground.data }, { on := 2, ground := Ground.chain }], guard := none }) rfl (fun K hK => ?_) AllReadyH.nil
  go_simp
  refine ((unless_any (inR x.frames 1 1024) 400 (-1) (-1) w1)).mono ?_
  rintro r w2 ⟨rfl, hKc⟩
  have HO2 : Hid (ObI w (Env x N [(C, [.int .i64 x.frames, .int .i64 x.major, .int .i64 x.kernel, .int .i64 x.room, .slice x.ca x.cs.length x.cc, .slice x.pa x.ps.length x.pc, .slice x.ha x.hs.length x.hc], 29), (A, [.int .i64 (-1), .int .i64 (-1)], 205)]) R w2) := HO1.out.kept HEk.out hKc
  clear hKc
  obtain ⟨Gz, hG⟩ : ∃ Gz : Flt, unl (inR x.frames 1 1024) ⟨400, -1, -1⟩ = Gz := ⟨_, rfl⟩
  rw [hG]
  have HG : Hid (unl (inR x.frames 1 1024) ⟨400, -1, -1⟩ = Gz) := hG
  clear hG
  refine hK.out _ _ (HS.out _ HO2.out.env) (fun hHeld => ?_)
  simp only [Act.put, List.setIfInBounds_toArray, List.set_cons_zero, List.set_cons_succ]
  refine wpAnyH_ready (rs := [5]) (by kernel_rfl) (by simp) ?_
  refine AllReadyH.cons (o := { dst := none, op := Op.store 290 (Operand.tmp 2) (Operand.tmp 7), type := 0, pos := "whole.go:12", after := #[{ on := 4, ground := Ground.data }, { on := 4, ground := Ground.chain }, { on := 0, ground := Ground.phase }, { on := 1, ground := Ground.phase }, { on := 2, ground := Ground.phase }, { on := 3, ground := Ground.phase }, { on := 4, ground := Ground.phase }], guard := none }) rfl (fun K hK => ?_) AllReadyH.nil
  refine wp_store_row 290 _ _ rfl R #[.int .i64 Gz.n, .int .i64 Gz.a, .int .i64 Gz.b] (by rfl) (by rfl) 290 _ HO2.out.ans Tryz.size290 rfl (all53 ..) ?_
  obtain ⟨W5, hW5⟩ : ∃ W5, W5 = w2.setRow R #[.int .i64 Gz.n, .int .i64 Gz.a, .int .i64 Gz.b] := ⟨_, rfl⟩
  have hB5 : Blk W5 R [.int .i64 Gz.n, .int .i64 Gz.a, .int .i64 Gz.b] 290 := by rw [hW5]; exact HO2.out.ans.setRow _
  have k5 : Keeps (fun k => k = R) w2 W5 := by rw [hW5]; exact (Keeps.refl _ _).setRow _ _ fun _ => rfl
  have hlo := HO.out.lo
  have HO5 : Hid (Blk W5 R [.int .i64 Gz.n, .int .i64 Gz.a, .int .i64 Gz.b] 290 ∧ Keeps (fun _ => False) w W5) := ⟨hB5, HO2.out.keeps.trans k5 fun k hk e => by omega⟩
  have HE5 : Hid ((Env x N [(C, [.int .i64 x.frames, .int .i64 x.major, .int .i64 x.kernel, .int .i64 x.room, .slice x.ca x.cs.length x.cc, .slice x.pa x.ps.length x.pc, .slice x.ha x.hs.length x.hc], 29), (A, [.int .i64 (-1), .int .i64 (-1)], 205)]) W5) := Env.kept' (HE0.out) HO2.out.env hlo k5
  rw [← hW5]
  clear hW5 hB5 k5 hlo
  refine hK.out _ _ (HS.out _ HE5.out) (fun hHeld => ?_)
  simp only [Act.put, List.setIfInBounds_toArray, List.set_cons_zero, List.set_cons_succ]
  refine wpAnyH_done (by kernel_rfl) ?_ _
  clear hHeld
  go_wp2
  (try simp only [Exit.inBlock, Exit.then])
  refine bodyPost_ret (results_cell_row rfl _ _ R 290 _ (0, 0) _ rfl HO5.out.1 Tryz.underlying290 rfl (by kernel_rfl)) rfl ?_
  exact ⟨by rw [HG.out], HO5.out.2⟩

def c0 : Flt := ⟨400, -1, -1⟩
def x0 : Cfg := ⟨0, 0, 0, 0, none, 0, [], none, 0, [], none, 0, []⟩
theorem x0_in (w : World) (N : Nat) : x0.In w N where
  cseg := Or.inl rfl
  clo h := absurd rfl h
  clen := by decide
  cin y h := by simp [x0] at h
  pseg := Or.inl rfl
  plo h := absurd rfl h
  plen := by decide
  pin y h := by simp [x0] at h
  hseg := Or.inl rfl
  hlo h := absurd rfl h
  hlen := by decide
  hfine y h := by simp [x0] at h
  ns n h := by
    simp [Cfg.ns, x0] at h
    subst h
    decide
theorem zeroQs (N C A : Nat) (L : List (Nat × List Value × TypeId)) (hL : L = [(A, [.int .i64 (-1), .int .i64 (-1)], 205), (C, [.int .i64 x0.frames, .int .i64 x0.major, .int .i64 x0.kernel, .int .i64 x0.room, .slice x0.ca x0.cs.length x0.cc, .slice x0.pa x0.ps.length x0.pc, .slice x0.ha x0.hs.length x0.hc], 29)]) :
    Qs [(191, #[.pointer (some ⟨C, 0, none⟩), .pointer (some ⟨A, 0, none⟩)], unl (inR x0.frames 1 1024) ⟨400, -1, -1⟩),
        (194, #[.pointer (some ⟨C, 0, none⟩), .pointer (some ⟨A, 0, none⟩)], Flt.no),
        (195, #[.pointer (some ⟨C, 0, none⟩), .pointer (some ⟨A, 0, none⟩)], Flt.no),
        (196, #[.pointer (some ⟨C, 0, none⟩), .pointer (some ⟨A, 0, none⟩)], Flt.no),
        (197, #[.pointer (some ⟨C, 0, none⟩), .pointer (some ⟨A, 0, none⟩)], Flt.no),
        (198, #[.pointer (some ⟨C, 0, none⟩)], Flt.no),
        (202, #[.pointer (some ⟨C, 0, none⟩)], Flt.no),
        (205, #[.pointer (some ⟨C, 0, none⟩)], Flt.no),
        (208, #[.pointer (some ⟨C, 0, none⟩), .pointer (some ⟨A, 0, none⟩)], Flt.no)] (Env x0 N L) := by
  refine ⟨fun _ _ h k => h.kept k, fun q hq args w => ?_, fun j q hj hpr => ?_, by simp⟩
  · simp only [List.mem_cons, List.not_mem_nil, or_false] at hq
    rcases hq with rfl | rfl | rfl | rfl | rfl | rfl | rfl | rfl | rfl
    · exact enter_fn Tryz.func191 rfl rfl args w
    · exact enter_fn Tryz.func194 rfl rfl args w
    · exact enter_fn Tryz.func195 rfl rfl args w
    · exact enter_fn Tryz.func196 rfl rfl args w
    · exact enter_fn Tryz.func197 rfl rfl args w
    · exact enter_fn Tryz.func198 rfl rfl args w
    · exact enter_fn Tryz.func202 rfl rfl args w
    · exact enter_fn Tryz.func205 rfl rfl args w
    · exact enter_fn Tryz.func208 rfl rfl args w
  · match j, hj with
    | 0, hj =>
      cases hj
      exact (q14 x0 N C A).of fun w h => h.sub fun b hb => by rw [hL]; simp only [List.mem_cons, List.not_mem_nil, or_false] at hb ⊢; rcases hb with h | h <;> simp [h]
    | j + 1, hj => exact absurd (qs_prev hpr 0 (by omega) rfl) (by show ¬ (unl (inR 0 1 1024) ⟨400, -1, -1⟩).n = 0; decide)
theorem questions_zero (N : Nat) : Makes 135 #[x0.v] (Env x0 N []) c0 := by
  intro w hE
  obtain ⟨W, hW⟩ : ∃ W, W = x0.laid w := ⟨_, rfl⟩
  obtain ⟨C, hC⟩ : ∃ C, C = w.heap.size := ⟨_, rfl⟩
  have hE1 : Env x0 N [(C, [.int .i64 x0.frames, .int .i64 x0.major, .int .i64 x0.kernel, .int .i64 x0.room, .slice x0.ca x0.cs.length x0.cc, .slice x0.pa x0.ps.length x0.pc, .slice x0.ha x0.hs.length x0.hc], 29)] W := by rw [hW, hC]; exact hE.box _ _
  obtain ⟨W2, hW2⟩ : ∃ W2, W2 = W.alloc (.cells #[.int .i64 (-1), .int .i64 (-1)] 205) := ⟨_, rfl⟩
  obtain ⟨A, hA⟩ : ∃ A, A = w.heap.size + 1 := ⟨_, rfl⟩
  have hA0 : A = W.heap.size := by rw [hA, hW]; simp [Cfg.laid]
  have HA0 : Hid (A = W.heap.size) := hA0
  have hE2 : Env x0 N [(A, [.int .i64 (-1), .int .i64 (-1)], 205), (C, [.int .i64 x0.frames, .int .i64 x0.major, .int .i64 x0.kernel, .int .i64 x0.room, .slice x0.ca x0.cs.length x0.cc, .slice x0.pa x0.ps.length x0.pc, .slice x0.ha x0.hs.length x0.hc], 29)] W2 := by rw [hW2, hA0]; exact hE1.box _ _
  have k2 : Keeps (fun _ => False) w W2 := by rw [hW2, hW]; exact ((Keeps.refl _ _).alloc _).alloc _
  have HF : Hid (MkP c0 w (.returned (.slice (some ⟨W2.heap.size, 0, none⟩) 9 9)) (W2.alloc (.cells #[.func (.func 191) #[] #[.pointer (some ⟨C, 0, none⟩), .pointer (some ⟨A, 0, none⟩)], .func (.func 194) #[] #[.pointer (some ⟨C, 0, none⟩), .pointer (some ⟨A, 0, none⟩)], .func (.func 195) #[] #[.pointer (some ⟨C, 0, none⟩), .pointer (some ⟨A, 0, none⟩)], .func (.func 196) #[] #[.pointer (some ⟨C, 0, none⟩), .pointer (some ⟨A, 0, none⟩)], .func (.func 197) #[] #[.pointer (some ⟨C, 0, none⟩), .pointer (some ⟨A, 0, none⟩)], .func (.func 198) #[] #[.pointer (some ⟨C, 0, none⟩)], .func (.func 202) #[] #[.pointer (some ⟨C, 0, none⟩)], .func (.func 205) #[] #[.pointer (some ⟨C, 0, none⟩)], .func (.func 208) #[] #[.pointer (some ⟨C, 0, none⟩), .pointer (some ⟨A, 0, none⟩)]] 371))) :=
    MkP.of (zeroQs N C A _ rfl) (k2.trans ((Keeps.refl (fun _ => False) _).alloc _) fun _ _ h => h) (Blk.new _ _ _) (hE2.kept ((Keeps.refl _ _).alloc _)) rfl rfl
  unfold Cfg.laid at hW
  clear hE hE1 hA0 hE2 k2
  go_enter Tryz.func135, Tryz.ntmps135
  go_upto_region 1 with fail
  rw [← hW, ← hC]
  clear hC hW hA
  go_upto_region 2 with fail
  rw [← hW2, ← HA0.out]
  clear hW2
  go_wp2
  go_ret
  exact HF.out

end Go.Proofs.YtnkohgciecmecaaGreatDoor
