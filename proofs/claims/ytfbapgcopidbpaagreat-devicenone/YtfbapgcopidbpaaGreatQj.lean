import Derived.Test.YtfbapgcopidbpaaGreatQh
namespace Go.Proofs.YtfbapgcopidbpaaGreat
open Go.RowKit
set_option linter.unusedVariables false
set_option linter.unusedSimpArgs false
set_option maxRecDepth 6000

theorem within_k (n a b : Int) (w : World) : Calls Tryz.prog 71 #[.int .i64 n, .int .i64 a, .int .i64 b] w fun e w' => e = .returned (.bool (inR n a b)) ∧ Keeps (fun _ => False) w w' :=
  (within_any n a b w).mono fun e w' h => ⟨h.1, by rw [h.2]; exact Keeps.refl _ _⟩
theorem isName_k (s : ByteArray) (hs : s.size ≤ 9223372036854775807) (w : World) : Calls Tryz.prog 104 #[.string s] w fun e w' => e = .returned (.bool (nameB s)) ∧ Keeps (fun _ => False) w w' :=
  (isName_any s hs w).mono fun e w' h => ⟨h.1, by rw [h.2]; exact Keeps.refl _ _⟩
/-- Blocks with what was captured. -/
def Bls (L : List (Nat × List Value × TypeId)) (w : World) : Prop := ∀ b ∈ L, Blk w b.1 b.2.1 b.2.2
theorem Bls.kept {L : List (Nat × List Value × TypeId)} {w w' : World} (h : Bls L w) (hK : Keeps (fun _ => False) w w') : Bls L w' := fun b hb => (h b hb).kept hK fun h => h
def BI (w : World) (L : List (Nat × List Value × TypeId)) (w' : World) : Prop := Bls L w' ∧ Keeps (fun _ => False) w w'
theorem BI.kept {w w' w'' : World} {L : List (Nat × List Value × TypeId)} (h : BI w L w') (hK : Keeps (fun _ => False) w' w'') : BI w L w'' := ⟨h.1.kept hK, h.2.trans hK fun _ _ h => h⟩
theorem BI.box {w : World} {L : List (Nat × List Value × TypeId)} (h : Bls L w) (cs : List Value) (t : TypeId) : BI w ((w.heap.size, cs, t) :: L) (w.alloc (.cells cs.toArray t)) := by
  refine ⟨fun b hb => ?_, (Keeps.refl _ _).alloc _⟩
  rcases List.mem_cons.1 hb with rfl | hb
  · exact Blk.new _ _ _
  · exact (h b hb).kept ((Keeps.refl (fun _ => False) _).alloc _) fun h => h

/-- A function that tells a region's pages, or its frames. -/
structure RunOf (f : Nat) (ro : Rgn → Rn) : Prop where
  ent : ∀ args w, (callFunc f args).run Tryz.prog w = .ok (.enter f args) w
  call : ∀ (r : Rgn) (w : World), Calls Tryz.prog f #[r.v] w fun e w' => e = .returned (ro r).v ∧ Keeps (fun _ => False) w w'
theorem run_pages : RunOf 156 Rgn.pg := ⟨fun args w => enter_fn Tryz.func156 rfl rfl args w, pagesOf_any⟩
theorem run_frames : RunOf 131 Rgn.fr := ⟨fun args w => enter_fn Tryz.func131 rfl rfl args w, framesOf_any⟩
set_option maxHeartbeats 4000000 in
theorem meetClo (f : Nat) (ro : Rgn → Rn) (r : Rgn) (o : Rn) (F O : Nat) (hF : RunOf f ro) (hr : (ro r).Ok) (ho : o.Ok) (w : World) (hE : Bls [(F, [.func (.func f) #[] #[]], 178), (O, [.int .i64 o.f, .int .i64 o.s], 176)] w) : Calls Tryz.prog 168 #[r.v, .pointer (some ⟨F, 0, none⟩), .pointer (some ⟨O, 0, none⟩)] w fun e w' => e = .returned (.bool ((ro r).meets o)) ∧ Keeps (fun _ => False) w w' := by
  have HF : Hid (RunOf f ro) := hF
  have hent := hF.ent
  have HM : Hid (∀ w, Calls Tryz.prog 162 #[(ro r).v, o.v] w fun e w' => e = .returned (.bool ((ro r).meets o)) ∧ Keeps (fun _ => False) w w') := fun w => meets_any (ro r) o hr ho w
  clear hF hr ho
  obtain ⟨W, hW⟩ : ∃ W, W = w.alloc (.cells #[.int .i64 r.page, .int .i64 r.pages, .int .i64 r.frame, .int .i64 r.rights] 97) := ⟨_, rfl⟩
  obtain ⟨P, hP⟩ : ∃ P, P = w.heap.size := ⟨_, rfl⟩
  have HS : Hid (∀ w', Bls [(P, [.int .i64 r.page, .int .i64 r.pages, .int .i64 r.frame, .int .i64 r.rights], 97), (F, [.func (.func f) #[] #[]], 178), (O, [.int .i64 o.f, .int .i64 o.s], 176)] w' → (w'.cell? ⟨P, 0, none⟩ = some (.int .i64 r.page) ∧ w'.cell? ⟨P, 1, none⟩ = some (.int .i64 r.pages) ∧ w'.cell? ⟨P, 2, none⟩ = some (.int .i64 r.frame) ∧ w'.cell? ⟨P, 3, none⟩ = some (.int .i64 r.rights) ∧ w'.cell? ⟨F, 0, none⟩ = some (.func (.func f) #[] #[]) ∧ w'.cell? ⟨O, 0, none⟩ = some (.int .i64 o.f) ∧ w'.cell? ⟨O, 1, none⟩ = some (.int .i64 o.s))) := fun w' h => ⟨(h _ (.head _)).cell (i := 0) rfl, (h _ (.head _)).cell (i := 1) rfl, (h _ (.head _)).cell (i := 2) rfl, (h _ (.head _)).cell (i := 3) rfl, (h _ (.tail _ (.head _))).cell (i := 0) rfl, (h _ (.tail _ (.tail _ (.head _)))).cell (i := 0) rfl, (h _ (.tail _ (.tail _ (.head _)))).cell (i := 1) rfl⟩
  have HO : Hid (BI w [(P, [.int .i64 r.page, .int .i64 r.pages, .int .i64 r.frame, .int .i64 r.rights], 97), (F, [.func (.func f) #[] #[]], 178), (O, [.int .i64 o.f, .int .i64 o.s], 176)] W) := by rw [hW, hP]; exact BI.box hE _ _
  clear hE
  go_enter Tryz.func168, Tryz.ntmps168
  go_upto_region 1 with fail
  rw [← hW, ← hP]
  clear hW hP
  refine wp_region_held_drew (S := (fun w' => w'.cell? ⟨P, 0, none⟩ = some (.int .i64 r.page) ∧ w'.cell? ⟨P, 1, none⟩ = some (.int .i64 r.pages) ∧ w'.cell? ⟨P, 2, none⟩ = some (.int .i64 r.frame) ∧ w'.cell? ⟨P, 3, none⟩ = some (.int .i64 r.rights) ∧ w'.cell? ⟨F, 0, none⟩ = some (.func (.func f) #[] #[]) ∧ w'.cell? ⟨O, 0, none⟩ = some (.int .i64 o.f) ∧ w'.cell? ⟨O, 1, none⟩ = some (.int .i64 o.s))) Tryz.mixd (HS.out _ (HO.out.kept ((Keeps.refl _ _).drew)).1) (fun hHeld => ?_)
  simp only [List.size_toArray, List.length_cons, List.length_nil, Nat.reduceAdd, Array.replicate_succ, Array.replicate_zero, List.push_toArray, List.append_toArray, List.nil_append, List.cons_append]
  refine wpAnyH_take (i := 0) (oi := { dst := some 5, op := Op.load 178 (Operand.tmp 1), type := 178, pos := "run.go:25", after := #[], guard := none }) (v := .func (.func f) #[] #[]) rfl (by kernel_rfl) (by kernel_rfl) (by kernel_rfl) (fun _ _ _ h => h) (Or.inl ⟨by kernel_rfl, by (intro w hSw; (try dsimp only at hSw); go_simp)⟩) hHeld ?_
  simp only [Act.put, List.setIfInBounds_toArray, List.set_cons_zero, List.set_cons_succ]
  refine wpAnyH_take (i := 1) (oi := { dst := some 6, op := Op.load 97 (Operand.tmp 3), type := 97, pos := "run.go:25", after := #[], guard := none }) (v := .agg #[.int .i64 r.page, .int .i64 r.pages, .int .i64 r.frame, .int .i64 r.rights]) rfl (by kernel_rfl) (by kernel_rfl) (by kernel_rfl) (fun _ _ _ h => h) (Or.inl ⟨by kernel_rfl, by (intro w hSw; (try dsimp only at hSw); go_simp)⟩) hHeld ?_
  simp only [Act.put, List.setIfInBounds_toArray, List.set_cons_zero, List.set_cons_succ]
  refine wpAnyH_take (i := 3) (oi := { dst := some 8, op := Op.load 176 (Operand.tmp 2), type := 176, pos := "run.go:25", after := #[], guard := none }) (v := .agg #[.int .i64 o.f, .int .i64 o.s]) rfl (by kernel_rfl) (by kernel_rfl) (by kernel_rfl) (fun _ _ _ h => h) (Or.inl ⟨by kernel_rfl, by (intro w hSw; (try dsimp only at hSw); go_simp)⟩) hHeld ?_
  simp only [Act.put, List.setIfInBounds_toArray, List.set_cons_zero, List.set_cons_succ]
  refine wpAnyH_ready (rs := [2]) (by kernel_rfl) (by simp) ?_
  refine AllReadyH.cons (o := { dst := some 7, op := Op.call { callee := Callee.value (Operand.tmp 5), args := #[Operand.tmp 6], argTypes := #[97] }, type := 176, pos := "run.go:25", after := #[{ on := 0, ground := Ground.data }, { on := 1, ground := Ground.data }], guard := none }) rfl (fun K hK => ?_) AllReadyH.nil
  go_simp
  refine (HF.out.call r W.drew).mono ?_
  rintro r w1 ⟨rfl, hKc⟩
  have HO1 : Hid (BI w [(P, [.int .i64 r.page, .int .i64 r.pages, .int .i64 r.frame, .int .i64 r.rights], 97), (F, [.func (.func f) #[] #[]], 178), (O, [.int .i64 o.f, .int .i64 o.s], 176)] w1) := HO.out.kept (((Keeps.refl _ _).drew).trans hKc fun _ _ h => h)
  clear hKc
  refine hK.out _ _ (HS.out _ HO1.out.1) (fun hHeld => ?_)
  simp only [Act.put, List.setIfInBounds_toArray, List.set_cons_zero, List.set_cons_succ]
  refine wpAnyH_ready (rs := [4]) (by kernel_rfl) (by simp) ?_
  refine AllReadyH.cons (o := { dst := some 9, op := Op.call { callee := Callee.value (Operand.func 162), args := #[Operand.tmp 7, Operand.tmp 8], argTypes := #[176, 176] }, type := 4, pos := "run.go:25", after := #[{ on := 2, ground := Ground.data }, { on := 3, ground := Ground.data }, { on := 2, ground := Ground.chain }], guard := none }) rfl (fun K hK => ?_) AllReadyH.nil
  go_simp
  refine (HM.out w1).mono ?_
  rintro r w2 ⟨rfl, hKc⟩
  have HO2 : Hid (BI w [(P, [.int .i64 r.page, .int .i64 r.pages, .int .i64 r.frame, .int .i64 r.rights], 97), (F, [.func (.func f) #[] #[]], 178), (O, [.int .i64 o.f, .int .i64 o.s], 176)] w2) := HO1.out.kept hKc
  clear hKc
  refine hK.out _ _ (HS.out _ HO2.out.1) (fun hHeld => ?_)
  simp only [Act.put, List.setIfInBounds_toArray, List.set_cons_zero, List.set_cons_succ]
  refine wpAnyH_take (i := 5) (oi := { dst := some 4, op := Op.assign (Operand.tmp 9), type := 4, pos := "run.go:25", after := #[{ on := 4, ground := Ground.data }, { on := 4, ground := Ground.chain }, { on := 0, ground := Ground.phase }, { on := 1, ground := Ground.phase }, { on := 2, ground := Ground.phase }, { on := 3, ground := Ground.phase }, { on := 4, ground := Ground.phase }], guard := none }) (v := .bool ((ro r).meets o)) rfl (by kernel_rfl) (by kernel_rfl) (by kernel_rfl) (fun _ _ _ h => h) (Or.inl ⟨by kernel_rfl, by (intro w hSw; (try dsimp only at hSw); go_simp)⟩) hHeld ?_
  simp only [Act.put, List.setIfInBounds_toArray, List.set_cons_zero, List.set_cons_succ]
  refine wpAnyH_done (by kernel_rfl) ?_ _
  clear hHeld
  go_wp2
  go_ret
  exact ⟨rfl, HO2.out.2⟩

theorem anyMeets_any (f : Nat) (ro : Rgn → Rn) (hF : RunOf f ro) (rs : List Rgn) (a : Option Addr) (cap : Nat) (o : Rn) (ho : o.Ok) (hr : ∀ r ∈ rs, (ro r).Ok) (hlen : rs.length ≤ cap ∧ cap ≤ maxLen) (w : World) (hS : SegA Rgn.vs 4 w a rs) :
    Calls Tryz.prog 130 #[.slice a rs.length cap, .func (.func f) #[] #[], o.v] w fun e w' => e = .returned (.bool (rs.any fun r => (ro r).meets o)) ∧ Keeps (fun _ => False) w w' := by
  obtain ⟨W0, hW0⟩ : ∃ W0, W0 = w.alloc (.cells #[.func (.func f) #[] #[]] 178) := ⟨_, rfl⟩
  obtain ⟨W, hW⟩ : ∃ W, W = W0.alloc (.cells #[.int .i64 o.f, .int .i64 o.s] 176) := ⟨_, rfl⟩
  obtain ⟨F, hFe⟩ : ∃ F, F = w.heap.size := ⟨_, rfl⟩
  obtain ⟨O, hO⟩ : ∃ O, O = w.heap.size + 1 := ⟨_, rfl⟩
  have hO0 : O = W0.heap.size := by rw [hO, hW0]; simp
  have hb0 : BI w [(F, [.func (.func f) #[] #[]], 178)] W0 := by rw [hW0, hFe]; exact BI.box (fun b hb => by cases hb) _ _
  have hb1 : BI W0 [(O, [.int .i64 o.f, .int .i64 o.s], 176), (F, [.func (.func f) #[] #[]], 178)] W := by rw [hW, hO0]; exact BI.box hb0.1 _ _
  have kW : Keeps (fun _ => False) w W := hb0.2.trans hb1.2 fun _ _ h => h
  have HC : Hid (Calls Tryz.prog 160 #[.slice a rs.length cap, .func (.func 168) #[] #[.pointer (some ⟨F, 0, none⟩), .pointer (some ⟨O, 0, none⟩)]] W fun e w' => e = .returned (.bool (rs.any fun r => (ro r).meets o)) ∧ Keeps (fun _ => False) W w') := by
    refine containsFunc_rgn rs a cap 168 _ (fun w' => Bls [(F, [.func (.func f) #[] #[]], 178), (O, [.int .i64 o.f, .int .i64 o.s], 176)] w' ∧ SegA Rgn.vs 4 w' a rs) _ (fun args w => enter_fn Tryz.func168 rfl rfl args w) (fun w w' h k => ⟨h.1.kept k, h.2.kept k fun _ _ _ h => h⟩) (fun w h => h.2) hlen (fun r hr1 w' h => ?_) W ⟨fun b hb => ?_, hS.kept kW fun _ _ _ h => h⟩
    · exact meetClo f ro r o F O hF (hr r hr1) ho w' h.1
    · rcases List.mem_cons.1 hb with rfl | hb
      · exact hb1.1 _ (.tail _ (.head _))
      · rcases List.mem_cons.1 hb with rfl | hb
        · exact hb1.1 _ (.head _)
        · cases hb
  have HK : Hid (Keeps (fun _ => False) w W) := kW
  obtain ⟨L, hL⟩ : ∃ L, rs.length = L := ⟨_, rfl⟩
  obtain ⟨B, hB⟩ : ∃ B, (rs.any fun r => (ro r).meets o) = B := ⟨_, rfl⟩
  rw [hL, hB] at HC
  rw [hL, hB]
  clear hL hB kW hb0 hb1 hO0 hS hlen hr ho hF
  go_enter Tryz.func130, Tryz.ntmps130
  go_upto_region 1 with fail
  rw [← hW0, ← hW, ← hO, ← hFe]
  clear hW hW0 hO hFe
  go_wp2_with fail
  refine HC.out.mono ?_
  rintro e w1 ⟨rfl, hK⟩
  have HK1 : Hid (Keeps (fun _ => False) w w1) := HK.out.trans hK fun _ _ h => h
  clear hK HC
  go_wp2
  go_ret
  exact ⟨rfl, HK1.out⟩
end Go.Proofs.YtfbapgcopidbpaaGreat
