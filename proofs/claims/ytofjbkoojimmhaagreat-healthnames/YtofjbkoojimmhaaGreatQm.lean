import Derived.Test.YtofjbkoojimmhaaGreatQl
namespace Go.Proofs.YtofjbkoojimmhaaGreat
open Go.RowKit
set_option linter.unusedVariables false
set_option linter.unusedSimpArgs false
set_option maxRecDepth 6000

theorem Env.sub {x : Cfg} {N : Nat} {L L' : List (Nat × List Value × TypeId)} {w : World} (h : Env x N L w) (hs : ∀ b ∈ L', b ∈ L) : Env x N L' w := ⟨h.cin, h.nn, fun b hb => h.bl b (hs b hb)⟩
theorem Ask.of {f : Nat} {bs : Array Value} {E E' : World → Prop} {g : Flt} (h : Ask f bs E' g) (hE : ∀ w, E w → E' w) : Ask f bs E g := fun w hw => h w (hE w hw)
theorem SegA.take {α : Type} {cells : α → List Value} {k : Nat} {w : World} {a : Option Addr} {xs : List α} (h : SegA cells k w a xs) (n : Nat) : SegA cells k w a (xs.take n) := by
  rcases h with h | ⟨g, o, ha, hc⟩
  · left; rw [h]; simp
  · refine .inr ⟨g, o, ha, fun j x hj => ?_⟩
    rw [List.getElem?_take] at hj
    split at hj
    · exact hc j x hj
    · cases hj
/-- What is asked of a region. -/
def rgnF (x : Cfg) (p : Nat) (P : Par) (i : Nat) (r : Rgn) : List Flt :=
  [unl (r.okB x.frames) ⟨409, p, i⟩,
   unl (!((P.rs.take i).any fun s => s.pg.meets r.pg)) ⟨410, p, i⟩,
   unl (!((P.rs.take i).any fun s => s.fr.meets r.fr)) ⟨411, p, i⟩,
   unl (!((x.ps.take p).any fun Q => Q.rs.any fun s => s.fr.meets r.fr)) ⟨411, p, i⟩]
set_option maxHeartbeats 4000000 in
theorem q78 (x : Cfg) (N : Nat) (p i : Nat) (P : Par) (r : Rgn) (G C A : Nat) (hr : r.Fine) (h1 : 1 ≤ x.frames) (h2 : x.frames ≤ 1024) : Ask 146 #[.pointer (some ⟨G, 0, none⟩), .pointer (some ⟨C, 0, none⟩), .pointer (some ⟨A, 0, none⟩)] (Env x N [(G, [.int .i64 r.page, .int .i64 r.pages, .int .i64 r.frame, .int .i64 r.rights], 156), (C, [.int .i64 x.frames, .int .i64 x.major, .int .i64 x.kernel, .int .i64 x.room, .slice x.ca x.cs.length x.cc, .slice x.pa x.ps.length x.pc, .slice x.ha x.hs.length x.hc], 26), (A, [.int .i64 (p : Int), .int .i64 (i : Int)], 114)]) (unl (r.okB x.frames) ⟨409, p, i⟩) := by
  intro w hE
  have HR : Hid (∀ w, Calls Tryz.prog 147 #[r.v, .int .i64 x.frames] w fun e w' => e = .returned (.bool (r.okB x.frames)) ∧ Keeps (fun _ => False) w w') := fun w => isRegion_any r x.frames hr h1 h2 w
  clear hr h1 h2
  have HEk : Hid (∀ w w', (Env x N [(G, [.int .i64 r.page, .int .i64 r.pages, .int .i64 r.frame, .int .i64 r.rights], 156), (C, [.int .i64 x.frames, .int .i64 x.major, .int .i64 x.kernel, .int .i64 x.room, .slice x.ca x.cs.length x.cc, .slice x.pa x.ps.length x.pc, .slice x.ha x.hs.length x.hc], 26), (A, [.int .i64 (p : Int), .int .i64 (i : Int)], 114)]) w → Keeps (fun _ => False) w w' → (Env x N [(G, [.int .i64 r.page, .int .i64 r.pages, .int .i64 r.frame, .int .i64 r.rights], 156), (C, [.int .i64 x.frames, .int .i64 x.major, .int .i64 x.kernel, .int .i64 x.room, .slice x.ca x.cs.length x.cc, .slice x.pa x.ps.length x.pc, .slice x.ha x.hs.length x.hc], 26), (A, [.int .i64 (p : Int), .int .i64 (i : Int)], 114)]) w') := fun _ _ h k => h.kept k
  have HS : Hid (∀ w', (Env x N [(G, [.int .i64 r.page, .int .i64 r.pages, .int .i64 r.frame, .int .i64 r.rights], 156), (C, [.int .i64 x.frames, .int .i64 x.major, .int .i64 x.kernel, .int .i64 x.room, .slice x.ca x.cs.length x.cc, .slice x.pa x.ps.length x.pc, .slice x.ha x.hs.length x.hc], 26), (A, [.int .i64 (p : Int), .int .i64 (i : Int)], 114)]) w' → (w'.cell? ⟨G, 0, none⟩ = some (.int .i64 r.page) ∧ w'.cell? ⟨G, 1, none⟩ = some (.int .i64 r.pages) ∧ w'.cell? ⟨G, 2, none⟩ = some (.int .i64 r.frame) ∧ w'.cell? ⟨G, 3, none⟩ = some (.int .i64 r.rights) ∧ w'.cell? ⟨C, 0, none⟩ = some (.int .i64 x.frames) ∧ w'.cell? ⟨C, 1, none⟩ = some (.int .i64 x.major) ∧ w'.cell? ⟨C, 2, none⟩ = some (.int .i64 x.kernel) ∧ w'.cell? ⟨C, 3, none⟩ = some (.int .i64 x.room) ∧ w'.cell? ⟨C, 4, none⟩ = some (.slice x.ca x.cs.length x.cc) ∧ w'.cell? ⟨C, 5, none⟩ = some (.slice x.pa x.ps.length x.pc) ∧ w'.cell? ⟨C, 6, none⟩ = some (.slice x.ha x.hs.length x.hc) ∧ w'.cell? ⟨A, 0, none⟩ = some (.int .i64 (p : Int)) ∧ w'.cell? ⟨A, 1, none⟩ = some (.int .i64 (i : Int)))) := fun w' h => ⟨(h.bl _ (.head _)).cell (i := 0) rfl, (h.bl _ (.head _)).cell (i := 1) rfl, (h.bl _ (.head _)).cell (i := 2) rfl, (h.bl _ (.head _)).cell (i := 3) rfl, (h.bl _ (.tail _ (.head _))).cell (i := 0) rfl, (h.bl _ (.tail _ (.head _))).cell (i := 1) rfl, (h.bl _ (.tail _ (.head _))).cell (i := 2) rfl, (h.bl _ (.tail _ (.head _))).cell (i := 3) rfl, (h.bl _ (.tail _ (.head _))).cell (i := 4) rfl, (h.bl _ (.tail _ (.head _))).cell (i := 5) rfl, (h.bl _ (.tail _ (.head _))).cell (i := 6) rfl, (h.bl _ (.tail _ (.tail _ (.head _)))).cell (i := 0) rfl, (h.bl _ (.tail _ (.tail _ (.head _)))).cell (i := 1) rfl⟩
  obtain ⟨W, hW⟩ : ∃ W, W = w.alloc (.cells #[.int .i64 0, .int .i64 0, .int .i64 0] 140) := ⟨_, rfl⟩
  obtain ⟨R, hR⟩ : ∃ R, R = w.heap.size := ⟨_, rfl⟩
  have HO : Hid (ObI w (Env x N [(G, [.int .i64 r.page, .int .i64 r.pages, .int .i64 r.frame, .int .i64 r.rights], 156), (C, [.int .i64 x.frames, .int .i64 x.major, .int .i64 x.kernel, .int .i64 x.room, .slice x.ca x.cs.length x.cc, .slice x.pa x.ps.length x.pc, .slice x.ha x.hs.length x.hc], 26), (A, [.int .i64 (p : Int), .int .i64 (i : Int)], 114)]) R W) := by rw [hW, hR]; exact ⟨hE.kept ((Keeps.refl _ _).alloc _), Blk.new _ _ _, (Keeps.refl _ _).alloc _, Nat.le_refl _⟩
  have HE0 : Hid ((Env x N [(G, [.int .i64 r.page, .int .i64 r.pages, .int .i64 r.frame, .int .i64 r.rights], 156), (C, [.int .i64 x.frames, .int .i64 x.major, .int .i64 x.kernel, .int .i64 x.room, .slice x.ca x.cs.length x.cc, .slice x.pa x.ps.length x.pc, .slice x.ha x.hs.length x.hc], 26), (A, [.int .i64 (p : Int), .int .i64 (i : Int)], 114)]) w) := hE
  clear hE
  go_enter Tryz.func146, Tryz.ntmps146
  go_upto_region 1 with fail
  rw [← hW, ← hR]
  clear hW hR
  refine wp_region_held_drew (S := (fun w' => w'.cell? ⟨G, 0, none⟩ = some (.int .i64 r.page) ∧ w'.cell? ⟨G, 1, none⟩ = some (.int .i64 r.pages) ∧ w'.cell? ⟨G, 2, none⟩ = some (.int .i64 r.frame) ∧ w'.cell? ⟨G, 3, none⟩ = some (.int .i64 r.rights) ∧ w'.cell? ⟨C, 0, none⟩ = some (.int .i64 x.frames) ∧ w'.cell? ⟨C, 1, none⟩ = some (.int .i64 x.major) ∧ w'.cell? ⟨C, 2, none⟩ = some (.int .i64 x.kernel) ∧ w'.cell? ⟨C, 3, none⟩ = some (.int .i64 x.room) ∧ w'.cell? ⟨C, 4, none⟩ = some (.slice x.ca x.cs.length x.cc) ∧ w'.cell? ⟨C, 5, none⟩ = some (.slice x.pa x.ps.length x.pc) ∧ w'.cell? ⟨C, 6, none⟩ = some (.slice x.ha x.hs.length x.hc) ∧ w'.cell? ⟨A, 0, none⟩ = some (.int .i64 (p : Int)) ∧ w'.cell? ⟨A, 1, none⟩ = some (.int .i64 (i : Int)))) Tryz.mixd (HS.out _ (HO.out.env.kept ((Keeps.refl _ _).drew))) (fun hHeld => ?_)
  simp only [List.size_toArray, List.length_cons, List.length_nil, Nat.reduceAdd, Array.replicate_succ, Array.replicate_zero, List.push_toArray, List.append_toArray, List.nil_append, List.cons_append]
  refine wpAnyH_take (i := 0) (oi := { dst := some 4, op := Op.load 156 (Operand.tmp 0), type := 156, pos := "partition.go:44", after := #[], guard := none }) (v := .agg #[.int .i64 r.page, .int .i64 r.pages, .int .i64 r.frame, .int .i64 r.rights]) rfl (by kernel_rfl) (by kernel_rfl) (by kernel_rfl) (fun _ _ _ h => h) (Or.inl ⟨by kernel_rfl, by (intro w hSw; (try dsimp only at hSw); go_simp)⟩) hHeld ?_
  simp only [Act.put, List.setIfInBounds_toArray, List.set_cons_zero, List.set_cons_succ]
  refine wpAnyH_take (i := 1) (oi := { dst := some 5, op := Op.fieldAddr 26 (Operand.tmp 1) 0, type := 0, pos := "partition.go:44", after := #[], guard := none }) (v := .pointer (some ⟨C, 0, none⟩)) rfl (by kernel_rfl) (by kernel_rfl) (by kernel_rfl) (fun _ _ _ h => h) (Or.inl ⟨by kernel_rfl, by (intro w hSw; (try dsimp only at hSw); go_simp)⟩) hHeld ?_
  simp only [Act.put, List.setIfInBounds_toArray, List.set_cons_zero, List.set_cons_succ]
  refine wpAnyH_take (i := 2) (oi := { dst := some 6, op := Op.load 3 (Operand.tmp 5), type := 3, pos := "partition.go:44", after := #[{ on := 1, ground := Ground.data }], guard := none }) (v := .int .i64 x.frames) rfl (by kernel_rfl) (by kernel_rfl) (by kernel_rfl) (fun _ _ _ h => h) (Or.inl ⟨by kernel_rfl, by (intro w hSw; (try dsimp only at hSw); go_simp)⟩) hHeld ?_
  simp only [Act.put, List.setIfInBounds_toArray, List.set_cons_zero, List.set_cons_succ]
  refine wpAnyH_take (i := 4) (oi := { dst := some 8, op := Op.load 114 (Operand.tmp 2), type := 114, pos := "partition.go:44", after := #[], guard := none }) (v := .agg #[.int .i64 (p : Int), .int .i64 (i : Int)]) rfl (by kernel_rfl) (by kernel_rfl) (by kernel_rfl) (fun _ _ _ h => h) (Or.inl ⟨by kernel_rfl, by (intro w hSw; (try dsimp only at hSw); go_simp)⟩) hHeld ?_
  simp only [Act.put, List.setIfInBounds_toArray, List.set_cons_zero, List.set_cons_succ]
  refine wpAnyH_ready (rs := [3]) (by kernel_rfl) (by simp) ?_
  refine AllReadyH.cons (o := { dst := some 7, op := Op.call { callee := Callee.value (Operand.func 147), args := #[Operand.tmp 4, Operand.tmp 6], argTypes := #[156, 3] }, type := 4, pos := "partition.go:44", after := #[{ on := 0, ground := Ground.data }, { on := 2, ground := Ground.data }], guard := none }) rfl (fun K hK => ?_) AllReadyH.nil
  go_simp
  refine (HR.out W.drew).mono ?_
  rintro r w1 ⟨rfl, hKc⟩
  have HO1 : Hid (ObI w (Env x N [(G, [.int .i64 r.page, .int .i64 r.pages, .int .i64 r.frame, .int .i64 r.rights], 156), (C, [.int .i64 x.frames, .int .i64 x.major, .int .i64 x.kernel, .int .i64 x.room, .slice x.ca x.cs.length x.cc, .slice x.pa x.ps.length x.pc, .slice x.ha x.hs.length x.hc], 26), (A, [.int .i64 (p : Int), .int .i64 (i : Int)], 114)]) R w1) := HO.out.kept HEk.out (((Keeps.refl _ _).drew).trans hKc fun _ _ h => h)
  clear hKc
  refine hK.out _ _ (HS.out _ HO1.out.env) (fun hHeld => ?_)
  simp only [Act.put, List.setIfInBounds_toArray, List.set_cons_zero, List.set_cons_succ]
  refine wpAnyH_ready (rs := [5]) (by kernel_rfl) (by simp) ?_
  refine AllReadyH.cons (o := { dst := some 9, op := Op.call { callee := Callee.value (Operand.func 65), args := #[Operand.tmp 7, Operand.const (Value.int IntKind.i64 409), Operand.tmp 8], argTypes := #[4, 46, 114] }, type := 140, pos := "partition.go:44", after := #[{ on := 3, ground := Ground.data }, { on := 4, ground := Ground.data }, { on := 3, ground := Ground.chain }], guard := none }) rfl (fun K hK => ?_) AllReadyH.nil
  go_simp
  refine (unless_any (r.okB x.frames) 409 p i w1).mono ?_
  rintro r w2 ⟨rfl, hKc⟩
  have HO2 : Hid (ObI w (Env x N [(G, [.int .i64 r.page, .int .i64 r.pages, .int .i64 r.frame, .int .i64 r.rights], 156), (C, [.int .i64 x.frames, .int .i64 x.major, .int .i64 x.kernel, .int .i64 x.room, .slice x.ca x.cs.length x.cc, .slice x.pa x.ps.length x.pc, .slice x.ha x.hs.length x.hc], 26), (A, [.int .i64 (p : Int), .int .i64 (i : Int)], 114)]) R w2) := HO1.out.kept HEk.out hKc
  clear hKc
  obtain ⟨Gz, hG⟩ : ∃ Gz : Flt, unl (r.okB x.frames) ⟨409, p, i⟩ = Gz := ⟨_, rfl⟩
  rw [hG]
  have HG : Hid (unl (r.okB x.frames) ⟨409, p, i⟩ = Gz) := hG
  clear hG
  refine hK.out _ _ (HS.out _ HO2.out.env) (fun hHeld => ?_)
  simp only [Act.put, List.setIfInBounds_toArray, List.set_cons_zero, List.set_cons_succ]
  refine wpAnyH_ready (rs := [6]) (by kernel_rfl) (by simp) ?_
  refine AllReadyH.cons (o := { dst := none, op := Op.store 140 (Operand.tmp 3) (Operand.tmp 9), type := 0, pos := "partition.go:44", after := #[{ on := 5, ground := Ground.data }, { on := 5, ground := Ground.chain }, { on := 0, ground := Ground.phase }, { on := 1, ground := Ground.phase }, { on := 2, ground := Ground.phase }, { on := 3, ground := Ground.phase }, { on := 4, ground := Ground.phase }, { on := 5, ground := Ground.phase }], guard := none }) rfl (fun K hK => ?_) AllReadyH.nil
  refine wp_store_row 140 _ _ rfl R #[.int .i64 Gz.n, .int .i64 Gz.a, .int .i64 Gz.b] (by rfl) (by rfl) 140 _ HO2.out.ans Tryz.size140 rfl (all53 ..) ?_
  obtain ⟨W5, hW5⟩ : ∃ W5, W5 = w2.setRow R #[.int .i64 Gz.n, .int .i64 Gz.a, .int .i64 Gz.b] := ⟨_, rfl⟩
  have hB5 : Blk W5 R [.int .i64 Gz.n, .int .i64 Gz.a, .int .i64 Gz.b] 140 := by rw [hW5]; exact HO2.out.ans.setRow _
  have k5 : Keeps (fun k => k = R) w2 W5 := by rw [hW5]; exact (Keeps.refl _ _).setRow _ _ fun _ => rfl
  have hlo := HO.out.lo
  have HO5 : Hid (Blk W5 R [.int .i64 Gz.n, .int .i64 Gz.a, .int .i64 Gz.b] 140 ∧ Keeps (fun _ => False) w W5) := ⟨hB5, HO2.out.keeps.trans k5 fun k hk e => by omega⟩
  have HE5 : Hid ((Env x N [(G, [.int .i64 r.page, .int .i64 r.pages, .int .i64 r.frame, .int .i64 r.rights], 156), (C, [.int .i64 x.frames, .int .i64 x.major, .int .i64 x.kernel, .int .i64 x.room, .slice x.ca x.cs.length x.cc, .slice x.pa x.ps.length x.pc, .slice x.ha x.hs.length x.hc], 26), (A, [.int .i64 (p : Int), .int .i64 (i : Int)], 114)]) W5) := Env.kept' (HE0.out) HO2.out.env hlo k5
  rw [← hW5]
  clear hW5 hB5 k5 hlo
  refine hK.out _ _ (HS.out _ HE5.out) (fun hHeld => ?_)
  simp only [Act.put, List.setIfInBounds_toArray, List.set_cons_zero, List.set_cons_succ]
  refine wpAnyH_done (by kernel_rfl) ?_ _
  clear hHeld
  go_wp2
  (try simp only [Exit.inBlock, Exit.then])
  refine bodyPost_ret (results_cell_row rfl _ _ R 140 _ (0, 0) _ rfl HO5.out.1 Tryz.underlying140 rfl (by kernel_rfl)) rfl ?_
  exact ⟨by rw [HG.out], HO5.out.2⟩
set_option maxHeartbeats 4000000 in
theorem q80 (x : Cfg) (N : Nat) (p i : Nat) (P : Par) (r : Rgn) (H G A : Nat) (hP : P ∈ x.ps) (hi : i ≤ P.rs.length) (hr : r.pg.Ok) (hs : ∀ s ∈ P.rs.take i, s.pg.Ok) : Ask 148 #[.pointer (some ⟨H, 0, none⟩), .pointer (some ⟨G, 0, none⟩), .pointer (some ⟨A, 0, none⟩)] (Env x N [(H, [.slice P.ra i P.rc], 32), (G, [.int .i64 r.page, .int .i64 r.pages, .int .i64 r.frame, .int .i64 r.rights], 156), (A, [.int .i64 (p : Int), .int .i64 (i : Int)], 114)]) (unl (!((P.rs.take i).any fun s => s.pg.meets r.pg)) ⟨410, p, i⟩) := by
  intro w hE
  have HM : Hid (∀ w, Env x N [(H, [.slice P.ra i P.rc], 32), (G, [.int .i64 r.page, .int .i64 r.pages, .int .i64 r.frame, .int .i64 r.rights], 156), (A, [.int .i64 (p : Int), .int .i64 (i : Int)], 114)] w → Calls Tryz.prog 131 #[.slice P.ra i P.rc, .func (.func 149) #[] #[], r.pg.v] w fun e w' => e = .returned (.bool ((P.rs.take i).any fun s => s.pg.meets r.pg)) ∧ Keeps (fun _ => False) w w') := fun w hE => by
    have hPi := hE.cin.pin P hP
    have hl : (P.rs.take i).length = i := by rw [List.length_take]; omega
    have := anyMeets_any 149 Rgn.pg run_pages (P.rs.take i) P.ra P.rc r.pg hr hs (by rw [hl]; have := hPi.rlen; omega) w (hPi.rseg.take i)
    rw [hl] at this
    exact this
  clear hP hi hr hs
  have HEk : Hid (∀ w w', (Env x N [(H, [.slice P.ra i P.rc], 32), (G, [.int .i64 r.page, .int .i64 r.pages, .int .i64 r.frame, .int .i64 r.rights], 156), (A, [.int .i64 (p : Int), .int .i64 (i : Int)], 114)]) w → Keeps (fun _ => False) w w' → (Env x N [(H, [.slice P.ra i P.rc], 32), (G, [.int .i64 r.page, .int .i64 r.pages, .int .i64 r.frame, .int .i64 r.rights], 156), (A, [.int .i64 (p : Int), .int .i64 (i : Int)], 114)]) w') := fun _ _ h k => h.kept k
  have HS : Hid (∀ w', (Env x N [(H, [.slice P.ra i P.rc], 32), (G, [.int .i64 r.page, .int .i64 r.pages, .int .i64 r.frame, .int .i64 r.rights], 156), (A, [.int .i64 (p : Int), .int .i64 (i : Int)], 114)]) w' → (w'.cell? ⟨H, 0, none⟩ = some (.slice P.ra i P.rc) ∧ w'.cell? ⟨G, 0, none⟩ = some (.int .i64 r.page) ∧ w'.cell? ⟨G, 1, none⟩ = some (.int .i64 r.pages) ∧ w'.cell? ⟨G, 2, none⟩ = some (.int .i64 r.frame) ∧ w'.cell? ⟨G, 3, none⟩ = some (.int .i64 r.rights) ∧ w'.cell? ⟨A, 0, none⟩ = some (.int .i64 (p : Int)) ∧ w'.cell? ⟨A, 1, none⟩ = some (.int .i64 (i : Int)))) := fun w' h => ⟨(h.bl _ (.head _)).cell (i := 0) rfl, (h.bl _ (.tail _ (.head _))).cell (i := 0) rfl, (h.bl _ (.tail _ (.head _))).cell (i := 1) rfl, (h.bl _ (.tail _ (.head _))).cell (i := 2) rfl, (h.bl _ (.tail _ (.head _))).cell (i := 3) rfl, (h.bl _ (.tail _ (.tail _ (.head _)))).cell (i := 0) rfl, (h.bl _ (.tail _ (.tail _ (.head _)))).cell (i := 1) rfl⟩
  obtain ⟨W, hW⟩ : ∃ W, W = w.alloc (.cells #[.int .i64 0, .int .i64 0, .int .i64 0] 140) := ⟨_, rfl⟩
  obtain ⟨R, hR⟩ : ∃ R, R = w.heap.size := ⟨_, rfl⟩
  have HO : Hid (ObI w (Env x N [(H, [.slice P.ra i P.rc], 32), (G, [.int .i64 r.page, .int .i64 r.pages, .int .i64 r.frame, .int .i64 r.rights], 156), (A, [.int .i64 (p : Int), .int .i64 (i : Int)], 114)]) R W) := by rw [hW, hR]; exact ⟨hE.kept ((Keeps.refl _ _).alloc _), Blk.new _ _ _, (Keeps.refl _ _).alloc _, Nat.le_refl _⟩
  have HE0 : Hid ((Env x N [(H, [.slice P.ra i P.rc], 32), (G, [.int .i64 r.page, .int .i64 r.pages, .int .i64 r.frame, .int .i64 r.rights], 156), (A, [.int .i64 (p : Int), .int .i64 (i : Int)], 114)]) w) := hE
  clear hE
  go_enter Tryz.func148, Tryz.ntmps148
  go_upto_region 1 with fail
  rw [← hW, ← hR]
  clear hW hR
  refine wp_region_held_drew (S := (fun w' => w'.cell? ⟨H, 0, none⟩ = some (.slice P.ra i P.rc) ∧ w'.cell? ⟨G, 0, none⟩ = some (.int .i64 r.page) ∧ w'.cell? ⟨G, 1, none⟩ = some (.int .i64 r.pages) ∧ w'.cell? ⟨G, 2, none⟩ = some (.int .i64 r.frame) ∧ w'.cell? ⟨G, 3, none⟩ = some (.int .i64 r.rights) ∧ w'.cell? ⟨A, 0, none⟩ = some (.int .i64 (p : Int)) ∧ w'.cell? ⟨A, 1, none⟩ = some (.int .i64 (i : Int)))) Tryz.mixd (HS.out _ (HO.out.env.kept ((Keeps.refl _ _).drew))) (fun hHeld => ?_)
  simp only [List.size_toArray, List.length_cons, List.length_nil, Nat.reduceAdd, Array.replicate_succ, Array.replicate_zero, List.push_toArray, List.append_toArray, List.nil_append, List.cons_append]
  refine wpAnyH_take (i := 0) (oi := { dst := some 4, op := Op.load 32 (Operand.tmp 0), type := 32, pos := "partition.go:45", after := #[], guard := none }) (v := .slice P.ra i P.rc) rfl (by kernel_rfl) (by kernel_rfl) (by kernel_rfl) (fun _ _ _ h => h) (Or.inl ⟨by kernel_rfl, by (intro w hSw; (try dsimp only at hSw); go_simp)⟩) hHeld ?_
  simp only [Act.put, List.setIfInBounds_toArray, List.set_cons_zero, List.set_cons_succ]
  refine wpAnyH_take (i := 1) (oi := { dst := some 5, op := Op.load 156 (Operand.tmp 1), type := 156, pos := "partition.go:45", after := #[], guard := none }) (v := .agg #[.int .i64 r.page, .int .i64 r.pages, .int .i64 r.frame, .int .i64 r.rights]) rfl (by kernel_rfl) (by kernel_rfl) (by kernel_rfl) (fun _ _ _ h => h) (Or.inl ⟨by kernel_rfl, by (intro w hSw; (try dsimp only at hSw); go_simp)⟩) hHeld ?_
  simp only [Act.put, List.setIfInBounds_toArray, List.set_cons_zero, List.set_cons_succ]
  refine wpAnyH_take (i := 5) (oi := { dst := some 9, op := Op.load 114 (Operand.tmp 2), type := 114, pos := "partition.go:45", after := #[], guard := none }) (v := .agg #[.int .i64 (p : Int), .int .i64 (i : Int)]) rfl (by kernel_rfl) (by kernel_rfl) (by kernel_rfl) (fun _ _ _ h => h) (Or.inl ⟨by kernel_rfl, by (intro w hSw; (try dsimp only at hSw); go_simp)⟩) hHeld ?_
  simp only [Act.put, List.setIfInBounds_toArray, List.set_cons_zero, List.set_cons_succ]
  refine wpAnyH_ready (rs := [2]) (by kernel_rfl) (by simp) ?_
  refine AllReadyH.cons (o := { dst := some 6, op := Op.call { callee := Callee.value (Operand.func 149), args := #[Operand.tmp 5], argTypes := #[156] }, type := 188, pos := "partition.go:45", after := #[{ on := 1, ground := Ground.data }], guard := none }) rfl (fun K hK => ?_) AllReadyH.nil
  go_simp
  refine (pagesOf_any r W.drew).mono ?_
  rintro r w1 ⟨rfl, hKc⟩
  have HO1 : Hid (ObI w (Env x N [(H, [.slice P.ra i P.rc], 32), (G, [.int .i64 r.page, .int .i64 r.pages, .int .i64 r.frame, .int .i64 r.rights], 156), (A, [.int .i64 (p : Int), .int .i64 (i : Int)], 114)]) R w1) := HO.out.kept HEk.out (((Keeps.refl _ _).drew).trans hKc fun _ _ h => h)
  clear hKc
  refine hK.out _ _ (HS.out _ HO1.out.env) (fun hHeld => ?_)
  simp only [Act.put, List.setIfInBounds_toArray, List.set_cons_zero, List.set_cons_succ]
  refine wpAnyH_ready (rs := [3]) (by kernel_rfl) (by simp) ?_
  refine AllReadyH.cons (o := { dst := some 7, op := Op.call { callee := Callee.value (Operand.func 131), args := #[Operand.tmp 4, Operand.func 149, Operand.tmp 6], argTypes := #[32, 190, 188] }, type := 4, pos := "partition.go:45", after := #[{ on := 0, ground := Ground.data }, { on := 2, ground := Ground.data }, { on := 2, ground := Ground.chain }], guard := none }) rfl (fun K hK => ?_) AllReadyH.nil
  go_simp
  refine (HM.out w1 HO1.out.env).mono ?_
  rintro r w2 ⟨rfl, hKc⟩
  have HO2 : Hid (ObI w (Env x N [(H, [.slice P.ra i P.rc], 32), (G, [.int .i64 r.page, .int .i64 r.pages, .int .i64 r.frame, .int .i64 r.rights], 156), (A, [.int .i64 (p : Int), .int .i64 (i : Int)], 114)]) R w2) := HO1.out.kept HEk.out hKc
  clear hKc
  refine hK.out _ _ (HS.out _ HO2.out.env) (fun hHeld => ?_)
  simp only [Act.put, List.setIfInBounds_toArray, List.set_cons_zero, List.set_cons_succ]
  refine wpAnyH_take (i := 4) (oi := { dst := some 8, op := Op.unOp UnOp.not 4 (Operand.tmp 7), type := 4, pos := "partition.go:45", after := #[{ on := 3, ground := Ground.data }], guard := none }) (v := .bool (!((P.rs.take i).any fun s => s.pg.meets r.pg))) rfl (by kernel_rfl) (by kernel_rfl) (by kernel_rfl) (fun _ _ _ h => h) (Or.inl ⟨by kernel_rfl, by (intro w hSw; (try dsimp only at hSw); go_simp)⟩) hHeld ?_
  simp only [Act.put, List.setIfInBounds_toArray, List.set_cons_zero, List.set_cons_succ]
  refine wpAnyH_ready (rs := [6]) (by kernel_rfl) (by simp) ?_
  refine AllReadyH.cons (o := { dst := some 10, op := Op.call { callee := Callee.value (Operand.func 65), args := #[Operand.tmp 8, Operand.const (Value.int IntKind.i64 410), Operand.tmp 9], argTypes := #[4, 46, 114] }, type := 140, pos := "partition.go:45", after := #[{ on := 4, ground := Ground.data }, { on := 5, ground := Ground.data }, { on := 3, ground := Ground.chain }], guard := none }) rfl (fun K hK => ?_) AllReadyH.nil
  go_simp
  refine (unless_any (!((P.rs.take i).any fun s => s.pg.meets r.pg)) 410 p i w2).mono ?_
  rintro r w3 ⟨rfl, hKc⟩
  have HO3 : Hid (ObI w (Env x N [(H, [.slice P.ra i P.rc], 32), (G, [.int .i64 r.page, .int .i64 r.pages, .int .i64 r.frame, .int .i64 r.rights], 156), (A, [.int .i64 (p : Int), .int .i64 (i : Int)], 114)]) R w3) := HO2.out.kept HEk.out hKc
  clear hKc
  obtain ⟨Gz, hG⟩ : ∃ Gz : Flt, unl (!((P.rs.take i).any fun s => s.pg.meets r.pg)) ⟨410, p, i⟩ = Gz := ⟨_, rfl⟩
  rw [hG]
  have HG : Hid (unl (!((P.rs.take i).any fun s => s.pg.meets r.pg)) ⟨410, p, i⟩ = Gz) := hG
  clear hG
  refine hK.out _ _ (HS.out _ HO3.out.env) (fun hHeld => ?_)
  simp only [Act.put, List.setIfInBounds_toArray, List.set_cons_zero, List.set_cons_succ]
  refine wpAnyH_ready (rs := [7]) (by kernel_rfl) (by simp) ?_
  refine AllReadyH.cons (o := { dst := none, op := Op.store 140 (Operand.tmp 3) (Operand.tmp 10), type := 0, pos := "partition.go:45", after := #[{ on := 6, ground := Ground.data }, { on := 6, ground := Ground.chain }, { on := 0, ground := Ground.phase }, { on := 1, ground := Ground.phase }, { on := 2, ground := Ground.phase }, { on := 3, ground := Ground.phase }, { on := 4, ground := Ground.phase }, { on := 5, ground := Ground.phase }, { on := 6, ground := Ground.phase }], guard := none }) rfl (fun K hK => ?_) AllReadyH.nil
  refine wp_store_row 140 _ _ rfl R #[.int .i64 Gz.n, .int .i64 Gz.a, .int .i64 Gz.b] (by rfl) (by rfl) 140 _ HO3.out.ans Tryz.size140 rfl (all53 ..) ?_
  obtain ⟨W5, hW5⟩ : ∃ W5, W5 = w3.setRow R #[.int .i64 Gz.n, .int .i64 Gz.a, .int .i64 Gz.b] := ⟨_, rfl⟩
  have hB5 : Blk W5 R [.int .i64 Gz.n, .int .i64 Gz.a, .int .i64 Gz.b] 140 := by rw [hW5]; exact HO3.out.ans.setRow _
  have k5 : Keeps (fun k => k = R) w3 W5 := by rw [hW5]; exact (Keeps.refl _ _).setRow _ _ fun _ => rfl
  have hlo := HO.out.lo
  have HO5 : Hid (Blk W5 R [.int .i64 Gz.n, .int .i64 Gz.a, .int .i64 Gz.b] 140 ∧ Keeps (fun _ => False) w W5) := ⟨hB5, HO3.out.keeps.trans k5 fun k hk e => by omega⟩
  have HE5 : Hid ((Env x N [(H, [.slice P.ra i P.rc], 32), (G, [.int .i64 r.page, .int .i64 r.pages, .int .i64 r.frame, .int .i64 r.rights], 156), (A, [.int .i64 (p : Int), .int .i64 (i : Int)], 114)]) W5) := Env.kept' (HE0.out) HO3.out.env hlo k5
  rw [← hW5]
  clear hW5 hB5 k5 hlo
  refine hK.out _ _ (HS.out _ HE5.out) (fun hHeld => ?_)
  simp only [Act.put, List.setIfInBounds_toArray, List.set_cons_zero, List.set_cons_succ]
  refine wpAnyH_done (by kernel_rfl) ?_ _
  clear hHeld
  go_wp2
  (try simp only [Exit.inBlock, Exit.then])
  refine bodyPost_ret (results_cell_row rfl _ _ R 140 _ (0, 0) _ rfl HO5.out.1 Tryz.underlying140 rfl (by kernel_rfl)) rfl ?_
  exact ⟨by rw [HG.out], HO5.out.2⟩
set_option maxHeartbeats 4000000 in
theorem q82 (x : Cfg) (N : Nat) (p i : Nat) (P : Par) (r : Rgn) (H G A : Nat) (hP : P ∈ x.ps) (hi : i ≤ P.rs.length) (hr : r.fr.Ok) (hs : ∀ s ∈ P.rs.take i, s.fr.Ok) : Ask 150 #[.pointer (some ⟨H, 0, none⟩), .pointer (some ⟨G, 0, none⟩), .pointer (some ⟨A, 0, none⟩)] (Env x N [(H, [.slice P.ra i P.rc], 32), (G, [.int .i64 r.page, .int .i64 r.pages, .int .i64 r.frame, .int .i64 r.rights], 156), (A, [.int .i64 (p : Int), .int .i64 (i : Int)], 114)]) (unl (!((P.rs.take i).any fun s => s.fr.meets r.fr)) ⟨411, p, i⟩) := by
  intro w hE
  have HM : Hid (∀ w, Env x N [(H, [.slice P.ra i P.rc], 32), (G, [.int .i64 r.page, .int .i64 r.pages, .int .i64 r.frame, .int .i64 r.rights], 156), (A, [.int .i64 (p : Int), .int .i64 (i : Int)], 114)] w → Calls Tryz.prog 131 #[.slice P.ra i P.rc, .func (.func 132) #[] #[], r.fr.v] w fun e w' => e = .returned (.bool ((P.rs.take i).any fun s => s.fr.meets r.fr)) ∧ Keeps (fun _ => False) w w') := fun w hE => by
    have hPi := hE.cin.pin P hP
    have hl : (P.rs.take i).length = i := by rw [List.length_take]; omega
    have := anyMeets_any 132 Rgn.fr run_frames (P.rs.take i) P.ra P.rc r.fr hr hs (by rw [hl]; have := hPi.rlen; omega) w (hPi.rseg.take i)
    rw [hl] at this
    exact this
  clear hP hi hr hs
  have HEk : Hid (∀ w w', (Env x N [(H, [.slice P.ra i P.rc], 32), (G, [.int .i64 r.page, .int .i64 r.pages, .int .i64 r.frame, .int .i64 r.rights], 156), (A, [.int .i64 (p : Int), .int .i64 (i : Int)], 114)]) w → Keeps (fun _ => False) w w' → (Env x N [(H, [.slice P.ra i P.rc], 32), (G, [.int .i64 r.page, .int .i64 r.pages, .int .i64 r.frame, .int .i64 r.rights], 156), (A, [.int .i64 (p : Int), .int .i64 (i : Int)], 114)]) w') := fun _ _ h k => h.kept k
  have HS : Hid (∀ w', (Env x N [(H, [.slice P.ra i P.rc], 32), (G, [.int .i64 r.page, .int .i64 r.pages, .int .i64 r.frame, .int .i64 r.rights], 156), (A, [.int .i64 (p : Int), .int .i64 (i : Int)], 114)]) w' → (w'.cell? ⟨H, 0, none⟩ = some (.slice P.ra i P.rc) ∧ w'.cell? ⟨G, 0, none⟩ = some (.int .i64 r.page) ∧ w'.cell? ⟨G, 1, none⟩ = some (.int .i64 r.pages) ∧ w'.cell? ⟨G, 2, none⟩ = some (.int .i64 r.frame) ∧ w'.cell? ⟨G, 3, none⟩ = some (.int .i64 r.rights) ∧ w'.cell? ⟨A, 0, none⟩ = some (.int .i64 (p : Int)) ∧ w'.cell? ⟨A, 1, none⟩ = some (.int .i64 (i : Int)))) := fun w' h => ⟨(h.bl _ (.head _)).cell (i := 0) rfl, (h.bl _ (.tail _ (.head _))).cell (i := 0) rfl, (h.bl _ (.tail _ (.head _))).cell (i := 1) rfl, (h.bl _ (.tail _ (.head _))).cell (i := 2) rfl, (h.bl _ (.tail _ (.head _))).cell (i := 3) rfl, (h.bl _ (.tail _ (.tail _ (.head _)))).cell (i := 0) rfl, (h.bl _ (.tail _ (.tail _ (.head _)))).cell (i := 1) rfl⟩
  obtain ⟨W, hW⟩ : ∃ W, W = w.alloc (.cells #[.int .i64 0, .int .i64 0, .int .i64 0] 140) := ⟨_, rfl⟩
  obtain ⟨R, hR⟩ : ∃ R, R = w.heap.size := ⟨_, rfl⟩
  have HO : Hid (ObI w (Env x N [(H, [.slice P.ra i P.rc], 32), (G, [.int .i64 r.page, .int .i64 r.pages, .int .i64 r.frame, .int .i64 r.rights], 156), (A, [.int .i64 (p : Int), .int .i64 (i : Int)], 114)]) R W) := by rw [hW, hR]; exact ⟨hE.kept ((Keeps.refl _ _).alloc _), Blk.new _ _ _, (Keeps.refl _ _).alloc _, Nat.le_refl _⟩
  have HE0 : Hid ((Env x N [(H, [.slice P.ra i P.rc], 32), (G, [.int .i64 r.page, .int .i64 r.pages, .int .i64 r.frame, .int .i64 r.rights], 156), (A, [.int .i64 (p : Int), .int .i64 (i : Int)], 114)]) w) := hE
  clear hE
  go_enter Tryz.func150, Tryz.ntmps150
  go_upto_region 1 with fail
  rw [← hW, ← hR]
  clear hW hR
  refine wp_region_held_drew (S := (fun w' => w'.cell? ⟨H, 0, none⟩ = some (.slice P.ra i P.rc) ∧ w'.cell? ⟨G, 0, none⟩ = some (.int .i64 r.page) ∧ w'.cell? ⟨G, 1, none⟩ = some (.int .i64 r.pages) ∧ w'.cell? ⟨G, 2, none⟩ = some (.int .i64 r.frame) ∧ w'.cell? ⟨G, 3, none⟩ = some (.int .i64 r.rights) ∧ w'.cell? ⟨A, 0, none⟩ = some (.int .i64 (p : Int)) ∧ w'.cell? ⟨A, 1, none⟩ = some (.int .i64 (i : Int)))) Tryz.mixd (HS.out _ (HO.out.env.kept ((Keeps.refl _ _).drew))) (fun hHeld => ?_)
  simp only [List.size_toArray, List.length_cons, List.length_nil, Nat.reduceAdd, Array.replicate_succ, Array.replicate_zero, List.push_toArray, List.append_toArray, List.nil_append, List.cons_append]
  refine wpAnyH_take (i := 0) (oi := { dst := some 4, op := Op.load 32 (Operand.tmp 0), type := 32, pos := "partition.go:46", after := #[], guard := none }) (v := .slice P.ra i P.rc) rfl (by kernel_rfl) (by kernel_rfl) (by kernel_rfl) (fun _ _ _ h => h) (Or.inl ⟨by kernel_rfl, by (intro w hSw; (try dsimp only at hSw); go_simp)⟩) hHeld ?_
  simp only [Act.put, List.setIfInBounds_toArray, List.set_cons_zero, List.set_cons_succ]
  refine wpAnyH_take (i := 1) (oi := { dst := some 5, op := Op.load 156 (Operand.tmp 1), type := 156, pos := "partition.go:46", after := #[], guard := none }) (v := .agg #[.int .i64 r.page, .int .i64 r.pages, .int .i64 r.frame, .int .i64 r.rights]) rfl (by kernel_rfl) (by kernel_rfl) (by kernel_rfl) (fun _ _ _ h => h) (Or.inl ⟨by kernel_rfl, by (intro w hSw; (try dsimp only at hSw); go_simp)⟩) hHeld ?_
  simp only [Act.put, List.setIfInBounds_toArray, List.set_cons_zero, List.set_cons_succ]
  refine wpAnyH_take (i := 5) (oi := { dst := some 9, op := Op.load 114 (Operand.tmp 2), type := 114, pos := "partition.go:46", after := #[], guard := none }) (v := .agg #[.int .i64 (p : Int), .int .i64 (i : Int)]) rfl (by kernel_rfl) (by kernel_rfl) (by kernel_rfl) (fun _ _ _ h => h) (Or.inl ⟨by kernel_rfl, by (intro w hSw; (try dsimp only at hSw); go_simp)⟩) hHeld ?_
  simp only [Act.put, List.setIfInBounds_toArray, List.set_cons_zero, List.set_cons_succ]
  refine wpAnyH_ready (rs := [2]) (by kernel_rfl) (by simp) ?_
  refine AllReadyH.cons (o := { dst := some 6, op := Op.call { callee := Callee.value (Operand.func 132), args := #[Operand.tmp 5], argTypes := #[156] }, type := 188, pos := "partition.go:46", after := #[{ on := 1, ground := Ground.data }], guard := none }) rfl (fun K hK => ?_) AllReadyH.nil
  go_simp
  refine (framesOf_any r W.drew).mono ?_
  rintro r w1 ⟨rfl, hKc⟩
  have HO1 : Hid (ObI w (Env x N [(H, [.slice P.ra i P.rc], 32), (G, [.int .i64 r.page, .int .i64 r.pages, .int .i64 r.frame, .int .i64 r.rights], 156), (A, [.int .i64 (p : Int), .int .i64 (i : Int)], 114)]) R w1) := HO.out.kept HEk.out (((Keeps.refl _ _).drew).trans hKc fun _ _ h => h)
  clear hKc
  refine hK.out _ _ (HS.out _ HO1.out.env) (fun hHeld => ?_)
  simp only [Act.put, List.setIfInBounds_toArray, List.set_cons_zero, List.set_cons_succ]
  refine wpAnyH_ready (rs := [3]) (by kernel_rfl) (by simp) ?_
  refine AllReadyH.cons (o := { dst := some 7, op := Op.call { callee := Callee.value (Operand.func 131), args := #[Operand.tmp 4, Operand.func 132, Operand.tmp 6], argTypes := #[32, 190, 188] }, type := 4, pos := "partition.go:46", after := #[{ on := 0, ground := Ground.data }, { on := 2, ground := Ground.data }, { on := 2, ground := Ground.chain }], guard := none }) rfl (fun K hK => ?_) AllReadyH.nil
  go_simp
  refine (HM.out w1 HO1.out.env).mono ?_
  rintro r w2 ⟨rfl, hKc⟩
  have HO2 : Hid (ObI w (Env x N [(H, [.slice P.ra i P.rc], 32), (G, [.int .i64 r.page, .int .i64 r.pages, .int .i64 r.frame, .int .i64 r.rights], 156), (A, [.int .i64 (p : Int), .int .i64 (i : Int)], 114)]) R w2) := HO1.out.kept HEk.out hKc
  clear hKc
  refine hK.out _ _ (HS.out _ HO2.out.env) (fun hHeld => ?_)
  simp only [Act.put, List.setIfInBounds_toArray, List.set_cons_zero, List.set_cons_succ]
  refine wpAnyH_take (i := 4) (oi := { dst := some 8, op := Op.unOp UnOp.not 4 (Operand.tmp 7), type := 4, pos := "partition.go:46", after := #[{ on := 3, ground := Ground.data }], guard := none }) (v := .bool (!((P.rs.take i).any fun s => s.fr.meets r.fr))) rfl (by kernel_rfl) (by kernel_rfl) (by kernel_rfl) (fun _ _ _ h => h) (Or.inl ⟨by kernel_rfl, by (intro w hSw; (try dsimp only at hSw); go_simp)⟩) hHeld ?_
  simp only [Act.put, List.setIfInBounds_toArray, List.set_cons_zero, List.set_cons_succ]
  refine wpAnyH_ready (rs := [6]) (by kernel_rfl) (by simp) ?_
  refine AllReadyH.cons (o := { dst := some 10, op := Op.call { callee := Callee.value (Operand.func 65), args := #[Operand.tmp 8, Operand.const (Value.int IntKind.i64 411), Operand.tmp 9], argTypes := #[4, 46, 114] }, type := 140, pos := "partition.go:46", after := #[{ on := 4, ground := Ground.data }, { on := 5, ground := Ground.data }, { on := 3, ground := Ground.chain }], guard := none }) rfl (fun K hK => ?_) AllReadyH.nil
  go_simp
  refine (unless_any (!((P.rs.take i).any fun s => s.fr.meets r.fr)) 411 p i w2).mono ?_
  rintro r w3 ⟨rfl, hKc⟩
  have HO3 : Hid (ObI w (Env x N [(H, [.slice P.ra i P.rc], 32), (G, [.int .i64 r.page, .int .i64 r.pages, .int .i64 r.frame, .int .i64 r.rights], 156), (A, [.int .i64 (p : Int), .int .i64 (i : Int)], 114)]) R w3) := HO2.out.kept HEk.out hKc
  clear hKc
  obtain ⟨Gz, hG⟩ : ∃ Gz : Flt, unl (!((P.rs.take i).any fun s => s.fr.meets r.fr)) ⟨411, p, i⟩ = Gz := ⟨_, rfl⟩
  rw [hG]
  have HG : Hid (unl (!((P.rs.take i).any fun s => s.fr.meets r.fr)) ⟨411, p, i⟩ = Gz) := hG
  clear hG
  refine hK.out _ _ (HS.out _ HO3.out.env) (fun hHeld => ?_)
  simp only [Act.put, List.setIfInBounds_toArray, List.set_cons_zero, List.set_cons_succ]
  refine wpAnyH_ready (rs := [7]) (by kernel_rfl) (by simp) ?_
  refine AllReadyH.cons (o := { dst := none, op := Op.store 140 (Operand.tmp 3) (Operand.tmp 10), type := 0, pos := "partition.go:46", after := #[{ on := 6, ground := Ground.data }, { on := 6, ground := Ground.chain }, { on := 0, ground := Ground.phase }, { on := 1, ground := Ground.phase }, { on := 2, ground := Ground.phase }, { on := 3, ground := Ground.phase }, { on := 4, ground := Ground.phase }, { on := 5, ground := Ground.phase }, { on := 6, ground := Ground.phase }], guard := none }) rfl (fun K hK => ?_) AllReadyH.nil
  refine wp_store_row 140 _ _ rfl R #[.int .i64 Gz.n, .int .i64 Gz.a, .int .i64 Gz.b] (by rfl) (by rfl) 140 _ HO3.out.ans Tryz.size140 rfl (all53 ..) ?_
  obtain ⟨W5, hW5⟩ : ∃ W5, W5 = w3.setRow R #[.int .i64 Gz.n, .int .i64 Gz.a, .int .i64 Gz.b] := ⟨_, rfl⟩
  have hB5 : Blk W5 R [.int .i64 Gz.n, .int .i64 Gz.a, .int .i64 Gz.b] 140 := by rw [hW5]; exact HO3.out.ans.setRow _
  have k5 : Keeps (fun k => k = R) w3 W5 := by rw [hW5]; exact (Keeps.refl _ _).setRow _ _ fun _ => rfl
  have hlo := HO.out.lo
  have HO5 : Hid (Blk W5 R [.int .i64 Gz.n, .int .i64 Gz.a, .int .i64 Gz.b] 140 ∧ Keeps (fun _ => False) w W5) := ⟨hB5, HO3.out.keeps.trans k5 fun k hk e => by omega⟩
  have HE5 : Hid ((Env x N [(H, [.slice P.ra i P.rc], 32), (G, [.int .i64 r.page, .int .i64 r.pages, .int .i64 r.frame, .int .i64 r.rights], 156), (A, [.int .i64 (p : Int), .int .i64 (i : Int)], 114)]) W5) := Env.kept' (HE0.out) HO3.out.env hlo k5
  rw [← hW5]
  clear hW5 hB5 k5 hlo
  refine hK.out _ _ (HS.out _ HE5.out) (fun hHeld => ?_)
  simp only [Act.put, List.setIfInBounds_toArray, List.set_cons_zero, List.set_cons_succ]
  refine wpAnyH_done (by kernel_rfl) ?_ _
  clear hHeld
  go_wp2
  (try simp only [Exit.inBlock, Exit.then])
  refine bodyPost_ret (results_cell_row rfl _ _ R 140 _ (0, 0) _ rfl HO5.out.1 Tryz.underlying140 rfl (by kernel_rfl)) rfl ?_
  exact ⟨by rw [HG.out], HO5.out.2⟩
end Go.Proofs.YtofjbkoojimmhaaGreat
