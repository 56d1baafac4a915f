import Derived.Test.YtjadpbkhfclldaaGreatJRp
import Derived.Test.YtjadpbkhfclldaaGreatJPx
namespace Go.Proofs.YtjadpbkhfclldaaGreat
open Go.RowKit
set_option linter.unusedVariables false
set_option maxRecDepth 6000
set_option linter.unusedSimpArgs false

theorem results_cell_three {P : Program} {fn : Func} {p u v : Tmp} {ty : TypeId} (h : fn.results = #[.cell p ty, .tmp u, .tmp v]) (tmps : Array Value) (w : World) (g : Nat) (t : TypeId) (cs : Array Value) (fr : Nat × Nat) (d : TypeDesc)
    (hp : tmps.getD p undef = .pointer (some ⟨g, 0, none⟩)) (hg : w.heap[g]? = some (.cells cs t fr))
    (hu : P.underlying ty = some d) (hd : (match d with | .struct _ | .array _ _ => true | _ => false) = true) (hi : (P.info? ty).map (·.size) = some cs.size) :
    (results fn tmps).run P w = .ok (.tuple #[.agg cs, tmps.getD u undef, tmps.getD v undef]) w := by
  have hp' : tmps[p]?.getD undef = .pointer (some ⟨g, 0, none⟩) := by simpa using hp
  simp [results, h, hp', asAddr, run_loadVar_row w g t ty cs fr d hg hu hd hi]

/-- What Decode answers. -/
def DecP (w : World) (B : List UInt8) (e : Ending) (w' : World) : Prop :=
  Keeps (fun _ => False) w w' ∧ ((16384 < B.length ∧ e = .returned (.tuple #[.agg zCfgR.toArray, .int .i64 0, .int .i64 2])) ∨
    (B.length ≤ 16384 ∧ ((∃ x : Cfg, dec B = .ok x.pure ∧ e = .returned (.tuple #[x.v, .int .i64 0, .int .i64 0]) ∧ x.Lsts w' w.heap.size) ∨ (∃ (q : Nat) (k : Int), dec B = .error (q, k) ∧ e = .returned (.tuple #[.agg zCfgR.toArray, .int .i64 q, .int .i64 k])))))

/-- What it answers, in memory of its own. -/
def DecR (w : World) (B : List UInt8) (e : Ending) (w' : World) : Prop :=
  Keeps (fun _ => False) w w' ∧ ((16384 < B.length ∧ e = .returned (.tuple #[.agg zCfgR.toArray, .int .i64 0, .int .i64 2])) ∨
    (B.length ≤ 16384 ∧ ((∃ x : Cfg, dec B = .ok x.pure ∧ e = .returned (.tuple #[x.v, .int .i64 0, .int .i64 0]) ∧ x.LstsR w' w.heap.size) ∨ (∃ (q : Nat) (k : Int), dec B = .error (q, k) ∧ e = .returned (.tuple #[.agg zCfgR.toArray, .int .i64 q, .int .i64 k])))))

set_option maxHeartbeats 1000000 in
theorem decode_long (L : Nat) (a : Option Addr) (cap : Nat) (w : World) (hl : 16384 < L) (hL : L ≤ maxLen) :
    Calls Tryz.prog 26 #[.slice a L cap] w fun e w' => Keeps (fun _ => False) w w' ∧ e = .returned (.tuple #[.agg zCfgR.toArray, .int .i64 0, .int .i64 2]) := by
  have hl' : (16384 : Int) < L := by omega
  have HL : Hid (L ≤ maxLen) := hL
  clear hL
  obtain ⟨C, hC⟩ : ∃ C, C = w.heap.size := ⟨_, rfl⟩
  obtain ⟨W, hW⟩ : ∃ W, W = w.alloc (.cells #[.int .i64 0, .int .i64 0, .int .i64 0, .int .i64 0, .slice none 0 0, .slice none 0 0, .slice none 0 0] 26) := ⟨_, rfl⟩
  have HB : Hid (Blk W C zCfgR 26 ∧ Keeps (fun _ => False) w W) := by rw [hW, hC]; exact ⟨Blk.new w _ _, (Keeps.refl _ w).alloc _⟩
  have HB1 : Hid (Blk (w.alloc (.cells #[.int .i64 0, .int .i64 0, .int .i64 0, .int .i64 0, .slice none 0 0, .slice none 0 0, .slice none 0 0] 26)) w.heap.size zCfgR 26) := Blk.new w _ _
  go_enter Tryz.func26, Tryz.ntmps26
  go_wp2_with (refine wpList_store_row rfl 26 (.tmp 2) (.tmp 10) rfl w.heap.size #[.int .i64 0, .int .i64 0, .int .i64 0, .int .i64 0, .slice none 0 0, .slice none 0 0, .slice none 0 0] rfl rfl 26 _ HB1.out Tryz.size26 rfl (all26 ..) ?_)
  refine bodyPost_ret (results_cell_three rfl _ _ w.heap.size 26 _ (0, 0) _ rfl (HB1.out.setRow zCfgR) Tryz.underlying26 rfl Tryz.size26) rfl ?_
  exact ⟨((Keeps.refl _ w).alloc _).setRow _ _ (fun h => by omega), rfl⟩

/-- What read answered, laid into Decode's own. -/
abbrev vals7 (m1 m2 m3 m4 : Int) (ca : Option Addr) (L1 cc : Nat) (pa : Option Addr) (L2 pc : Nat) (ha : Option Addr) (L3 hc : Nat) : List Value := [.int .i64 m1, .int .i64 m2, .int .i64 m3, .int .i64 m4, .slice ca L1 cc, .slice pa L2 pc, .slice ha L3 hc]

theorem ReadP.open {w w' : World} {B : List UInt8} {e : Ending} (h : ReadP w B e w') : ∃ (m1 m2 m3 m4 : Int) (ca : Option Addr) (L1 cc : Nat) (pa : Option Addr) (L2 pc : Nat) (ha : Option Addr) (L3 hc : Nat) (q : Nat) (k : Int),
    e = .returned (.tuple #[.agg #[.int .i64 m1, .int .i64 m2, .int .i64 m3, .int .i64 m4, .slice ca L1 cc, .slice pa L2 pc, .slice ha L3 hc], .agg #[.int .i64 q, .int .i64 k]]) ∧ Keeps (fun _ => False) w w' ∧ ((∃ x : Cfg, dec B = .ok x.pure ∧ x.vs = [.int .i64 m1, .int .i64 m2, .int .i64 m3, .int .i64 m4, .slice ca L1 cc, .slice pa L2 pc, .slice ha L3 hc] ∧ q = 0 ∧ k = 0 ∧ x.LstsR w' w.heap.size) ∨ (dec B = .error (q, k) ∧ [.int .i64 m1, .int .i64 m2, .int .i64 m3, .int .i64 m4, .slice ca L1 cc, .slice pa L2 pc, .slice ha L3 hc] = zCfgR)) := by
  obtain ⟨⟨x, h1, rfl, h3⟩ | ⟨q, k, h1, rfl⟩, hK⟩ := h
  · obtain ⟨n1, n2, n3, n4, ca, cc, cs, pa, pc, ps, ha, hc, hs⟩ := x
    exact ⟨n1, n2, n3, n4, ca, cs.length, cc, pa, ps.length, pc, ha, hs.length, hc, 0, 0, rfl, hK, .inl ⟨_, h1, rfl, rfl, rfl, h3⟩⟩
  · exact ⟨0, 0, 0, 0, none, 0, 0, none, 0, 0, none, 0, 0, q, k, rfl, hK, .inr ⟨h1, rfl⟩⟩

set_option maxHeartbeats 1000000 in
theorem decode_short (B : List UInt8) (a : Option Addr) (cap : Nat) (w : World) (hs : Seg w a B) (hcap : B.length ≤ cap ∧ cap ≤ maxLen) (hB : B.length ≤ 16384) (hlt : B ≠ [] → ∀ y, a = some y → y.block < w.heap.size) :
    Calls Tryz.prog 26 #[.slice a B.length cap] w (DecR w B) := by
  obtain ⟨L, hL⟩ : ∃ L, B.length = L := ⟨_, rfl⟩
  have hl' : ¬ (16384 : Int) < L := by omega
  have HS : Hid (Seg w a B ∧ B.length = L ∧ (B ≠ [] → ∀ y, a = some y → y.block < w.heap.size) ∧ B.length ≤ 16384 ∧ L ≤ cap ∧ cap ≤ maxLen) := ⟨hs, hL, hlt, hB, by omega, hcap.2⟩
  rw [hL]
  clear hs hL hlt hB hcap
  go_enter Tryz.func26, Tryz.ntmps26
  go_wp2_with fail
  obtain ⟨C, hC⟩ : ∃ C, C = w.heap.size := ⟨_, rfl⟩
  obtain ⟨W, hW⟩ : ∃ W, W = w.alloc (.cells #[.int .i64 0, .int .i64 0, .int .i64 0, .int .i64 0, .slice none 0 0, .slice none 0 0, .slice none 0 0] 26) := ⟨_, rfl⟩
  have HW : Hid (Blk W C zCfgR 26 ∧ Keeps (fun _ => False) w W ∧ C = w.heap.size) := by rw [hW, hC]; exact ⟨Blk.new w _ _, (Keeps.refl _ w).alloc _, rfl⟩
  rw [← hW, ← hC]
  clear hW hC
  have HR := read_any B a cap W (HS.out.1.keptB HW.out.2.1 fun _ _ _ e => e) (by have := HS.out; omega) HS.out.2.2.2.1 (fun h1 y h2 => Nat.lt_of_lt_of_le (HS.out.2.2.1 h1 y h2) HW.out.2.1.size)
  rw [HS.out.2.1] at HR
  refine HR.mono ?_
  clear HR
  intro e w2 hP
  obtain ⟨m1, m2, m3, m4, ca, L1, cc, pa, L2, pc, ha, L3, hc, q, k, rfl, hK2, hres⟩ := hP.open
  clear hP
  obtain ⟨W4, hW4⟩ : ∃ W4, W4 = (w2.alloc (.cells #[.int .i64 m1, .int .i64 m2, .int .i64 m3, .int .i64 m4, .slice ca L1 cc, .slice pa L2 pc, .slice ha L3 hc] 26)).alloc (.cells #[.int .i64 q, .int .i64 k] 98) := ⟨_, rfl⟩
  obtain ⟨T, hT⟩ : ∃ T, T = w2.heap.size := ⟨_, rfl⟩
  have hKW : Keeps (fun _ => False) w2 W4 := by rw [hW4]; exact ((Keeps.refl _ _).alloc _).alloc _
  have H2 : Hid (Keeps (fun _ => False) W w2 ∧ Keeps (fun _ => False) w2 W4 ∧ ((∃ x : Cfg, dec B = .ok x.pure ∧ x.vs = [.int .i64 m1, .int .i64 m2, .int .i64 m3, .int .i64 m4, .slice ca L1 cc, .slice pa L2 pc, .slice ha L3 hc] ∧ q = 0 ∧ k = 0 ∧ x.LstsR w2 W.heap.size) ∨ (dec B = .error (q, k) ∧ [.int .i64 m1, .int .i64 m2, .int .i64 m3, .int .i64 m4, .slice ca L1 cc, .slice pa L2 pc, .slice ha L3 hc] = zCfgR)) ∧ T = w2.heap.size ∧ Blk W4 T [.int .i64 m1, .int .i64 m2, .int .i64 m3, .int .i64 m4, .slice ca L1 cc, .slice pa L2 pc, .slice ha L3 hc] 26 ∧ Blk W4 (T + 1) [.int .i64 q, .int .i64 k] 98 ∧ Blk W4 C zCfgR 26 ∧ C < T) := by
    refine ⟨hK2, hKW, hres, hT, by rw [hW4, hT]; exact (Blk.new _ _ _).alloc _, ?_, (HW.out.1.kept hK2 fun e => e).kept hKW fun e => e, ?_⟩
    · rw [hW4, hT]; have := Blk.new (w2.alloc (.cells #[.int .i64 m1, .int .i64 m2, .int .i64 m3, .int .i64 m4, .slice ca L1 cc, .slice pa L2 pc, .slice ha L3 hc] 26)) #[.int .i64 q, .int .i64 k] 98; simpa using this
    · rw [hT]; exact Nat.lt_of_lt_of_le HW.out.1.lt hK2.size
  clear hK2 hres hKW
  go_wp2
  rw [← hW4, ← hT]
  clear hW4 hT
  have hb4 := H2.out.2.2.2.2.1.drew
  have hd4 := H2.out.2.2.2.2.2.1.drew
  refine wp_region_held_drew (S := fun w' => w'.cell? ⟨T, 0, none⟩ = some (.int .i64 m1) ∧ w'.cell? ⟨T, 1, none⟩ = some (.int .i64 m2) ∧ w'.cell? ⟨T, 2, none⟩ = some (.int .i64 m3) ∧ w'.cell? ⟨T, 3, none⟩ = some (.int .i64 m4) ∧ w'.cell? ⟨T, 4, none⟩ = some (.slice ca L1 cc) ∧ w'.cell? ⟨T, 5, none⟩ = some (.slice pa L2 pc) ∧ w'.cell? ⟨T, 6, none⟩ = some (.slice ha L3 hc) ∧ w'.cell? ⟨T + 1, 0, none⟩ = some (.int .i64 q) ∧ w'.cell? ⟨T + 1, 1, none⟩ = some (.int .i64 k)) (by kernel_rfl) ⟨hb4.cell (i := 0) rfl, hb4.cell (i := 1) rfl, hb4.cell (i := 2) rfl, hb4.cell (i := 3) rfl, hb4.cell (i := 4) rfl, hb4.cell (i := 5) rfl, hb4.cell (i := 6) rfl, hd4.cell (i := 0) rfl, hd4.cell (i := 1) rfl⟩ (fun hHeld => ?_)
  simp only [List.size_toArray, List.length_cons, List.length_nil, Nat.reduceAdd, Array.replicate_succ, Array.replicate_zero, List.push_toArray, List.append_toArray, List.nil_append, List.cons_append]
  refine wpAnyH_take (i := 0) (oi := { dst := some 16, op := .load 26 (.tmp 5), type := 26, pos := "conf.go:38", after := #[], guard := none }) (v := .agg #[.int .i64 m1, .int .i64 m2, .int .i64 m3, .int .i64 m4, .slice ca L1 cc, .slice pa L2 pc, .slice ha L3 hc]) rfl (by kernel_rfl) (by kernel_rfl) (by kernel_rfl) (fun _ _ _ h => h) (Or.inl ⟨by rfl, by (intro w hSw; (try dsimp only at hSw); go_simp)⟩) hHeld ?_
  simp only [Act.put, List.setIfInBounds_toArray, List.set_cons_zero, List.set_cons_succ]
  refine wpAnyH_take (i := 1) (oi := { dst := some 17, op := .fieldAddr 98 (.tmp 6) 0, type := 0, pos := "conf.go:38", after := #[{ on := 5, ground := .gcOnly .lateStores }], guard := none }) (v := .pointer (some ⟨T + 1, 0, none⟩)) rfl (by kernel_rfl) (by kernel_rfl) (by kernel_rfl) (fun _ _ _ h => h) (Or.inl ⟨by rfl, by (intro w hSw; (try dsimp only at hSw); go_simp)⟩) hHeld ?_
  simp only [Act.put, List.setIfInBounds_toArray, List.set_cons_zero, List.set_cons_succ]
  refine wpAnyH_take (i := 2) (oi := { dst := some 18, op := .load 3 (.tmp 17), type := 3, pos := "conf.go:38", after := #[{ on := 1, ground := .data }, { on := 5, ground := .gcOnly .lateStores }], guard := none }) (v := .int .i64 q) rfl (by kernel_rfl) (by kernel_rfl) (by kernel_rfl) (fun _ _ _ h => h) (Or.inl ⟨by rfl, by (intro w hSw; (try dsimp only at hSw); go_simp)⟩) hHeld ?_
  simp only [Act.put, List.setIfInBounds_toArray, List.set_cons_zero, List.set_cons_succ]
  refine wpAnyH_take (i := 3) (oi := { dst := some 19, op := .fieldAddr 98 (.tmp 6) 1, type := 0, pos := "conf.go:38", after := #[{ on := 6, ground := .gcOnly .lateStores }], guard := none }) (v := .pointer (some ⟨T + 1, 1, none⟩)) rfl (by kernel_rfl) (by kernel_rfl) (by kernel_rfl) (fun _ _ _ h => h) (Or.inl ⟨by rfl, by (intro w hSw; (try dsimp only at hSw); go_simp)⟩) hHeld ?_
  simp only [Act.put, List.setIfInBounds_toArray, List.set_cons_zero, List.set_cons_succ]
  refine wpAnyH_take (i := 4) (oi := { dst := some 20, op := .load 29 (.tmp 19), type := 29, pos := "conf.go:38", after := #[{ on := 3, ground := .data }, { on := 6, ground := .gcOnly .lateStores }], guard := none }) (v := .int .i64 k) rfl (by kernel_rfl) (by kernel_rfl) (by kernel_rfl) (fun _ _ _ h => h) (Or.inl ⟨by rfl, by (intro w hSw; (try dsimp only at hSw); go_simp)⟩) hHeld ?_
  simp only [Act.put, List.setIfInBounds_toArray, List.set_cons_zero, List.set_cons_succ]
  refine wpAnyH_ready (rs := [5]) (by kernel_rfl) (by simp) ?_
  refine AllReadyH.cons (o := { dst := none, op := .store 26 (.tmp 2) (.tmp 16), type := 0, pos := "conf.go:38", after := #[{ on := 0, ground := .data }, { on := 0, ground := .phase }, { on := 1, ground := .textOnly .lateStores }, { on := 2, ground := .textOnly .lateStores }, { on := 3, ground := .textOnly .lateStores }, { on := 4, ground := .textOnly .lateStores }], guard := none }) rfl (fun K hK => ?_) AllReadyH.nil
  rw [if_pos (by rfl)]
  have hc4 := H2.out.2.2.2.2.2.2.1.drew
  refine wp_store_row 26 _ _ rfl C #[.int .i64 m1, .int .i64 m2, .int .i64 m3, .int .i64 m4, .slice ca L1 cc, .slice pa L2 pc, .slice ha L3 hc] rfl rfl 26 _ hc4 Tryz.size26 rfl (all26 ..) ?_
  have hb5 := hb4.setRow_ne (k := C) (by have := H2.out.2.2.2.2.2.2.2; omega) #[.int .i64 m1, .int .i64 m2, .int .i64 m3, .int .i64 m4, .slice ca L1 cc, .slice pa L2 pc, .slice ha L3 hc]
  have hd5 := hd4.setRow_ne (k := C) (by have := H2.out.2.2.2.2.2.2.2; omega) #[.int .i64 m1, .int .i64 m2, .int .i64 m3, .int .i64 m4, .slice ca L1 cc, .slice pa L2 pc, .slice ha L3 hc]
  refine hK.out _ _ ⟨hb5.cell (i := 0) rfl, hb5.cell (i := 1) rfl, hb5.cell (i := 2) rfl, hb5.cell (i := 3) rfl, hb5.cell (i := 4) rfl, hb5.cell (i := 5) rfl, hb5.cell (i := 6) rfl, hd5.cell (i := 0) rfl, hd5.cell (i := 1) rfl⟩ (fun hHeld => ?_)
  simp only [Act.put, List.setIfInBounds_toArray, List.set_cons_zero, List.set_cons_succ]
  refine wpAnyH_take (i := 6) (oi := { dst := some 3, op := .assign (.tmp 18), type := 3, pos := "conf.go:38", after := #[{ on := 2, ground := .data }, { on := 5, ground := .chain }, { on := 0, ground := .phase }, { on := 1, ground := .phase }, { on := 2, ground := .phase }, { on := 3, ground := .textOnly .lateStores }, { on := 4, ground := .textOnly .lateStores }, { on := 5, ground := .phase }], guard := none }) (v := .int .i64 q) rfl (by kernel_rfl) (by kernel_rfl) (by kernel_rfl) (fun _ _ _ h => h) (Or.inl ⟨by rfl, by (intro w hSw; (try dsimp only at hSw); go_simp)⟩) hHeld ?_
  simp only [Act.put, List.setIfInBounds_toArray, List.set_cons_zero, List.set_cons_succ]
  refine wpAnyH_take (i := 7) (oi := { dst := some 4, op := .assign (.tmp 20), type := 29, pos := "conf.go:38", after := #[{ on := 4, ground := .data }, { on := 6, ground := .chain }, { on := 0, ground := .phase }, { on := 1, ground := .phase }, { on := 2, ground := .phase }, { on := 3, ground := .phase }, { on := 4, ground := .phase }, { on := 5, ground := .phase }, { on := 6, ground := .phase }], guard := none }) (v := .int .i64 k) rfl (by kernel_rfl) (by kernel_rfl) (by kernel_rfl) (fun _ _ _ h => h) (Or.inl ⟨by rfl, by (intro w hSw; (try dsimp only at hSw); go_simp)⟩) hHeld ?_
  simp only [Act.put, List.setIfInBounds_toArray, List.set_cons_zero, List.set_cons_succ]
  refine wpAnyH_done (by kernel_rfl) ?_ _
  have hCF := hc4.setRow [.int .i64 m1, .int .i64 m2, .int .i64 m3, .int .i64 m4, .slice ca L1 cc, .slice pa L2 pc, .slice ha L3 hc]
  obtain ⟨F, hF⟩ : ∃ F, F = W4.drew.setRow C #[.int .i64 m1, .int .i64 m2, .int .i64 m3, .int .i64 m4, .slice ca L1 cc, .slice pa L2 pc, .slice ha L3 hc] := ⟨_, rfl⟩
  have hKF : Keeps (· = C) w2 F := by rw [hF]; exact ((H2.out.2.1.mono fun _ _ e => e.elim).drew).setRow C _ fun _ => rfl
  rw [← hF] at hCF ⊢
  have H9 : Hid (Blk F C [.int .i64 m1, .int .i64 m2, .int .i64 m3, .int .i64 m4, .slice ca L1 cc, .slice pa L2 pc, .slice ha L3 hc] 26 ∧ Keeps (· = C) w2 F) := ⟨hCF, hKF⟩
  clear hCF hKF hF hb4 hd4 hc4 hb5 hd5
  go_wp2
  refine bodyPost_ret (results_cell_three rfl _ _ C 26 _ (0, 0) _ rfl H9.out.1 Tryz.underlying26 rfl Tryz.size26) rfl ?_
  have hCw : C = w.heap.size := HW.out.2.2
  have hKall : Keeps (fun _ => False) w F := (HW.out.2.1.trans H2.out.1 fun _ _ e => e).trans H9.out.2 fun b hb e => by omega
  refine ⟨hKall, .inr ⟨HS.out.2.2.2.1, ?_⟩⟩
  rcases H2.out.2.2.1 with ⟨x, h1, h2, rfl, rfl, h5⟩ | ⟨h1, h2⟩
  · refine .inl ⟨x, h1, ?_, ?_⟩
    · have : x.v = .agg x.vs.toArray := rfl
      rw [this, h2]; rfl
    · have hlo : ∀ k, k = C → k < W.heap.size := fun k e => by rw [e]; exact HW.out.1.lt
      have hsz : w.heap.size ≤ W.heap.size := HW.out.2.1.size
      exact ⟨(h5.cs.kept H9.out.2 hlo).mono hsz, (h5.ps.kept H9.out.2 hlo).mono hsz, (h5.hs.kept H9.out.2 hlo).mono hsz, h5.ns, h5.d1, h5.d2, h5.d3⟩
  · exact .inr ⟨q, k, h1, by rw [← h2]; rfl⟩
end Go.Proofs.YtjadpbkhfclldaaGreat
namespace Go.Proofs.YtjadpbkhfclldaaGreat
open Go.RowKit
set_option linter.unusedVariables false
set_option maxRecDepth 6000

theorem Cfg.Lsts.in {x : Cfg} {w : World} {lo : Nat} (h : x.Lsts w lo) : x.In w w.heap.size :=
  ⟨h.cs.seg, fun hn y hy => h.cs.blk hn y hy, h.cs.len, fun y hy => Core.Ok.in (h.cs.ok y hy), h.ps.seg, fun hn y hy => h.ps.blk hn y hy, h.ps.len, fun y hy => Par.Ok.in (h.ps.ok y hy),
    h.hs.seg, fun hn y hy => h.hs.blk hn y hy, h.hs.len, h.hs.ok, h.ns⟩
theorem run_text_seg {w : World} (a : Option Addr) (c : Nat) (xs : List UInt8) (hs : Seg w a xs) :
    (convert 28 9 (.slice a xs.length c)).run Tryz.prog w = .ok (.string ⟨xs.toArray⟩) w := by
  rw [run_convert_bytes_string w 28 9 5 _ _ _ Tryz.underlying28 Tryz.underlying5 Tryz.underlying9]
  have hb : bvs xs = (xs.map fun x => (x.toNat : Int)).map (Value.int .u8) := by simp [bvs]
  cases a with
  | none =>
    rcases hs with rfl | ⟨g, o, h, _⟩
    · simp [Conv.bytesToString, go_sem]; rfl
    · cases h
  | some y =>
    have hl := run_loadCells_list (P := Tryz.prog) w y (bvs xs) (by
      intro j v hj
      rcases hs with rfl | ⟨g, o, h, hc⟩
      · simp [bvs] at hj
      · cases h
        have hjl : j < xs.length := by rw [← bvs_length]; exact (List.getElem?_eq_some_iff.1 hj).1
        rw [bvs_get xs j hjl] at hj
        cases hj
        rw [addr_add]
        exact hc j hjl)
    rw [bvs_length, hb] at hl
    rw [run_bytesToString w _ _ _ _ hl, foldl_push]
    simp [ByteArray.empty, ByteArray.emptyWithCapacity]
    rfl
end Go.Proofs.YtjadpbkhfclldaaGreat
