import Derived.Test.YtjadpbkhfclldaaGreatJRn
import Derived.Test.YtjadpbkhfclldaaGreatJRm
import Derived.Defers
import Derived.Recover
namespace Go.Proofs.YtjadpbkhfclldaaGreat
open Go.RowKit
set_option linter.unusedVariables false

def Win.e2 (x : Win) : List UInt8 := nbs [x.p + 1, x.u, x.s]
def Win.d2 (x : Win) : Bool := wNs [x.p + 1, x.u, x.s]
def PPar.e (x : PPar) : List UInt8 := nameBy x.name ++ (nbs [x.entry, x.action, x.restarts, x.inputs, x.outputs] ++ (listB Rgn.e x.rs ++ listB Prt.e x.ps))
def PPar.d (x : PPar) : Bool := nameW x.name || (wNs [x.entry, x.action, x.restarts, x.inputs, x.outputs] || (listW Rgn.d x.rs || listW Prt.d x.ps))
def PCfg.e (x : PCfg) : List UInt8 := nbs [x.frames, x.major, x.kernel, x.room] ++ (listB (listB Win.e2) x.cs ++ (listB PPar.e x.ps ++ listB Chn.e x.hs))
def PCfg.d (x : PCfg) : Bool := wNs [x.frames, x.major, x.kernel, x.room] || (listW (listW Win.d2) x.cs || (listW PPar.d x.ps || listW Chn.d x.hs))

theorem bind_bind {α β γ : Type} (x : Rs α) (f : α × Nat → Rs β) (g : β × Nat → Rs γ) : (x.bind f).bind g = x.bind fun a => (f a).bind g := by cases x <;> rfl
theorem ok_bind {α β : Type} (v : α × Nat) (f : α × Nat → Rs β) : (Except.ok v : Rs α).bind f = f v := rfl
theorem wN_bd {n : Int} (h : wN n = false) : 0 ≤ n ∧ n ≤ 4294967295 := by unfold wN at h; simp at h; omega

theorem gWin : Good rdWin Win.e2 Win.d2 := by
  refine ((gNum.seq (gNum.seq gNum)).iso (fun t => (⟨t.1 - 1, t.2.1, t.2.2⟩ : Win)) (fun x => (x.p + 1, x.u, x.s)) ?_ ?_).cong ?_ ?_ ?_
  · rintro ⟨a, b, c⟩ _; simp
  · rintro ⟨a, b, c⟩ _; simp
  · intro B p; simp only [rdWin, bind_bind, ok_bind]
  · intro x; simp [Win.e2, nbs]
  · intro x; simp [Win.d2, wNs]
theorem gRgn : Good rdRgn Rgn.e Rgn.d := by
  refine ((gNum.seq (gNum.seq (gNum.seq gNum))).iso (fun t => (⟨t.1, t.2.1, t.2.2.1, t.2.2.2⟩ : Rgn)) (fun x => (x.page, x.pages, x.frame, x.rights)) ?_ ?_).cong ?_ ?_ ?_
  · rintro ⟨a, b, c, d⟩ _; simp
  · rintro ⟨a, b, c, d⟩ _; simp
  · intro B p; simp only [rdRgn, bind_bind, ok_bind]
  · intro x; simp [Rgn.e, Rgn.ns, nbs]
  · intro x; simp [Rgn.d, Rgn.ns, wNs]
theorem gChn : Good rdChn Chn.e Chn.d := by
  refine ((gNum.seq (gNum.seq gNum)).iso (fun t => (⟨t.1, t.2.1, t.2.2⟩ : Chn)) (fun x => (x.kind, x.words, x.depth)) ?_ ?_).cong ?_ ?_ ?_
  · rintro ⟨a, b, c⟩ _; simp
  · rintro ⟨a, b, c⟩ _; simp
  · intro B p; simp only [rdChn, bind_bind, ok_bind]
  · intro x; simp [Chn.e, Chn.ns, nbs]
  · intro x; simp [Chn.d, Chn.ns, wNs]
theorem gPrt : Good rdPrt Prt.e Prt.d := by
  refine ((gNum.seq gSrc).iso (fun t => (⟨t.1, t.2⟩ : Prt)) (fun x => (x.ch, x.src)) ?_ ?_).cong ?_ ?_ ?_
  · rintro ⟨a, b⟩ _; simp
  · rintro ⟨a, b⟩ _; simp
  · intro B p; simp only [rdPrt, bind_bind, ok_bind]
  · intro x; simp [Prt.e, nbs]
  · intro x; simp [Prt.d, wNs]
theorem gCore : Good rdCore (listB Win.e2) (listW Win.d2) := gWin.list
theorem gPar : Good rdPar PPar.e PPar.d := by
  refine ((gText.seq (gNum.seq (gNum.seq (gNum.seq (gNum.seq (gNum.seq (gRgn.list.seq gPrt.list))))))).iso (fun t => (⟨t.1, t.2.1, t.2.2.1, t.2.2.2.1, t.2.2.2.2.1, t.2.2.2.2.2.1, t.2.2.2.2.2.2.1, t.2.2.2.2.2.2.2⟩ : PPar))
    (fun x => (x.name, x.entry, x.action, x.restarts, x.inputs, x.outputs, x.rs, x.ps)) ?_ ?_).cong ?_ ?_ ?_
  · rintro ⟨s, a, b, c, d, e, r, q⟩ _; simp
  · rintro ⟨s, a, b, c, d, e, r, q⟩ _; simp
  · intro B p; simp only [rdPar, bind_bind, ok_bind]
  · intro x; simp [PPar.e, nbs]
  · intro x; simp [PPar.d, wNs, Bool.or_assoc]
theorem gCfg : Good rdCfg PCfg.e PCfg.d := by
  refine ((gNum.seq (gNum.seq (gNum.seq (gNum.seq (gCore.list.seq (gPar.list.seq gChn.list)))))).iso (fun t => (⟨t.1, t.2.1, t.2.2.1, t.2.2.2.1, t.2.2.2.2.1, t.2.2.2.2.2.1, t.2.2.2.2.2.2⟩ : PCfg))
    (fun x => (x.frames, x.major, x.kernel, x.room, x.cs, x.ps, x.hs)) ?_ ?_).cong ?_ ?_ ?_
  · rintro ⟨a, b, c, d, e, r, q⟩ _; simp
  · rintro ⟨a, b, c, d, e, r, q⟩ _; simp
  · intro B p; simp only [rdCfg, bind_bind, ok_bind]
  · intro x; simp [PCfg.e, nbs]
  · intro x; simp [PCfg.d, wNs, Bool.or_assoc]
theorem gMark : Good rdMark (fun _ => lowB 4 826493762) (fun _ => false) := by
  have hnb : nb 826493762 = lowB 4 826493762 := rfl
  refine ⟨?_, ?_, ?_⟩
  · intro B p u _ hs
    unfold rdMark
    rw [gNum.fwd (x := 826493762) (by decide) (by rw [hnb]; exact hs)]
    rfl
  · intro B p q u hp hr
    obtain ⟨⟨n, q1⟩, r1, hr⟩ := bind_eq_ok hr
    obtain ⟨k1, k2, rfl⟩ := gNum.bwd hp r1
    simp only at hr
    split at hr
    · rename_i hn
      cases hr
      have hn' : n = 826493762 := hn
      subst hn'
      exact ⟨rfl, k2, rfl⟩
    · cases hr
  · intro B p q hp hr
    rcases bind_eq_err hr with r1 | ⟨⟨n, q1⟩, r1, hr⟩
    · exact gNum.err hp r1
    · simp only at hr
      split at hr
      · cases hr
      · cases hr; exact hp
end Go.Proofs.YtjadpbkhfclldaaGreat
namespace Go.Proofs.YtjadpbkhfclldaaGreat
open Go.RowKit
set_option linter.unusedVariables false
set_option maxRecDepth 6000
set_option linter.unusedSimpArgs false

theorem all94 (q k : Int) : (#[.int .i64 q, .int .i64 k] : Array Value).all (·.oneCell') = true := by kernel_rfl
theorem Tryz.size98 : (Tryz.prog.info? 98).map (·.size) = some 2 := by kernel_rfl
set_option maxHeartbeats 1000000 in
theorem catch_gone (C D q : Nat) (k : Int) (l : List Value) (x y : Value) (w : World) (hC : Blk w C l 26) (hl : l.length = 7) (hD : Blk w D [x, y] 98) (hne : C ≠ D) :
    CallsD Tryz.prog 64 #[.pointer (some ⟨C, 0, none⟩), .pointer (some ⟨D, 0, none⟩)] (.panicking [{ v := refV q k, recovered := false }]) w fun e u' w' =>
      e = .returned (.tuple #[]) ∧ u' = .panicking [{ v := refV q k, recovered := true }] ∧ Blk w' C [.int .i64 0, .int .i64 0, .int .i64 0, .int .i64 0, .slice none 0 0, .slice none 0 0, .slice none 0 0] 26 ∧ Blk w' D [.int .i64 q, .int .i64 k] 98 ∧ Keeps (fun k => k = C ∨ k = D) w w' := by
  refine callsD_of_wpS Tryz.func64 rfl fun c₀ cs hu => ?_
  apply wpS_seq
  apply wpS_region
  simp [wpOpsS, go_sem, recoverD, hu, Tryz.ntmps64, Exit.thenS]
  refine wpS_of_wp ?_
  simp only [Array.replicate_succ, Array.replicate_zero, List.push_toArray, List.append_toArray, List.nil_append, List.cons_append, List.setIfInBounds_toArray, List.set_cons_succ, List.set_cons_zero]
  have hta : ∀ w, (Instr.typeAssert (refV q k) 20 98 true).run Tryz.prog w = .ok (.tuple #[.agg #[.int .i64 q, .int .i64 k], .bool true]) w := fun w => by
    rfl
  have HH : Hid (Blk w C l 26 ∧ l.length = 7 ∧ Blk w D [x, y] 98 ∧ C ≠ D) := ⟨hC, hl, hD, hne⟩
  clear hC hl hD hne
  go_wp2
  obtain ⟨W, hW⟩ : ∃ W, W = w.alloc (.cells #[.int .i64 q, .int .i64 k] 98) := ⟨_, rfl⟩
  have HW : Hid (Blk W w.heap.size [.int .i64 q, .int .i64 k] 98 ∧ Keeps (fun _ => False) w W) := by rw [hW]; exact ⟨Blk.new w _ _, (Keeps.refl _ w).alloc _⟩
  rw [← hW]
  clear hW
  obtain ⟨T, hT⟩ : ∃ T, T = w.heap.size := ⟨_, rfl⟩
  rw [← hT] at HW ⊢
  have HT : Hid (T = w.heap.size) := hT
  clear hT
  have t0 : W.drew.cell? ⟨T, 0, none⟩ = some (.int .i64 q) := HW.out.1.drew.cell (i := 0) rfl
  have t1 : W.drew.cell? ⟨T, 1, none⟩ = some (.int .i64 k) := HW.out.1.drew.cell (i := 1) rfl
  refine wp_region_held_drew (S := fun w' => w'.cell? ⟨T, 0, none⟩ = some (.int .i64 q) ∧ w'.cell? ⟨T, 1, none⟩ = some (.int .i64 k)) (by kernel_rfl) ⟨t0, t1⟩ (fun hHeld => ?_)
  simp only [List.size_toArray, List.length_cons, List.length_nil, Nat.reduceAdd, Array.replicate_succ, Array.replicate_zero, List.push_toArray, List.append_toArray, List.nil_append, List.cons_append]
  refine wpAnyH_take (i := 0) (v := .agg #[.int .i64 0, .int .i64 0, .int .i64 0, .int .i64 0, .slice none 0 0, .slice none 0 0, .slice none 0 0]) rfl (by kernel_rfl) (by kernel_rfl) (by kernel_rfl) (fun _ _ _ h => h) (Or.inl ⟨by rfl, by (intro w hSw; (try dsimp only at hSw); go_simp)⟩) hHeld ?_
  simp only [Act.put, List.setIfInBounds_toArray, List.set_cons_zero, List.set_cons_succ]
  refine wpAnyH_take (i := 1) (v := .agg #[.int .i64 q, .int .i64 k]) rfl (by kernel_rfl) (by kernel_rfl) (by kernel_rfl) (fun _ _ _ h => h) (Or.inl ⟨by rfl, by (intro w hSw; (try dsimp only at hSw); go_simp)⟩) hHeld ?_
  simp only [Act.put, List.setIfInBounds_toArray, List.set_cons_zero, List.set_cons_succ]
  refine wpAnyH_ready (rs := [2]) (by kernel_rfl) (by simp) ?_
  refine AllReadyH.cons rfl (fun K hK => ?_) AllReadyH.nil
  rw [if_pos (by rfl)]
  have hC1 : Blk W.drew C l 26 := (HH.out.1.kept HW.out.2 fun e => e).drew
  have hne : C ≠ T := by have := HH.out.1.lt; have := HT.out; omega
  have hne2 : D ≠ T := by have := HH.out.2.2.1.lt; have := HT.out; omega
  refine wp_store_row 26 _ _ rfl C #[.int .i64 0, .int .i64 0, .int .i64 0, .int .i64 0, .slice none 0 0, .slice none 0 0, .slice none 0 0] rfl rfl 26 _ hC1 Tryz.size26 (by simp [HH.out.2.1]) (all26 ..) ?_
  have hT1 := HW.out.1.drew.setRow_ne (Ne.symm hne) #[.int .i64 0, .int .i64 0, .int .i64 0, .int .i64 0, .slice none 0 0, .slice none 0 0, .slice none 0 0]
  refine hK.out _ _ ⟨hT1.cell (i := 0) rfl, hT1.cell (i := 1) rfl⟩ (fun hHeld => ?_)
  simp only [Act.put, List.setIfInBounds_toArray, List.set_cons_zero, List.set_cons_succ]
  refine wpAnyH_ready (rs := [3]) (by kernel_rfl) (by simp) ?_
  refine AllReadyH.cons rfl (fun K hK => ?_) AllReadyH.nil
  rw [if_pos (by rfl)]
  have hD1 : Blk (W.drew.setRow C #[.int .i64 0, .int .i64 0, .int .i64 0, .int .i64 0, .slice none 0 0, .slice none 0 0, .slice none 0 0]) D [x, y] 98 := ((HH.out.2.2.1.kept HW.out.2 fun e => e).drew).setRow_ne HH.out.2.2.2.symm _
  refine wp_store_row 98 _ _ rfl D #[.int .i64 q, .int .i64 k] rfl rfl 98 _ hD1 Tryz.size98 rfl (all94 ..) ?_
  have hT2 := hT1.setRow_ne (Ne.symm hne2) #[.int .i64 q, .int .i64 k]
  refine hK.out _ _ ⟨hT2.cell (i := 0) rfl, hT2.cell (i := 1) rfl⟩ (fun hHeld => ?_)
  simp only [Act.put, List.setIfInBounds_toArray, List.set_cons_zero, List.set_cons_succ]
  refine wpAnyH_done (by kernel_rfl) ?_ _
  have hCF := (hC1.setRow [.int .i64 0, .int .i64 0, .int .i64 0, .int .i64 0, .slice none 0 0, .slice none 0 0, .slice none 0 0]).setRow_ne HH.out.2.2.2 #[.int .i64 q, .int .i64 k]
  have hDF := hD1.setRow [.int .i64 q, .int .i64 k]
  have hKF : Keeps (fun k => k = C ∨ k = D) w _ := ((((HW.out.2.mono fun _ _ e => e.elim).drew).setRow C #[.int .i64 0, .int .i64 0, .int .i64 0, .int .i64 0, .slice none 0 0, .slice none 0 0, .slice none 0 0] (fun _ => .inl rfl)).setRow D #[.int .i64 q, .int .i64 k] (fun _ => .inr rfl))
  exact ⟨rfl, _, rfl, _, results_none rfl _ _ _, rfl, rfl, hCF, hDF, hKF⟩

set_option maxHeartbeats 1000000 in
theorem catch_idle (C D : Nat) (w : World) :
    CallsD Tryz.prog 64 #[.pointer (some ⟨C, 0, none⟩), .pointer (some ⟨D, 0, none⟩)] .returning w fun e u' w' => e = .returned (.tuple #[]) ∧ u' = .returning ∧ w' = w := by
  refine callsD_of_wpS Tryz.func64 rfl fun c₀ cs hu => ?_
  apply wpS_seq
  apply wpS_region
  simp [wpOpsS, go_sem, recoverD, hu, Tryz.ntmps64, Exit.thenS]
  refine wpS_of_wp ?_
  simp only [Array.replicate_succ, Array.replicate_zero, List.push_toArray, List.append_toArray, List.nil_append, List.cons_append, List.setIfInBounds_toArray, List.set_cons_succ, List.set_cons_zero]
  go_wp2
  cases c₀
  simp only at hu
  subst hu
  exact ⟨rfl, _, rfl, _, results_none rfl _ _ _, rfl, rfl, rfl⟩
end Go.Proofs.YtjadpbkhfclldaaGreat
namespace Go.Proofs.YtjadpbkhfclldaaGreat
open Go.RowKit
set_option linter.unusedVariables false
set_option maxRecDepth 6000
set_option linter.unusedSimpArgs false

/-- What Decode reads. -/
def dec (B : List UInt8) : Except (Nat × Int) PCfg :=
  match rdMark B 0 with
  | .error q => .error (q, 110)
  | .ok r => match rdCfg B r.2 with
    | .error q => .error (q, 110)
    | .ok x => match rdEnd B x.2 with
      | .error e => .error e
      | .ok _ => .ok x.1

theorem results_cells {P : Program} {fn : Func} {p p2 : Tmp} {ty ty2 : TypeId} (h : fn.results = #[.cell p ty, .cell p2 ty2]) (tmps : Array Value) (w : World) (g g2 : Nat) (t t2 : TypeId) (cs cs2 : Array Value) (d d2 : TypeDesc)
    (hp : tmps.getD p undef = .pointer (some ⟨g, 0, none⟩)) (hg : w.heap[g]? = some (.cells cs t (0, 0))) (hp2 : tmps.getD p2 undef = .pointer (some ⟨g2, 0, none⟩)) (hg2 : w.heap[g2]? = some (.cells cs2 t2 (0, 0)))
    (hu : P.underlying ty = some d) (hd : (match d with | .struct _ | .array _ _ => true | _ => false) = true) (hi : (P.info? ty).map (·.size) = some cs.size)
    (hu2 : P.underlying ty2 = some d2) (hd2 : (match d2 with | .struct _ | .array _ _ => true | _ => false) = true) (hi2 : (P.info? ty2).map (·.size) = some cs2.size) :
    (results fn tmps).run P w = .ok (.tuple #[.agg cs, .agg cs2]) w := by
  have hp' : tmps[p]?.getD undef = .pointer (some ⟨g, 0, none⟩) := by simpa using hp
  have hp2' : tmps[p2]?.getD undef = .pointer (some ⟨g2, 0, none⟩) := by simpa using hp2
  simp [results, h, hp', hp2', asAddr, run_loadVar_row w g t ty cs (0, 0) d hg hu hd hi, run_loadVar_row w g2 t2 ty2 cs2 (0, 0) d2 hg2 hu2 hd2 hi2]

abbrev zCfgR : List Value := [.int .i64 0, .int .i64 0, .int .i64 0, .int .i64 0, .slice none 0 0, .slice none 0 0, .slice none 0 0]
/-- What read answers. -/
def ReadP (w : World) (B : List UInt8) (e : Ending) (w' : World) : Prop :=
  ((∃ x : Cfg, dec B = .ok x.pure ∧ e = .returned (.tuple #[x.v, .agg #[.int .i64 0, .int .i64 0]]) ∧ x.LstsR w' w.heap.size) ∨ (∃ (q : Nat) (k : Int), dec B = .error (q, k) ∧ e = .returned (.tuple #[.agg zCfgR.toArray, .agg #[.int .i64 q, .int .i64 k]]))) ∧ Keeps (fun _ => False) w w'

/-- The way out by a panic. -/
theorem gone_out (w w1 : World) (B : List UInt8) (q : Nat) (k : Int) (C D : Nat) (tmps : Array Value) (l : List Value) (x y : Value) (hC : Blk w1 C l 26) (hl : l.length = 7) (hD : Blk w1 D [x, y] 98) (hne : C ≠ D) (hCw : w.heap.size ≤ C) (hDw : w.heap.size ≤ D)
    (hK : Keeps (fun _ => False) w w1) (hdec : dec B = .error (q, k)) (h2 : tmps.getD 2 undef = .pointer (some ⟨C, 0, none⟩)) (h3 : tmps.getD 3 undef = .pointer (some ⟨D, 0, none⟩)) :
    Leaves Tryz.prog Tryz.f49 tmps (ReadP w B) [{ target := .fn (.func 64) #[.pointer (some ⟨C, 0, none⟩), .pointer (some ⟨D, 0, none⟩)], args := #[] }] (.panicking [{ v := refV q k, recovered := false }]) w1 := by
  refine leaves_cons (f := 64) (args := #[.pointer (some ⟨C, 0, none⟩), .pointer (some ⟨D, 0, none⟩)]) (by simp) (by simp [go_sem]) ?_
  refine (catch_gone C D q k l x y w1 hC hl hD hne).mono ?_
  rintro e u' w2 ⟨rfl, rfl, hC2, hD2, hK2⟩
  refine ⟨_, results_cells rfl tmps w2 C D 26 98 _ _ _ _ h2 hC2 h3 hD2 Tryz.underlying26 rfl Tryz.size26 Tryz.underlying98 rfl Tryz.size98, .inr ⟨q, k, hdec, rfl⟩, hK.trans hK2 ?_⟩
  rintro b hb (e | e)
  · omega
  · omega
theorem idle_out (w w1 : World) (B : List UInt8) (x : Cfg) (C D : Nat) (tmps : Array Value) (hC : Blk w1 C x.vs 26) (hD : Blk w1 D [.int .i64 0, .int .i64 0] 98)
    (hK : Keeps (fun _ => False) w w1) (hdec : dec B = .ok x.pure) (hL : x.LstsR w1 w.heap.size) (h2 : tmps.getD 2 undef = .pointer (some ⟨C, 0, none⟩)) (h3 : tmps.getD 3 undef = .pointer (some ⟨D, 0, none⟩)) :
    Leaves Tryz.prog Tryz.f49 tmps (ReadP w B) [{ target := .fn (.func 64) #[.pointer (some ⟨C, 0, none⟩), .pointer (some ⟨D, 0, none⟩)], args := #[] }] .returning w1 := by
  refine leaves_cons (f := 64) (args := #[.pointer (some ⟨C, 0, none⟩), .pointer (some ⟨D, 0, none⟩)]) (by simp) (by simp [go_sem]) ?_
  refine (catch_idle C D w1).mono ?_
  rintro e u' w2 ⟨rfl, rfl, hw⟩
  obtain rfl := hw.symm
  exact ⟨_, results_cells rfl tmps w1 C D 26 98 _ _ _ _ h2 hC h3 hD Tryz.underlying26 rfl Tryz.size26 Tryz.underlying98 rfl Tryz.size98, .inl ⟨x, hdec, rfl, hL⟩, hK⟩

set_option maxHeartbeats 1000000 in
theorem read_any (B : List UInt8) (a : Option Addr) (cap : Nat) (w : World) (hs : Seg w a B) (hcap : B.length ≤ cap ∧ cap ≤ maxLen) (hB : B.length ≤ 16384) (hlt : B ≠ [] → ∀ y, a = some y → y.block < w.heap.size) :
    Calls Tryz.prog 49 #[.slice a B.length cap] w (ReadP w B) := by
  have hmf : ∀ (fn : Fn) (first cap : Array Value) (w : World), (Instr.makeFunc fn first cap).run Tryz.prog w = .ok (.func fn first cap) w := fun _ _ _ _ => rfl
  obtain ⟨L, hL⟩ : ∃ L, B.length = L := ⟨_, rfl⟩
  have HS : Hid (Seg w a B ∧ B.length = L ∧ (B ≠ [] → ∀ y, a = some y → y.block < w.heap.size) ∧ B.length ≤ 16384 ∧ L ≤ cap ∧ cap ≤ maxLen) := ⟨hs, hL, hlt, hB, by omega, hcap.2⟩
  rw [hL]
  obtain ⟨C, hC⟩ : ∃ C, C = w.heap.size := ⟨_, rfl⟩
  have HC : Hid (C = w.heap.size) := hC
  clear hs hL hlt hB hcap
  go_enter_defers Tryz.func49, Tryz.ntmps49
  go_wp2_with fail
  rw [← hC]
  obtain ⟨W1, hW1⟩ : ∃ W1, W1 = (w.alloc (.cells #[.int .i64 0, .int .i64 0, .int .i64 0, .int .i64 0, .slice none 0 0, .slice none 0 0, .slice none 0 0] 26)).alloc (.cells #[.int .i64 0, .int .i64 0] 98) := ⟨_, rfl⟩
  have hC1 : Blk W1 C zCfgR 26 := by rw [hW1, hC]; exact (Blk.new w _ _).alloc _
  have hD1 : Blk W1 (C + 1) [.int .i64 0, .int .i64 0] 98 := by rw [hW1, hC]; have := Blk.new (w.alloc (.cells #[.int .i64 0, .int .i64 0, .int .i64 0, .int .i64 0, .slice none 0 0, .slice none 0 0, .slice none 0 0] 26)) #[.int .i64 0, .int .i64 0] 98; simpa using this
  have hK1 : Keeps (fun _ => False) w W1 := by rw [hW1]; exact ((Keeps.refl _ w).alloc _).alloc _
  have hz1 : W1.heap.size = C + 2 := by rw [hW1, hC]; simp
  rw [← hW1]
  have H1 : Hid (Blk W1 C zCfgR 26 ∧ Blk W1 (C + 1) [.int .i64 0, .int .i64 0] 98 ∧ Keeps (fun _ => False) w W1 ∧ W1.heap.size = C + 2) := ⟨hC1, hD1, hK1, hz1⟩
  have HN := newReader_any a cap B W1 (HS.out.1.keptB hK1 fun _ _ _ e => e) (by have := HS.out.2.2.2.1; omega)
  rw [HS.out.2.1, hz1] at HN
  clear hC1 hD1 hK1 hz1 hW1 hC
  refine HN.mono ?_
  rintro e w2 ⟨rfl, hR2, hK2⟩
  have H2 : Hid (Rd w2 (C + 2 + 1) (C + 2) B 0 0 ∧ Keeps (fun _ => False) W1 w2) := ⟨hR2, hK2⟩
  clear HN hR2 hK2
  go_wp2_with fail
  obtain ⟨R, hR⟩ : ∃ R, R = w2.heap.size := ⟨_, rfl⟩
  obtain ⟨W3, hW3⟩ : ∃ W3, W3 = w2.alloc (.cells #[.pointer (some ⟨C + 2 + 1, 0, none⟩)] 126) := ⟨_, rfl⟩
  have hK3 : Keeps (fun _ => False) w2 W3 := by rw [hW3]; exact (Keeps.refl _ _).alloc _
  have H3 : Hid (Blk W3 R [.pointer (some ⟨C + 2 + 1, 0, none⟩)] 126 ∧ C + 2 + 1 < R ∧ Rd W3 (C + 2 + 1) (C + 2) B 0 0 ∧ Keeps (fun _ => False) w W3 ∧ Blk W3 C zCfgR 26 ∧ Blk W3 (C + 1) [.int .i64 0, .int .i64 0] 98) := by
    refine ⟨by rw [hW3, hR]; exact Blk.new _ _ _, by rw [hR]; exact H2.out.1.blk.lt, H2.out.1.kept hK3 (fun e => e) (fun e => e), (H1.out.2.2.1.trans H2.out.2 fun _ _ e => e).trans hK3 fun _ _ e => e, (H1.out.1.kept H2.out.2 fun e => e).kept hK3 fun e => e, (H1.out.2.1.kept H2.out.2 fun e => e).kept hK3 fun e => e⟩
  rw [← hW3, ← hR]
  clear hK3 hW3 hR H2 H1
  refine (mark_any (C + 2 + 1) (C + 2) 0 B W3 H3.out.2.2.1).mono ?_
  rintro e w4 ⟨⟨q, hr, rfl, hR4⟩ | ⟨q, hr, rfl⟩, hK4⟩
  rotate_left
  · refine gone_out w w4 B q 110 C (C + 1) _ zCfgR _ _ (H3.out.2.2.2.2.1.kept hK4 (by omega)) rfl (H3.out.2.2.2.2.2.kept hK4 (by omega)) (by omega) (by have := HC.out; omega) (by have := HC.out; omega) (H3.out.2.2.2.1.trans hK4 fun k hk e => by have := HC.out; omega) ?_ rfl rfl
    unfold dec; rw [hr]
  have H4 : Hid (rdMark B 0 = .ok ((), q) ∧ Rd w4 (C + 2 + 1) (C + 2) B q 0 ∧ Keeps (fun _ => False) w w4 ∧ Blk w4 C zCfgR 26 ∧ Blk w4 (C + 1) [.int .i64 0, .int .i64 0] 98 ∧ Blk w4 R [.pointer (some ⟨C + 2 + 1, 0, none⟩)] 126 ∧ C + 2 + 1 < R) :=
    ⟨hr, hR4, H3.out.2.2.2.1.trans hK4 fun k hk e => by have := HC.out; omega, H3.out.2.2.2.2.1.kept hK4 (by omega), H3.out.2.2.2.2.2.kept hK4 (by omega), H3.out.1.kept hK4 (by have := H3.out.2.1; omega), H3.out.2.1⟩
  clear hr hR4 hK4 H3
  have r0 := H4.out.2.2.2.2.2.1.cell (i := 0) rfl
  go_wp2_with fail
  refine (rconfig_any (C + 2 + 1) (C + 2) q B w4 H4.out.2.1).mono ?_
  rintro e w5 ⟨⟨x, q2, hr, rfl, hX, hR5⟩ | ⟨q2, hr, rfl⟩, hK5⟩
  rotate_left
  · refine gone_out w w5 B q2 110 C (C + 1) _ zCfgR _ _ (H4.out.2.2.2.1.kept hK5 (by omega)) rfl (H4.out.2.2.2.2.1.kept hK5 (by omega)) (by omega) (by have := HC.out; omega) (by have := HC.out; omega) (H4.out.2.2.1.trans hK5 fun k hk e => by have := HC.out; omega) ?_ rfl rfl
    unfold dec; rw [H4.out.1]; simp only; rw [hr]
  have hlt4 : C + 2 + 1 < w4.heap.size := H4.out.2.1.blk.lt
  obtain ⟨n1, n2, n3, n4, ca, cc, cs, pa, pc, ps, ha, hc, hs⟩ := x
  obtain ⟨X, hXX⟩ : ∃ X : Cfg, X = ⟨n1, n2, n3, n4, ca, cc, cs, pa, pc, ps, ha, hc, hs⟩ := ⟨_, rfl⟩
  rw [← hXX] at hr hX ⊢
  have HX : Hid (X = ⟨n1, n2, n3, n4, ca, cc, cs, pa, pc, ps, ha, hc, hs⟩) := hXX
  obtain ⟨L1, hL1⟩ : ∃ L, cs.length = L := ⟨_, rfl⟩
  obtain ⟨L2, hL2⟩ : ∃ L, ps.length = L := ⟨_, rfl⟩
  obtain ⟨L3, hL3⟩ : ∃ L, hs.length = L := ⟨_, rfl⟩
  have hv : X.v = .agg #[.int .i64 n1, .int .i64 n2, .int .i64 n3, .int .i64 n4, .slice ca L1 cc, .slice pa L2 pc, .slice ha L3 hc] := by rw [hXX, ← hL1, ← hL2, ← hL3]
  have HV : Hid (X.vs = [.int .i64 n1, .int .i64 n2, .int .i64 n3, .int .i64 n4, .slice ca L1 cc, .slice pa L2 pc, .slice ha L3 hc]) := by show X.vs = [.int .i64 n1, .int .i64 n2, .int .i64 n3, .int .i64 n4, .slice ca L1 cc, .slice pa L2 pc, .slice ha L3 hc]; rw [hXX, ← hL1, ← hL2, ← hL3]
  rw [hv]
  clear hXX hv hL1 hL2 hL3
  have HB5 : Hid (Blk w5 C zCfgR 26) := H4.out.2.2.2.1.kept hK5 (by omega)
  obtain ⟨w6, hw6⟩ : ∃ w6, w6 = w5.setRow C #[.int .i64 n1, .int .i64 n2, .int .i64 n3, .int .i64 n4, .slice ca L1 cc, .slice pa L2 pc, .slice ha L3 hc] := ⟨_, rfl⟩
  have hK6 : Keeps (· = C) w5 w6 := by rw [hw6]; exact (Keeps.refl _ _).setRow C _ fun _ => rfl
  have H6 : Hid (dec B = (match rdEnd B q2 with | .error e => .error e | .ok _ => .ok X.pure) ∧ X.LstsR w6 w4.heap.size ∧ Rd w6 (C + 2 + 1) (C + 2) B q2 0 ∧ Keeps (fun _ => False) w w6 ∧ Blk w6 C [.int .i64 n1, .int .i64 n2, .int .i64 n3, .int .i64 n4, .slice ca L1 cc, .slice pa L2 pc, .slice ha L3 hc] 26 ∧ Blk w6 (C + 1) [.int .i64 0, .int .i64 0] 98 ∧ Blk w6 R [.pointer (some ⟨C + 2 + 1, 0, none⟩)] 126 ∧ C + 2 + 1 < R ∧ C + 2 + 1 < w4.heap.size ∧ w.heap.size ≤ w4.heap.size) := by
    have hlo : ∀ k, k = C → k < w4.heap.size := fun k e => by omega
    refine ⟨?_, ⟨hX.cs.kept hK6 hlo, hX.ps.kept hK6 hlo, hX.hs.kept hK6 hlo, hX.ns, hX.d1, hX.d2, hX.d3⟩, hR5.kept hK6 (by omega) (by omega), (H4.out.2.2.1.trans hK5 fun k hk e => by have := HC.out; omega).trans hK6 fun k hk e => by have := HC.out; omega, ?_, (H4.out.2.2.2.2.1.kept hK5 (by omega)).kept hK6 (by omega), (H4.out.2.2.2.2.2.1.kept hK5 (by have := H4.out.2.2.2.2.2.2; omega)).kept hK6 (by have := H4.out.2.2.2.2.2.2; omega), H4.out.2.2.2.2.2.2, hlt4, H4.out.2.2.1.size⟩
    · unfold dec; rw [H4.out.1]; simp only; rw [hr]
    · rw [hw6]; exact HB5.out.setRow [.int .i64 n1, .int .i64 n2, .int .i64 n3, .int .i64 n4, .slice ca L1 cc, .slice pa L2 pc, .slice ha L3 hc]
  clear hr hX hR5 hK5 hK6 hlt4 H4 r0
  go_wp2_with (refine wpList_store_row rfl 26 (.tmp 2) (.tmp 12) rfl C #[.int .i64 n1, .int .i64 n2, .int .i64 n3, .int .i64 n4, .slice ca L1 cc, .slice pa L2 pc, .slice ha L3 hc] rfl rfl 26 _ HB5.out Tryz.size26 rfl (all26 ..) ?_; refine Hid.out ?_)
  unfold Hid
  rw [← hw6]
  clear hw6 HB5
  have r0 := H6.out.2.2.2.2.2.2.1.cell (i := 0) rfl
  go_wp2_with fail
  have HE := rsum_any (C + 2 + 1) (C + 2) q2 B a cap w6 H6.out.2.2.1 (HS.out.1.keptB H6.out.2.2.2.1 fun _ _ _ e => e) (fun h1 y h2 => by have := HS.out.2.2.1 h1 y h2; have := HC.out; omega) (by have := HS.out; omega)
  rw [HS.out.2.1] at HE
  refine HE.mono ?_
  clear HE
  rintro e w7 ⟨⟨hr, rfl⟩ | ⟨q3, k3, hr, rfl⟩, hK7⟩
  rotate_left
  · refine gone_out w w7 B q3 k3 C (C + 1) _ [.int .i64 n1, .int .i64 n2, .int .i64 n3, .int .i64 n4, .slice ca L1 cc, .slice pa L2 pc, .slice ha L3 hc] _ _ (H6.out.2.2.2.2.1.kept hK7 (by omega)) rfl (H6.out.2.2.2.2.2.1.kept hK7 (by omega)) (by omega) (by have := HC.out; omega) (by have := HC.out; omega) (H6.out.2.2.2.1.trans hK7 fun k hk e => by have := HC.out; omega) ?_ rfl rfl
    rw [H6.out.1, hr]
  have H7 : Hid (dec B = .ok X.pure ∧ (X.LstsR w7 w4.heap.size ∧ C + 2 + 1 < w4.heap.size ∧ w.heap.size ≤ w4.heap.size) ∧ Keeps (fun _ => False) w w7 ∧ Blk w7 C [.int .i64 n1, .int .i64 n2, .int .i64 n3, .int .i64 n4, .slice ca L1 cc, .slice pa L2 pc, .slice ha L3 hc] 26 ∧ Blk w7 (C + 1) [.int .i64 0, .int .i64 0] 98 ∧ C + 2 ≤ w7.heap.size) := by
    have h8 := H6.out.2.2.2.2.2.2.2.2
    have hlo : ∀ k, k = C + 2 + 1 → k < w4.heap.size := fun k e => by omega
    have hX := H6.out.2.1
    refine ⟨by rw [H6.out.1, hr], ⟨⟨hX.cs.kept hK7 hlo, hX.ps.kept hK7 hlo, hX.hs.kept hK7 hlo, hX.ns, hX.d1, hX.d2, hX.d3⟩, h8.1, h8.2⟩, H6.out.2.2.2.1.trans hK7 fun k hk e => by have := HC.out; omega, H6.out.2.2.2.2.1.kept hK7 (by omega), H6.out.2.2.2.2.2.1.kept hK7 (by omega), (H6.out.2.2.2.2.2.1.kept hK7 (by omega)).lt⟩
  clear hr hK7 H6 r0
  obtain ⟨w8, hw8⟩ : ∃ w8, w8 = w7.setRow C #[.int .i64 n1, .int .i64 n2, .int .i64 n3, .int .i64 n4, .slice ca L1 cc, .slice pa L2 pc, .slice ha L3 hc] := ⟨_, rfl⟩
  obtain ⟨w9, hw9⟩ : ∃ w9, w9 = w8.setRow (C + 1) #[.int .i64 0, .int .i64 0] := ⟨_, rfl⟩
  have hB8 : Blk w8 (C + 1) [.int .i64 0, .int .i64 0] 98 := by rw [hw8]; exact H7.out.2.2.2.2.1.setRow_ne (by omega) _
  have hC8 : Blk w8 C [.int .i64 n1, .int .i64 n2, .int .i64 n3, .int .i64 n4, .slice ca L1 cc, .slice pa L2 pc, .slice ha L3 hc] 26 := by rw [hw8]; exact H7.out.2.2.2.1.setRow [.int .i64 n1, .int .i64 n2, .int .i64 n3, .int .i64 n4, .slice ca L1 cc, .slice pa L2 pc, .slice ha L3 hc]
  have hK8 : Keeps (· = C) w7 w8 := by rw [hw8]; exact (Keeps.refl _ _).setRow C _ fun _ => rfl
  have hK9 : Keeps (· = C + 1) w8 w9 := by rw [hw9]; exact (Keeps.refl _ _).setRow (C + 1) _ fun _ => rfl
  have hB9 : Blk w9 (C + 1) [.int .i64 0, .int .i64 0] 98 := by rw [hw9]; exact hB8.setRow [.int .i64 0, .int .i64 0]
  have H9 : Hid (Blk w9 C X.vs 26 ∧ Blk w9 (C + 1) [.int .i64 0, .int .i64 0] 98 ∧ Keeps (fun _ => False) w w9 ∧ X.LstsR w9 w.heap.size) := by
    have hX := H7.out.2.1
    have h1 : Keeps (fun k => k = C ∨ k = C + 1) w7 w9 := (hK8.mono fun _ _ e => .inl e).trans hK9 fun _ _ e => .inr e
    refine ⟨?_, hB9, H7.out.2.2.1.trans h1 ?_, ?_⟩
    · rw [HV.out]; exact hC8.kept hK9 (by omega)
    · intro k hk e; have := HC.out; omega
    · have hlo : ∀ k, k = C ∨ k = C + 1 → k < w4.heap.size := fun k e => by have := hX.2.1; omega
      exact ⟨(hX.1.cs.kept h1 hlo).mono hX.2.2, (hX.1.ps.kept h1 hlo).mono hX.2.2, (hX.1.hs.kept h1 hlo).mono hX.2.2, hX.1.ns, hX.1.d1, hX.1.d2, hX.1.d3⟩
  have HB8 : Hid (Blk w8 (C + 1) [.int .i64 0, .int .i64 0] 98) := hB8
  clear hB8 hC8 hK8 hK9 hB9
  go_wp2_with (first | (refine wpList_load_row rfl 26 (.tmp 2) rfl C rfl 26 _ (0, 0) _ H7.out.2.2.2.1 Tryz.underlying26 rfl Tryz.size26 ?_) | (refine wpList_store_row rfl 26 (.tmp 2) (.tmp 16) rfl C #[.int .i64 n1, .int .i64 n2, .int .i64 n3, .int .i64 n4, .slice ca L1 cc, .slice pa L2 pc, .slice ha L3 hc] rfl rfl 26 _ H7.out.2.2.2.1 Tryz.size26 rfl (all26 ..) ?_; refine Hid.out ?_))
  unfold Hid
  rw [← hw8]
  clear hw8
  go_wp2_with (refine wpList_store_row rfl 98 (.tmp 3) (.tmp 17) rfl (C + 1) #[.int .i64 0, .int .i64 0] rfl rfl 98 _ HB8.out Tryz.size98 rfl (all94 ..) ?_; refine Hid.out ?_)
  unfold Hid
  rw [← hw9]
  clear hw9 HB8
  go_wp2
  exact idle_out w w9 B X C (C + 1) _ H9.out.1 H9.out.2.1 H9.out.2.2.1 H7.out.1 H9.out.2.2.2 rfl rfl
end Go.Proofs.YtjadpbkhfclldaaGreat
