import Derived.Test.YtlnmlbkeemahcaaGreatQh
namespace Go.Proofs.YtlnmlbkeemahcaaGreat
open Go.RowKit
set_option linter.unusedVariables false
set_option linter.unusedSimpArgs false
set_option maxRecDepth 6000
theorem within_k (n a b : Int) (w : World) : Calls Tryz.prog 36 #[.int .i64 n, .int .i64 a, .int .i64 b] w fun e w' => e = .returned (.bool (inR n a b)) ∧ KF w w' :=
 (within_any n a b w).mono fun e w' h => ⟨h.1, by rw [h.2]; exact Keeps.refl _ _⟩
theorem isName_k (s : ByteArray) (hs : s.size ≤ 9223372036854775807) (w : World) : Calls Tryz.prog 58 #[.string s] w fun e w' => e = .returned (.bool (nameB s)) ∧ KF w w' :=
 (isName_any s hs w).mono fun e w' h => ⟨h.1, by rw [h.2]; exact Keeps.refl _ _⟩
def Bls (L : List (Nat × List Value × TypeId)) (w : World) : Prop := ∀ b ∈ L, Blk w b.1 b.2.1 b.2.2
theorem Bls.kept {L : List (Nat × List Value × TypeId)} {w w' : World} (h : Bls L w) (hK : KF w w') : Bls L w' := fun b hb => (h b hb).kept hK fun h => h
def BI (w : World) (L : List (Nat × List Value × TypeId)) (w' : World) : Prop := Bls L w' ∧ KF w w'
theorem BI.kept {w w' w'' : World} {L : List (Nat × List Value × TypeId)} (h : BI w L w') (hK : KF w' w'') : BI w L w'' := ⟨h.1.kept hK, h.2.trans hK fun _ _ h => h⟩
theorem BI.box {w : World} {L : List (Nat × List Value × TypeId)} (h : Bls L w) (cs : List Value) (t : TypeId) : BI w ((w.heap.size, cs, t) :: L) (w.alloc (.cells cs.toArray t)) := by
 refine ⟨fun b hb => ?_, (Keeps.refl _ _).alloc _⟩
 rcases List.mem_cons.1 hb with rfl | hb
 ·
  exact Blk.new _ _ _
 ·
  exact (h b hb).kept ((Keeps.refl (fun _ => False) _).alloc _) fun h => h
structure RunOf (f : Nat) (ro : Rgn → Rn) : Prop where
 ent : ∀ args w, (callFunc f args).run Tryz.prog w = .ok (.enter f args) w
 call : ∀ (r : Rgn) (w : World), Calls Tryz.prog f #[r.v] w fun e w' => e = .returned (ro r).v ∧ KF w w'
theorem run_pages : RunOf 96 Rgn.pg := ⟨fun args w => enter_fn Tryz.func96 rfl rfl args w, pagesOf_any⟩
theorem run_frames : RunOf 85 Rgn.fr := ⟨fun args w => enter_fn Tryz.func85 rfl rfl args w, framesOf_any⟩
set_option maxHeartbeats 4000000 in
theorem meetClo (f : Nat) (ro : Rgn → Rn) (r : Rgn) (o : Rn) (F O : Nat) (hF : RunOf f ro) (hr : (ro r).Ok) (ho : o.Ok) (w : World) (hE : Bls [(F, [.func (.func f) #[] #[]], 104), (O, [.int .i64 o.f, .int .i64 o.s], 102)] w) : Calls Tryz.prog 108 #[r.v, .pointer (some ⟨F, 0, none⟩), .pointer (some ⟨O, 0, none⟩)] w fun e w' => e = .returned (.bool ((ro r).meets o)) ∧ KF w w' := by
 have HF : Hid (RunOf f ro) := hF
 have hent := hF.ent
 have HM : Hid (∀ w, Calls Tryz.prog 102 #[(ro r).v, o.v] w fun e w' => e = .returned (.bool ((ro r).meets o)) ∧ KF w w') := fun w => meets_any (ro r) o hr ho w
 clear hF hr ho
 obtain ⟨W, hW⟩ : ∃ W, W = w.alloc (.cells #[.int .i64 r.page, .int .i64 r.pages, .int .i64 r.frame, .int .i64 r.rights] 54) := ⟨_, rfl⟩
 obtain ⟨P, hP⟩ : ∃ P, P = w.heap.size := ⟨_, rfl⟩
 have HS : Hid (∀ w', Bls [(P, [.int .i64 r.page, .int .i64 r.pages, .int .i64 r.frame, .int .i64 r.rights], 54), (F, [.func (.func f) #[] #[]], 104), (O, [.int .i64 o.f, .int .i64 o.s], 102)] w' → (w'.cell? ⟨P, 0, none⟩ = some (.int .i64 r.page) ∧ w'.cell? ⟨P, 1, none⟩ = some (.int .i64 r.pages) ∧ w'.cell? ⟨P, 2, none⟩ = some (.int .i64 r.frame) ∧ w'.cell? ⟨P, 3, none⟩ = some (.int .i64 r.rights) ∧ w'.cell? ⟨F, 0, none⟩ = some (.func (.func f) #[] #[]) ∧ w'.cell? ⟨O, 0, none⟩ = some (.int .i64 o.f) ∧ w'.cell? ⟨O, 1, none⟩ = some (.int .i64 o.s))) := fun w' h => ⟨(h _ (.head _)).cell (i := 0) rfl, (h _ (.head _)).cell (i := 1) rfl, (h _ (.head _)).cell (i := 2) rfl, (h _ (.head _)).cell (i := 3) rfl, (h _ (.tail _ (.head _))).cell (i := 0) rfl, (h _ (.tail _ (.tail _ (.head _)))).cell (i := 0) rfl, (h _ (.tail _ (.tail _ (.head _)))).cell (i := 1) rfl⟩
 have HO : Hid (BI w [(P, [.int .i64 r.page, .int .i64 r.pages, .int .i64 r.frame, .int .i64 r.rights], 54), (F, [.func (.func f) #[] #[]], 104), (O, [.int .i64 o.f, .int .i64 o.s], 102)] W) := by rw [hW, hP]; exact BI.box hE _ _
 clear hE
 go_enter Tryz.func108, Tryz.ntmps108
 go_upto_region 1 with fail
 rw [← hW, ← hP]
 clear hW hP
 refine wp_region_held_drew (S := (fun w' => w'.cell? ⟨P, 0, none⟩ = some (.int .i64 r.page) ∧ w'.cell? ⟨P, 1, none⟩ = some (.int .i64 r.pages) ∧ w'.cell? ⟨P, 2, none⟩ = some (.int .i64 r.frame) ∧ w'.cell? ⟨P, 3, none⟩ = some (.int .i64 r.rights) ∧ w'.cell? ⟨F, 0, none⟩ = some (.func (.func f) #[] #[]) ∧ w'.cell? ⟨O, 0, none⟩ = some (.int .i64 o.f) ∧ w'.cell? ⟨O, 1, none⟩ = some (.int .i64 o.s))) Tryz.mixd (HS.out _ (HO.out.kept ((Keeps.refl _ _).drew)).1) (fun hHeld => ?_)
 simp only [t1, t2, List.length_nil, Nat.reduceAdd, t4, Array.replicate_zero, t6, List.append_toArray, List.nil_append, t8]
 refine tk 0 (.func (.func f) #[] #[]) hHeld ?_
 refine tk 1 (.agg #[.int .i64 r.page, .int .i64 r.pages, .int .i64 r.frame, .int .i64 r.rights]) hHeld ?_
 refine tk 3 (.agg #[.int .i64 o.f, .int .i64 o.s]) hHeld ?_
 simp only [Act.put, s1, s2, s3]
 refine rd 2 fun K hK => ?_
 go_simp
 refine (HF.out.call r W.drew).mono ?_
 rintro r w1 ⟨rfl, hKc⟩
 have HO1 : Hid (BI w [(P, [.int .i64 r.page, .int .i64 r.pages, .int .i64 r.frame, .int .i64 r.rights], 54), (F, [.func (.func f) #[] #[]], 104), (O, [.int .i64 o.f, .int .i64 o.s], 102)] w1) := HO.out.kept (((Keeps.refl _ _).drew).trans hKc fun _ _ h => h)
 clear hKc
 refine hK.out _ _ (HS.out _ HO1.out.1) (fun hHeld => ?_)
 simp only [Act.put, s1, s2, s3]
 refine rd 4 fun K hK => ?_
 go_simp
 refine (HM.out w1).mono ?_
 rintro r w2 ⟨rfl, hKc⟩
 have HO2 : Hid (BI w [(P, [.int .i64 r.page, .int .i64 r.pages, .int .i64 r.frame, .int .i64 r.rights], 54), (F, [.func (.func f) #[] #[]], 104), (O, [.int .i64 o.f, .int .i64 o.s], 102)] w2) := HO1.out.kept hKc
 clear hKc
 refine hK.out _ _ (HS.out _ HO2.out.1) (fun hHeld => ?_)
 simp only [Act.put, s1, s2, s3]
 refine tk 5 (.bool ((ro r).meets o)) hHeld ?_
 simp only [Act.put, s1, s2, s3]
 refine wpAnyH_done (by kernel_rfl) ?_ _
 clear hHeld
 go_wp2
 go_ret
 exact ⟨rfl, HO2.out.2⟩
theorem anyMeets_any (f : Nat) (ro : Rgn → Rn) (hF : RunOf f ro) (rs : List Rgn) (a : Option Addr) (cap : Nat) (o : Rn) (ho : o.Ok) (hr : ∀ r ∈ rs, (ro r).Ok) (hlen : rs.length ≤ cap ∧ cap ≤ maxLen) (w : World) (hS : SegA Rgn.vs 4 w a rs) :
  Calls Tryz.prog 84 #[.slice a rs.length cap, .func (.func f) #[] #[], o.v] w fun e w' => e = .returned (.bool (rs.any fun r => (ro r).meets o)) ∧ KF w w' := by
 obtain ⟨W0, hW0⟩ : ∃ W0, W0 = w.alloc (.cells #[.func (.func f) #[] #[]] 104) := ⟨_, rfl⟩
 obtain ⟨W, hW⟩ : ∃ W, W = W0.alloc (.cells #[.int .i64 o.f, .int .i64 o.s] 102) := ⟨_, rfl⟩
 obtain ⟨F, hFe⟩ : ∃ F, F = w.heap.size := ⟨_, rfl⟩
 obtain ⟨O, hO⟩ : ∃ O, O = w.heap.size + 1 := ⟨_, rfl⟩
 have hO0 : O = W0.heap.size := by rw [hO, hW0]; simp
 have hb0 : BI w [(F, [.func (.func f) #[] #[]], 104)] W0 := by rw [hW0, hFe]; exact BI.box (fun b hb => by cases hb) _ _
 have hb1 : BI W0 [(O, [.int .i64 o.f, .int .i64 o.s], 102), (F, [.func (.func f) #[] #[]], 104)] W := by rw [hW, hO0]; exact BI.box hb0.1 _ _
 have kW : KF w W := hb0.2.trans hb1.2 fun _ _ h => h
 have HC : Hid (Calls Tryz.prog 100 #[.slice a rs.length cap, .func (.func 108) #[] #[.pointer (some ⟨F, 0, none⟩), .pointer (some ⟨O, 0, none⟩)]] W fun e w' => e = .returned (.bool (rs.any fun r => (ro r).meets o)) ∧ KF W w') := by
  refine containsFunc_rgn rs a cap 108 _ (fun w' => Bls [(F, [.func (.func f) #[] #[]], 104), (O, [.int .i64 o.f, .int .i64 o.s], 102)] w' ∧ SegA Rgn.vs 4 w' a rs) _ (fun args w => enter_fn Tryz.func108 rfl rfl args w) (fun w w' h k => ⟨h.1.kept k, h.2.kept k fun _ _ _ h => h⟩) (fun w h => h.2) hlen (fun r hr1 w' h => ?_) W ⟨fun b hb => ?_, hS.kept kW fun _ _ _ h => h⟩
  ·
   exact meetClo f ro r o F O hF (hr r hr1) ho w' h.1
  ·
   rcases List.mem_cons.1 hb with rfl | hb
   ·
    exact hb1.1 _ (.tail _ (.head _))
   ·
    rcases List.mem_cons.1 hb with rfl | hb
    ·
     exact hb1.1 _ (.head _)
    ·
     cases hb
 have HK : Hid (KF w W) := kW
 obtain ⟨L, hL⟩ : ∃ L, rs.length = L := ⟨_, rfl⟩
 obtain ⟨B, hB⟩ : ∃ B, (rs.any fun r => (ro r).meets o) = B := ⟨_, rfl⟩
 rw [hL, hB] at HC
 rw [hL, hB]
 clear hL hB kW hb0 hb1 hO0 hS hlen hr ho hF
 go_enter Tryz.func84, Tryz.ntmps84
 go_upto_region 1 with fail
 rw [← hW0, ← hW, ← hO, ← hFe]
 clear hW hW0 hO hFe
 go_wp2_with fail
 refine HC.out.mono ?_
 rintro e w1 ⟨rfl, hK⟩
 have HK1 : Hid (KF w w1) := HK.out.trans hK fun _ _ h => h
 clear hK HC
 go_wp2
 go_ret
 exact ⟨rfl, HK1.out⟩
def Rgn.runs (o : Rn) (r : Rgn) : Bool := decide (4 ≤ r.rights) && r.pg.meets o
set_option maxHeartbeats 4000000 in
theorem beginClo1 (p n f : Int) (o : Rn) (O : Nat) (hr : (Rgn.pg ⟨p, n, f, 1⟩).Ok) (ho : o.Ok) (w : World) (hE : Bls [(O, [.int .i64 o.f, .int .i64 o.s], 102)] w) : Calls Tryz.prog 101 #[(Rgn.v ⟨p, n, f, 1⟩), .pointer (some ⟨O, 0, none⟩)] w fun e w' => e = .returned (.bool (Rgn.runs o ⟨p, n, f, 1⟩)) ∧ KF w w' := by
 have qb : bits BinOp.and IntKind.i64 1 4 = 0 := by kernel_rfl
 have HM : Hid (∀ w, Calls Tryz.prog 102 #[(Rgn.pg ⟨p, n, f, 1⟩).v, o.v] w fun e w' => e = .returned (.bool ((Rgn.pg ⟨p, n, f, 1⟩).meets o)) ∧ KF w w') := fun w => meets_any _ o hr ho w
 have HP : Hid (∀ w, Calls Tryz.prog 96 #[.agg #[.int .i64 p, .int .i64 n, .int .i64 f, .int .i64 1]] w fun e w' => e = .returned (Rgn.pg ⟨p, n, f, 1⟩).v ∧ KF w w') := fun w => pagesOf_any ⟨p, n, f, 1⟩ w
 clear hr ho
 obtain ⟨W, hW⟩ : ∃ W, W = w.alloc (.cells #[.int .i64 p, .int .i64 n, .int .i64 f, .int .i64 1] 54) := ⟨_, rfl⟩
 obtain ⟨P, hP⟩ : ∃ P, P = w.heap.size := ⟨_, rfl⟩
 have HS : Hid (∀ w', Bls [(P, [.int .i64 p, .int .i64 n, .int .i64 f, .int .i64 1], 54), (O, [.int .i64 o.f, .int .i64 o.s], 102)] w' → (w'.cell? ⟨P, 0, none⟩ = some (.int .i64 p) ∧ w'.cell? ⟨P, 1, none⟩ = some (.int .i64 n) ∧ w'.cell? ⟨P, 2, none⟩ = some (.int .i64 f) ∧ w'.cell? ⟨P, 3, none⟩ = some (.int .i64 1) ∧ w'.cell? ⟨O, 0, none⟩ = some (.int .i64 o.f) ∧ w'.cell? ⟨O, 1, none⟩ = some (.int .i64 o.s))) := fun w' h => ⟨(h _ (.head _)).cell (i := 0) rfl, (h _ (.head _)).cell (i := 1) rfl, (h _ (.head _)).cell (i := 2) rfl, (h _ (.head _)).cell (i := 3) rfl, (h _ (.tail _ (.head _))).cell (i := 0) rfl, (h _ (.tail _ (.head _))).cell (i := 1) rfl⟩
 have HO : Hid (BI w [(P, [.int .i64 p, .int .i64 n, .int .i64 f, .int .i64 1], 54), (O, [.int .i64 o.f, .int .i64 o.s], 102)] W) := by rw [hW, hP]; exact BI.box hE _ _
 clear hE
 go_enter Tryz.func101, Tryz.ntmps101
 go_upto_region 1 with fail
 rw [← hW, ← hP]
 clear hW hP
 refine wp_region_held_drew (S := (fun w' => w'.cell? ⟨P, 0, none⟩ = some (.int .i64 p) ∧ w'.cell? ⟨P, 1, none⟩ = some (.int .i64 n) ∧ w'.cell? ⟨P, 2, none⟩ = some (.int .i64 f) ∧ w'.cell? ⟨P, 3, none⟩ = some (.int .i64 1) ∧ w'.cell? ⟨O, 0, none⟩ = some (.int .i64 o.f) ∧ w'.cell? ⟨O, 1, none⟩ = some (.int .i64 o.s))) Tryz.mixd (HS.out _ (HO.out.kept ((Keeps.refl _ _).drew)).1) (fun hHeld => ?_)
 simp only [t1, t2, List.length_nil, Nat.reduceAdd, t4, Array.replicate_zero, t6, List.append_toArray, List.nil_append, t8]
 refine tk 0 (.pointer (some ⟨P, 3, none⟩)) hHeld ?_
 refine tk 1 (.int .i64 1) hHeld ?_
 refine tk 2 (.int .i64 0) hHeld ?_
 refine tk 3 (.bool false) hHeld ?_
 refine tk 4 (.bool false) hHeld ?_
 refine tn 5 hHeld ?_
 refine tn 7 hHeld ?_
 refine tn 6 hHeld ?_
 refine tn 8 hHeld ?_
 refine tk 9 (.bool false) hHeld ?_
 refine tk 10 (.bool false) hHeld ?_
 simp only [Act.put, s1, s2, s3]
 refine wpAnyH_done (by kernel_rfl) ?_ _
 clear hHeld
 go_wp2
 go_ret
 exact ⟨rfl, (HO.out.kept ((Keeps.refl _ _).drew)).2⟩
set_option maxHeartbeats 4000000 in
theorem beginClo2 (p n f : Int) (o : Rn) (O : Nat) (hr : (Rgn.pg ⟨p, n, f, 2⟩).Ok) (ho : o.Ok) (w : World) (hE : Bls [(O, [.int .i64 o.f, .int .i64 o.s], 102)] w) : Calls Tryz.prog 101 #[(Rgn.v ⟨p, n, f, 2⟩), .pointer (some ⟨O, 0, none⟩)] w fun e w' => e = .returned (.bool (Rgn.runs o ⟨p, n, f, 2⟩)) ∧ KF w w' := by
 have qb : bits BinOp.and IntKind.i64 2 4 = 0 := by kernel_rfl
 have HM : Hid (∀ w, Calls Tryz.prog 102 #[(Rgn.pg ⟨p, n, f, 2⟩).v, o.v] w fun e w' => e = .returned (.bool ((Rgn.pg ⟨p, n, f, 2⟩).meets o)) ∧ KF w w') := fun w => meets_any _ o hr ho w
 have HP : Hid (∀ w, Calls Tryz.prog 96 #[.agg #[.int .i64 p, .int .i64 n, .int .i64 f, .int .i64 2]] w fun e w' => e = .returned (Rgn.pg ⟨p, n, f, 2⟩).v ∧ KF w w') := fun w => pagesOf_any ⟨p, n, f, 2⟩ w
 clear hr ho
 obtain ⟨W, hW⟩ : ∃ W, W = w.alloc (.cells #[.int .i64 p, .int .i64 n, .int .i64 f, .int .i64 2] 54) := ⟨_, rfl⟩
 obtain ⟨P, hP⟩ : ∃ P, P = w.heap.size := ⟨_, rfl⟩
 have HS : Hid (∀ w', Bls [(P, [.int .i64 p, .int .i64 n, .int .i64 f, .int .i64 2], 54), (O, [.int .i64 o.f, .int .i64 o.s], 102)] w' → (w'.cell? ⟨P, 0, none⟩ = some (.int .i64 p) ∧ w'.cell? ⟨P, 1, none⟩ = some (.int .i64 n) ∧ w'.cell? ⟨P, 2, none⟩ = some (.int .i64 f) ∧ w'.cell? ⟨P, 3, none⟩ = some (.int .i64 2) ∧ w'.cell? ⟨O, 0, none⟩ = some (.int .i64 o.f) ∧ w'.cell? ⟨O, 1, none⟩ = some (.int .i64 o.s))) := fun w' h => ⟨(h _ (.head _)).cell (i := 0) rfl, (h _ (.head _)).cell (i := 1) rfl, (h _ (.head _)).cell (i := 2) rfl, (h _ (.head _)).cell (i := 3) rfl, (h _ (.tail _ (.head _))).cell (i := 0) rfl, (h _ (.tail _ (.head _))).cell (i := 1) rfl⟩
 have HO : Hid (BI w [(P, [.int .i64 p, .int .i64 n, .int .i64 f, .int .i64 2], 54), (O, [.int .i64 o.f, .int .i64 o.s], 102)] W) := by rw [hW, hP]; exact BI.box hE _ _
 clear hE
 go_enter Tryz.func101, Tryz.ntmps101
 go_upto_region 1 with fail
 rw [← hW, ← hP]
 clear hW hP
 refine wp_region_held_drew (S := (fun w' => w'.cell? ⟨P, 0, none⟩ = some (.int .i64 p) ∧ w'.cell? ⟨P, 1, none⟩ = some (.int .i64 n) ∧ w'.cell? ⟨P, 2, none⟩ = some (.int .i64 f) ∧ w'.cell? ⟨P, 3, none⟩ = some (.int .i64 2) ∧ w'.cell? ⟨O, 0, none⟩ = some (.int .i64 o.f) ∧ w'.cell? ⟨O, 1, none⟩ = some (.int .i64 o.s))) Tryz.mixd (HS.out _ (HO.out.kept ((Keeps.refl _ _).drew)).1) (fun hHeld => ?_)
 simp only [t1, t2, List.length_nil, Nat.reduceAdd, t4, Array.replicate_zero, t6, List.append_toArray, List.nil_append, t8]
 refine tk 0 (.pointer (some ⟨P, 3, none⟩)) hHeld ?_
 refine tk 1 (.int .i64 2) hHeld ?_
 refine tk 2 (.int .i64 0) hHeld ?_
 refine tk 3 (.bool false) hHeld ?_
 refine tk 4 (.bool false) hHeld ?_
 refine tn 5 hHeld ?_
 refine tn 7 hHeld ?_
 refine tn 6 hHeld ?_
 refine tn 8 hHeld ?_
 refine tk 9 (.bool false) hHeld ?_
 refine tk 10 (.bool false) hHeld ?_
 simp only [Act.put, s1, s2, s3]
 refine wpAnyH_done (by kernel_rfl) ?_ _
 clear hHeld
 go_wp2
 go_ret
 exact ⟨rfl, (HO.out.kept ((Keeps.refl _ _).drew)).2⟩
set_option maxHeartbeats 4000000 in
theorem beginClo3 (p n f : Int) (o : Rn) (O : Nat) (hr : (Rgn.pg ⟨p, n, f, 3⟩).Ok) (ho : o.Ok) (w : World) (hE : Bls [(O, [.int .i64 o.f, .int .i64 o.s], 102)] w) : Calls Tryz.prog 101 #[(Rgn.v ⟨p, n, f, 3⟩), .pointer (some ⟨O, 0, none⟩)] w fun e w' => e = .returned (.bool (Rgn.runs o ⟨p, n, f, 3⟩)) ∧ KF w w' := by
 have qb : bits BinOp.and IntKind.i64 3 4 = 0 := by kernel_rfl
 have HM : Hid (∀ w, Calls Tryz.prog 102 #[(Rgn.pg ⟨p, n, f, 3⟩).v, o.v] w fun e w' => e = .returned (.bool ((Rgn.pg ⟨p, n, f, 3⟩).meets o)) ∧ KF w w') := fun w => meets_any _ o hr ho w
 have HP : Hid (∀ w, Calls Tryz.prog 96 #[.agg #[.int .i64 p, .int .i64 n, .int .i64 f, .int .i64 3]] w fun e w' => e = .returned (Rgn.pg ⟨p, n, f, 3⟩).v ∧ KF w w') := fun w => pagesOf_any ⟨p, n, f, 3⟩ w
 clear hr ho
 obtain ⟨W, hW⟩ : ∃ W, W = w.alloc (.cells #[.int .i64 p, .int .i64 n, .int .i64 f, .int .i64 3] 54) := ⟨_, rfl⟩
 obtain ⟨P, hP⟩ : ∃ P, P = w.heap.size := ⟨_, rfl⟩
 have HS : Hid (∀ w', Bls [(P, [.int .i64 p, .int .i64 n, .int .i64 f, .int .i64 3], 54), (O, [.int .i64 o.f, .int .i64 o.s], 102)] w' → (w'.cell? ⟨P, 0, none⟩ = some (.int .i64 p) ∧ w'.cell? ⟨P, 1, none⟩ = some (.int .i64 n) ∧ w'.cell? ⟨P, 2, none⟩ = some (.int .i64 f) ∧ w'.cell? ⟨P, 3, none⟩ = some (.int .i64 3) ∧ w'.cell? ⟨O, 0, none⟩ = some (.int .i64 o.f) ∧ w'.cell? ⟨O, 1, none⟩ = some (.int .i64 o.s))) := fun w' h => ⟨(h _ (.head _)).cell (i := 0) rfl, (h _ (.head _)).cell (i := 1) rfl, (h _ (.head _)).cell (i := 2) rfl, (h _ (.head _)).cell (i := 3) rfl, (h _ (.tail _ (.head _))).cell (i := 0) rfl, (h _ (.tail _ (.head _))).cell (i := 1) rfl⟩
 have HO : Hid (BI w [(P, [.int .i64 p, .int .i64 n, .int .i64 f, .int .i64 3], 54), (O, [.int .i64 o.f, .int .i64 o.s], 102)] W) := by rw [hW, hP]; exact BI.box hE _ _
 clear hE
 go_enter Tryz.func101, Tryz.ntmps101
 go_upto_region 1 with fail
 rw [← hW, ← hP]
 clear hW hP
 refine wp_region_held_drew (S := (fun w' => w'.cell? ⟨P, 0, none⟩ = some (.int .i64 p) ∧ w'.cell? ⟨P, 1, none⟩ = some (.int .i64 n) ∧ w'.cell? ⟨P, 2, none⟩ = some (.int .i64 f) ∧ w'.cell? ⟨P, 3, none⟩ = some (.int .i64 3) ∧ w'.cell? ⟨O, 0, none⟩ = some (.int .i64 o.f) ∧ w'.cell? ⟨O, 1, none⟩ = some (.int .i64 o.s))) Tryz.mixd (HS.out _ (HO.out.kept ((Keeps.refl _ _).drew)).1) (fun hHeld => ?_)
 simp only [t1, t2, List.length_nil, Nat.reduceAdd, t4, Array.replicate_zero, t6, List.append_toArray, List.nil_append, t8]
 refine tk 0 (.pointer (some ⟨P, 3, none⟩)) hHeld ?_
 refine tk 1 (.int .i64 3) hHeld ?_
 refine tk 2 (.int .i64 0) hHeld ?_
 refine tk 3 (.bool false) hHeld ?_
 refine tk 4 (.bool false) hHeld ?_
 refine tn 5 hHeld ?_
 refine tn 7 hHeld ?_
 refine tn 6 hHeld ?_
 refine tn 8 hHeld ?_
 refine tk 9 (.bool false) hHeld ?_
 refine tk 10 (.bool false) hHeld ?_
 simp only [Act.put, s1, s2, s3]
 refine wpAnyH_done (by kernel_rfl) ?_ _
 clear hHeld
 go_wp2
 go_ret
 exact ⟨rfl, (HO.out.kept ((Keeps.refl _ _).drew)).2⟩
set_option maxHeartbeats 4000000 in
theorem beginClo4 (p n f : Int) (o : Rn) (O : Nat) (hr : (Rgn.pg ⟨p, n, f, 4⟩).Ok) (ho : o.Ok) (w : World) (hE : Bls [(O, [.int .i64 o.f, .int .i64 o.s], 102)] w) : Calls Tryz.prog 101 #[(Rgn.v ⟨p, n, f, 4⟩), .pointer (some ⟨O, 0, none⟩)] w fun e w' => e = .returned (.bool (Rgn.runs o ⟨p, n, f, 4⟩)) ∧ KF w w' := by
 have qb : bits BinOp.and IntKind.i64 4 4 = 4 := by kernel_rfl
 have HM : Hid (∀ w, Calls Tryz.prog 102 #[(Rgn.pg ⟨p, n, f, 4⟩).v, o.v] w fun e w' => e = .returned (.bool ((Rgn.pg ⟨p, n, f, 4⟩).meets o)) ∧ KF w w') := fun w => meets_any _ o hr ho w
 have HP : Hid (∀ w, Calls Tryz.prog 96 #[.agg #[.int .i64 p, .int .i64 n, .int .i64 f, .int .i64 4]] w fun e w' => e = .returned (Rgn.pg ⟨p, n, f, 4⟩).v ∧ KF w w') := fun w => pagesOf_any ⟨p, n, f, 4⟩ w
 clear hr ho
 obtain ⟨W, hW⟩ : ∃ W, W = w.alloc (.cells #[.int .i64 p, .int .i64 n, .int .i64 f, .int .i64 4] 54) := ⟨_, rfl⟩
 obtain ⟨P, hP⟩ : ∃ P, P = w.heap.size := ⟨_, rfl⟩
 have HS : Hid (∀ w', Bls [(P, [.int .i64 p, .int .i64 n, .int .i64 f, .int .i64 4], 54), (O, [.int .i64 o.f, .int .i64 o.s], 102)] w' → (w'.cell? ⟨P, 0, none⟩ = some (.int .i64 p) ∧ w'.cell? ⟨P, 1, none⟩ = some (.int .i64 n) ∧ w'.cell? ⟨P, 2, none⟩ = some (.int .i64 f) ∧ w'.cell? ⟨P, 3, none⟩ = some (.int .i64 4) ∧ w'.cell? ⟨O, 0, none⟩ = some (.int .i64 o.f) ∧ w'.cell? ⟨O, 1, none⟩ = some (.int .i64 o.s))) := fun w' h => ⟨(h _ (.head _)).cell (i := 0) rfl, (h _ (.head _)).cell (i := 1) rfl, (h _ (.head _)).cell (i := 2) rfl, (h _ (.head _)).cell (i := 3) rfl, (h _ (.tail _ (.head _))).cell (i := 0) rfl, (h _ (.tail _ (.head _))).cell (i := 1) rfl⟩
 have HO : Hid (BI w [(P, [.int .i64 p, .int .i64 n, .int .i64 f, .int .i64 4], 54), (O, [.int .i64 o.f, .int .i64 o.s], 102)] W) := by rw [hW, hP]; exact BI.box hE _ _
 clear hE
 go_enter Tryz.func101, Tryz.ntmps101
 go_upto_region 1 with fail
 rw [← hW, ← hP]
 clear hW hP
 refine wp_region_held_drew (S := (fun w' => w'.cell? ⟨P, 0, none⟩ = some (.int .i64 p) ∧ w'.cell? ⟨P, 1, none⟩ = some (.int .i64 n) ∧ w'.cell? ⟨P, 2, none⟩ = some (.int .i64 f) ∧ w'.cell? ⟨P, 3, none⟩ = some (.int .i64 4) ∧ w'.cell? ⟨O, 0, none⟩ = some (.int .i64 o.f) ∧ w'.cell? ⟨O, 1, none⟩ = some (.int .i64 o.s))) Tryz.mixd (HS.out _ (HO.out.kept ((Keeps.refl _ _).drew)).1) (fun hHeld => ?_)
 simp only [t1, t2, List.length_nil, Nat.reduceAdd, t4, Array.replicate_zero, t6, List.append_toArray, List.nil_append, t8]
 refine tk 0 (.pointer (some ⟨P, 3, none⟩)) hHeld ?_
 refine tk 1 (.int .i64 4) hHeld ?_
 refine tk 2 (.int .i64 4) hHeld ?_
 refine tk 3 (.bool true) hHeld ?_
 refine tk 4 (.bool true) hHeld ?_
 refine tk 5 (.agg #[.int .i64 p, .int .i64 n, .int .i64 f, .int .i64 4]) hHeld ?_
 refine tk 7 (.agg #[.int .i64 o.f, .int .i64 o.s]) hHeld ?_
 simp only [Act.put, s1, s2, s3]
 refine rd 6 fun K hK => ?_
 go_simp
 refine (HP.out W.drew).mono ?_
 rintro r w1 ⟨rfl, hKc⟩
 have HO1 : Hid (BI w [(P, [.int .i64 p, .int .i64 n, .int .i64 f, .int .i64 4], 54), (O, [.int .i64 o.f, .int .i64 o.s], 102)] w1) := HO.out.kept (((Keeps.refl _ _).drew).trans hKc fun _ _ h => h)
 clear hKc
 refine hK.out _ _ (HS.out _ HO1.out.1) (fun hHeld => ?_)
 simp only [Act.put, s1, s2, s3]
 refine rd 8 fun K hK => ?_
 go_simp
 refine (HM.out w1).mono ?_
 rintro r w2 ⟨rfl, hKc⟩
 have HO2 : Hid (BI w [(P, [.int .i64 p, .int .i64 n, .int .i64 f, .int .i64 4], 54), (O, [.int .i64 o.f, .int .i64 o.s], 102)] w2) := HO1.out.kept hKc
 clear hKc
 refine hK.out _ _ (HS.out _ HO2.out.1) (fun hHeld => ?_)
 simp only [Act.put, s1, s2, s3]
 refine tk 9 (.bool ((Rgn.pg ⟨p, n, f, 4⟩).meets o)) hHeld ?_
 refine tk 10 (.bool ((Rgn.pg ⟨p, n, f, 4⟩).meets o)) hHeld ?_
 simp only [Act.put, s1, s2, s3]
 refine wpAnyH_done (by kernel_rfl) ?_ _
 clear hHeld
 go_wp2
 go_ret
 exact ⟨rfl, HO2.out.2⟩
set_option maxHeartbeats 4000000 in
theorem beginClo5 (p n f : Int) (o : Rn) (O : Nat) (hr : (Rgn.pg ⟨p, n, f, 5⟩).Ok) (ho : o.Ok) (w : World) (hE : Bls [(O, [.int .i64 o.f, .int .i64 o.s], 102)] w) : Calls Tryz.prog 101 #[(Rgn.v ⟨p, n, f, 5⟩), .pointer (some ⟨O, 0, none⟩)] w fun e w' => e = .returned (.bool (Rgn.runs o ⟨p, n, f, 5⟩)) ∧ KF w w' := by
 have qb : bits BinOp.and IntKind.i64 5 4 = 4 := by kernel_rfl
 have HM : Hid (∀ w, Calls Tryz.prog 102 #[(Rgn.pg ⟨p, n, f, 5⟩).v, o.v] w fun e w' => e = .returned (.bool ((Rgn.pg ⟨p, n, f, 5⟩).meets o)) ∧ KF w w') := fun w => meets_any _ o hr ho w
 have HP : Hid (∀ w, Calls Tryz.prog 96 #[.agg #[.int .i64 p, .int .i64 n, .int .i64 f, .int .i64 5]] w fun e w' => e = .returned (Rgn.pg ⟨p, n, f, 5⟩).v ∧ KF w w') := fun w => pagesOf_any ⟨p, n, f, 5⟩ w
 clear hr ho
 obtain ⟨W, hW⟩ : ∃ W, W = w.alloc (.cells #[.int .i64 p, .int .i64 n, .int .i64 f, .int .i64 5] 54) := ⟨_, rfl⟩
 obtain ⟨P, hP⟩ : ∃ P, P = w.heap.size := ⟨_, rfl⟩
 have HS : Hid (∀ w', Bls [(P, [.int .i64 p, .int .i64 n, .int .i64 f, .int .i64 5], 54), (O, [.int .i64 o.f, .int .i64 o.s], 102)] w' → (w'.cell? ⟨P, 0, none⟩ = some (.int .i64 p) ∧ w'.cell? ⟨P, 1, none⟩ = some (.int .i64 n) ∧ w'.cell? ⟨P, 2, none⟩ = some (.int .i64 f) ∧ w'.cell? ⟨P, 3, none⟩ = some (.int .i64 5) ∧ w'.cell? ⟨O, 0, none⟩ = some (.int .i64 o.f) ∧ w'.cell? ⟨O, 1, none⟩ = some (.int .i64 o.s))) := fun w' h => ⟨(h _ (.head _)).cell (i := 0) rfl, (h _ (.head _)).cell (i := 1) rfl, (h _ (.head _)).cell (i := 2) rfl, (h _ (.head _)).cell (i := 3) rfl, (h _ (.tail _ (.head _))).cell (i := 0) rfl, (h _ (.tail _ (.head _))).cell (i := 1) rfl⟩
 have HO : Hid (BI w [(P, [.int .i64 p, .int .i64 n, .int .i64 f, .int .i64 5], 54), (O, [.int .i64 o.f, .int .i64 o.s], 102)] W) := by rw [hW, hP]; exact BI.box hE _ _
 clear hE
 go_enter Tryz.func101, Tryz.ntmps101
 go_upto_region 1 with fail
 rw [← hW, ← hP]
 clear hW hP
 refine wp_region_held_drew (S := (fun w' => w'.cell? ⟨P, 0, none⟩ = some (.int .i64 p) ∧ w'.cell? ⟨P, 1, none⟩ = some (.int .i64 n) ∧ w'.cell? ⟨P, 2, none⟩ = some (.int .i64 f) ∧ w'.cell? ⟨P, 3, none⟩ = some (.int .i64 5) ∧ w'.cell? ⟨O, 0, none⟩ = some (.int .i64 o.f) ∧ w'.cell? ⟨O, 1, none⟩ = some (.int .i64 o.s))) Tryz.mixd (HS.out _ (HO.out.kept ((Keeps.refl _ _).drew)).1) (fun hHeld => ?_)
 simp only [t1, t2, List.length_nil, Nat.reduceAdd, t4, Array.replicate_zero, t6, List.append_toArray, List.nil_append, t8]
 refine tk 0 (.pointer (some ⟨P, 3, none⟩)) hHeld ?_
 refine tk 1 (.int .i64 5) hHeld ?_
 refine tk 2 (.int .i64 4) hHeld ?_
 refine tk 3 (.bool true) hHeld ?_
 refine tk 4 (.bool true) hHeld ?_
 refine tk 5 (.agg #[.int .i64 p, .int .i64 n, .int .i64 f, .int .i64 5]) hHeld ?_
 refine tk 7 (.agg #[.int .i64 o.f, .int .i64 o.s]) hHeld ?_
 simp only [Act.put, s1, s2, s3]
 refine rd 6 fun K hK => ?_
 go_simp
 refine (HP.out W.drew).mono ?_
 rintro r w1 ⟨rfl, hKc⟩
 have HO1 : Hid (BI w [(P, [.int .i64 p, .int .i64 n, .int .i64 f, .int .i64 5], 54), (O, [.int .i64 o.f, .int .i64 o.s], 102)] w1) := HO.out.kept (((Keeps.refl _ _).drew).trans hKc fun _ _ h => h)
 clear hKc
 refine hK.out _ _ (HS.out _ HO1.out.1) (fun hHeld => ?_)
 simp only [Act.put, s1, s2, s3]
 refine rd 8 fun K hK => ?_
 go_simp
 refine (HM.out w1).mono ?_
 rintro r w2 ⟨rfl, hKc⟩
 have HO2 : Hid (BI w [(P, [.int .i64 p, .int .i64 n, .int .i64 f, .int .i64 5], 54), (O, [.int .i64 o.f, .int .i64 o.s], 102)] w2) := HO1.out.kept hKc
 clear hKc
 refine hK.out _ _ (HS.out _ HO2.out.1) (fun hHeld => ?_)
 simp only [Act.put, s1, s2, s3]
 refine tk 9 (.bool ((Rgn.pg ⟨p, n, f, 5⟩).meets o)) hHeld ?_
 refine tk 10 (.bool ((Rgn.pg ⟨p, n, f, 5⟩).meets o)) hHeld ?_
 simp only [Act.put, s1, s2, s3]
 refine wpAnyH_done (by kernel_rfl) ?_ _
 clear hHeld
 go_wp2
 go_ret
 exact ⟨rfl, HO2.out.2⟩
set_option maxHeartbeats 4000000 in
theorem beginClo6 (p n f : Int) (o : Rn) (O : Nat) (hr : (Rgn.pg ⟨p, n, f, 6⟩).Ok) (ho : o.Ok) (w : World) (hE : Bls [(O, [.int .i64 o.f, .int .i64 o.s], 102)] w) : Calls Tryz.prog 101 #[(Rgn.v ⟨p, n, f, 6⟩), .pointer (some ⟨O, 0, none⟩)] w fun e w' => e = .returned (.bool (Rgn.runs o ⟨p, n, f, 6⟩)) ∧ KF w w' := by
 have qb : bits BinOp.and IntKind.i64 6 4 = 4 := by kernel_rfl
 have HM : Hid (∀ w, Calls Tryz.prog 102 #[(Rgn.pg ⟨p, n, f, 6⟩).v, o.v] w fun e w' => e = .returned (.bool ((Rgn.pg ⟨p, n, f, 6⟩).meets o)) ∧ KF w w') := fun w => meets_any _ o hr ho w
 have HP : Hid (∀ w, Calls Tryz.prog 96 #[.agg #[.int .i64 p, .int .i64 n, .int .i64 f, .int .i64 6]] w fun e w' => e = .returned (Rgn.pg ⟨p, n, f, 6⟩).v ∧ KF w w') := fun w => pagesOf_any ⟨p, n, f, 6⟩ w
 clear hr ho
 obtain ⟨W, hW⟩ : ∃ W, W = w.alloc (.cells #[.int .i64 p, .int .i64 n, .int .i64 f, .int .i64 6] 54) := ⟨_, rfl⟩
 obtain ⟨P, hP⟩ : ∃ P, P = w.heap.size := ⟨_, rfl⟩
 have HS : Hid (∀ w', Bls [(P, [.int .i64 p, .int .i64 n, .int .i64 f, .int .i64 6], 54), (O, [.int .i64 o.f, .int .i64 o.s], 102)] w' → (w'.cell? ⟨P, 0, none⟩ = some (.int .i64 p) ∧ w'.cell? ⟨P, 1, none⟩ = some (.int .i64 n) ∧ w'.cell? ⟨P, 2, none⟩ = some (.int .i64 f) ∧ w'.cell? ⟨P, 3, none⟩ = some (.int .i64 6) ∧ w'.cell? ⟨O, 0, none⟩ = some (.int .i64 o.f) ∧ w'.cell? ⟨O, 1, none⟩ = some (.int .i64 o.s))) := fun w' h => ⟨(h _ (.head _)).cell (i := 0) rfl, (h _ (.head _)).cell (i := 1) rfl, (h _ (.head _)).cell (i := 2) rfl, (h _ (.head _)).cell (i := 3) rfl, (h _ (.tail _ (.head _))).cell (i := 0) rfl, (h _ (.tail _ (.head _))).cell (i := 1) rfl⟩
 have HO : Hid (BI w [(P, [.int .i64 p, .int .i64 n, .int .i64 f, .int .i64 6], 54), (O, [.int .i64 o.f, .int .i64 o.s], 102)] W) := by rw [hW, hP]; exact BI.box hE _ _
 clear hE
 go_enter Tryz.func101, Tryz.ntmps101
 go_upto_region 1 with fail
 rw [← hW, ← hP]
 clear hW hP
 refine wp_region_held_drew (S := (fun w' => w'.cell? ⟨P, 0, none⟩ = some (.int .i64 p) ∧ w'.cell? ⟨P, 1, none⟩ = some (.int .i64 n) ∧ w'.cell? ⟨P, 2, none⟩ = some (.int .i64 f) ∧ w'.cell? ⟨P, 3, none⟩ = some (.int .i64 6) ∧ w'.cell? ⟨O, 0, none⟩ = some (.int .i64 o.f) ∧ w'.cell? ⟨O, 1, none⟩ = some (.int .i64 o.s))) Tryz.mixd (HS.out _ (HO.out.kept ((Keeps.refl _ _).drew)).1) (fun hHeld => ?_)
 simp only [t1, t2, List.length_nil, Nat.reduceAdd, t4, Array.replicate_zero, t6, List.append_toArray, List.nil_append, t8]
 refine tk 0 (.pointer (some ⟨P, 3, none⟩)) hHeld ?_
 refine tk 1 (.int .i64 6) hHeld ?_
 refine tk 2 (.int .i64 4) hHeld ?_
 refine tk 3 (.bool true) hHeld ?_
 refine tk 4 (.bool true) hHeld ?_
 refine tk 5 (.agg #[.int .i64 p, .int .i64 n, .int .i64 f, .int .i64 6]) hHeld ?_
 refine tk 7 (.agg #[.int .i64 o.f, .int .i64 o.s]) hHeld ?_
 simp only [Act.put, s1, s2, s3]
 refine rd 6 fun K hK => ?_
 go_simp
 refine (HP.out W.drew).mono ?_
 rintro r w1 ⟨rfl, hKc⟩
 have HO1 : Hid (BI w [(P, [.int .i64 p, .int .i64 n, .int .i64 f, .int .i64 6], 54), (O, [.int .i64 o.f, .int .i64 o.s], 102)] w1) := HO.out.kept (((Keeps.refl _ _).drew).trans hKc fun _ _ h => h)
 clear hKc
 refine hK.out _ _ (HS.out _ HO1.out.1) (fun hHeld => ?_)
 simp only [Act.put, s1, s2, s3]
 refine rd 8 fun K hK => ?_
 go_simp
 refine (HM.out w1).mono ?_
 rintro r w2 ⟨rfl, hKc⟩
 have HO2 : Hid (BI w [(P, [.int .i64 p, .int .i64 n, .int .i64 f, .int .i64 6], 54), (O, [.int .i64 o.f, .int .i64 o.s], 102)] w2) := HO1.out.kept hKc
 clear hKc
 refine hK.out _ _ (HS.out _ HO2.out.1) (fun hHeld => ?_)
 simp only [Act.put, s1, s2, s3]
 refine tk 9 (.bool ((Rgn.pg ⟨p, n, f, 6⟩).meets o)) hHeld ?_
 refine tk 10 (.bool ((Rgn.pg ⟨p, n, f, 6⟩).meets o)) hHeld ?_
 simp only [Act.put, s1, s2, s3]
 refine wpAnyH_done (by kernel_rfl) ?_ _
 clear hHeld
 go_wp2
 go_ret
 exact ⟨rfl, HO2.out.2⟩
set_option maxHeartbeats 4000000 in
theorem beginClo7 (p n f : Int) (o : Rn) (O : Nat) (hr : (Rgn.pg ⟨p, n, f, 7⟩).Ok) (ho : o.Ok) (w : World) (hE : Bls [(O, [.int .i64 o.f, .int .i64 o.s], 102)] w) : Calls Tryz.prog 101 #[(Rgn.v ⟨p, n, f, 7⟩), .pointer (some ⟨O, 0, none⟩)] w fun e w' => e = .returned (.bool (Rgn.runs o ⟨p, n, f, 7⟩)) ∧ KF w w' := by
 have qb : bits BinOp.and IntKind.i64 7 4 = 4 := by kernel_rfl
 have HM : Hid (∀ w, Calls Tryz.prog 102 #[(Rgn.pg ⟨p, n, f, 7⟩).v, o.v] w fun e w' => e = .returned (.bool ((Rgn.pg ⟨p, n, f, 7⟩).meets o)) ∧ KF w w') := fun w => meets_any _ o hr ho w
 have HP : Hid (∀ w, Calls Tryz.prog 96 #[.agg #[.int .i64 p, .int .i64 n, .int .i64 f, .int .i64 7]] w fun e w' => e = .returned (Rgn.pg ⟨p, n, f, 7⟩).v ∧ KF w w') := fun w => pagesOf_any ⟨p, n, f, 7⟩ w
 clear hr ho
 obtain ⟨W, hW⟩ : ∃ W, W = w.alloc (.cells #[.int .i64 p, .int .i64 n, .int .i64 f, .int .i64 7] 54) := ⟨_, rfl⟩
 obtain ⟨P, hP⟩ : ∃ P, P = w.heap.size := ⟨_, rfl⟩
 have HS : Hid (∀ w', Bls [(P, [.int .i64 p, .int .i64 n, .int .i64 f, .int .i64 7], 54), (O, [.int .i64 o.f, .int .i64 o.s], 102)] w' → (w'.cell? ⟨P, 0, none⟩ = some (.int .i64 p) ∧ w'.cell? ⟨P, 1, none⟩ = some (.int .i64 n) ∧ w'.cell? ⟨P, 2, none⟩ = some (.int .i64 f) ∧ w'.cell? ⟨P, 3, none⟩ = some (.int .i64 7) ∧ w'.cell? ⟨O, 0, none⟩ = some (.int .i64 o.f) ∧ w'.cell? ⟨O, 1, none⟩ = some (.int .i64 o.s))) := fun w' h => ⟨(h _ (.head _)).cell (i := 0) rfl, (h _ (.head _)).cell (i := 1) rfl, (h _ (.head _)).cell (i := 2) rfl, (h _ (.head _)).cell (i := 3) rfl, (h _ (.tail _ (.head _))).cell (i := 0) rfl, (h _ (.tail _ (.head _))).cell (i := 1) rfl⟩
 have HO : Hid (BI w [(P, [.int .i64 p, .int .i64 n, .int .i64 f, .int .i64 7], 54), (O, [.int .i64 o.f, .int .i64 o.s], 102)] W) := by rw [hW, hP]; exact BI.box hE _ _
 clear hE
 go_enter Tryz.func101, Tryz.ntmps101
 go_upto_region 1 with fail
 rw [← hW, ← hP]
 clear hW hP
 refine wp_region_held_drew (S := (fun w' => w'.cell? ⟨P, 0, none⟩ = some (.int .i64 p) ∧ w'.cell? ⟨P, 1, none⟩ = some (.int .i64 n) ∧ w'.cell? ⟨P, 2, none⟩ = some (.int .i64 f) ∧ w'.cell? ⟨P, 3, none⟩ = some (.int .i64 7) ∧ w'.cell? ⟨O, 0, none⟩ = some (.int .i64 o.f) ∧ w'.cell? ⟨O, 1, none⟩ = some (.int .i64 o.s))) Tryz.mixd (HS.out _ (HO.out.kept ((Keeps.refl _ _).drew)).1) (fun hHeld => ?_)
 simp only [t1, t2, List.length_nil, Nat.reduceAdd, t4, Array.replicate_zero, t6, List.append_toArray, List.nil_append, t8]
 refine tk 0 (.pointer (some ⟨P, 3, none⟩)) hHeld ?_
 refine tk 1 (.int .i64 7) hHeld ?_
 refine tk 2 (.int .i64 4) hHeld ?_
 refine tk 3 (.bool true) hHeld ?_
 refine tk 4 (.bool true) hHeld ?_
 refine tk 5 (.agg #[.int .i64 p, .int .i64 n, .int .i64 f, .int .i64 7]) hHeld ?_
 refine tk 7 (.agg #[.int .i64 o.f, .int .i64 o.s]) hHeld ?_
 simp only [Act.put, s1, s2, s3]
 refine rd 6 fun K hK => ?_
 go_simp
 refine (HP.out W.drew).mono ?_
 rintro r w1 ⟨rfl, hKc⟩
 have HO1 : Hid (BI w [(P, [.int .i64 p, .int .i64 n, .int .i64 f, .int .i64 7], 54), (O, [.int .i64 o.f, .int .i64 o.s], 102)] w1) := HO.out.kept (((Keeps.refl _ _).drew).trans hKc fun _ _ h => h)
 clear hKc
 refine hK.out _ _ (HS.out _ HO1.out.1) (fun hHeld => ?_)
 simp only [Act.put, s1, s2, s3]
 refine rd 8 fun K hK => ?_
 go_simp
 refine (HM.out w1).mono ?_
 rintro r w2 ⟨rfl, hKc⟩
 have HO2 : Hid (BI w [(P, [.int .i64 p, .int .i64 n, .int .i64 f, .int .i64 7], 54), (O, [.int .i64 o.f, .int .i64 o.s], 102)] w2) := HO1.out.kept hKc
 clear hKc
 refine hK.out _ _ (HS.out _ HO2.out.1) (fun hHeld => ?_)
 simp only [Act.put, s1, s2, s3]
 refine tk 9 (.bool ((Rgn.pg ⟨p, n, f, 7⟩).meets o)) hHeld ?_
 refine tk 10 (.bool ((Rgn.pg ⟨p, n, f, 7⟩).meets o)) hHeld ?_
 simp only [Act.put, s1, s2, s3]
 refine wpAnyH_done (by kernel_rfl) ?_ _
 clear hHeld
 go_wp2
 go_ret
 exact ⟨rfl, HO2.out.2⟩
theorem beginClo (r : Rgn) (o : Rn) (O : Nat) (hg : 1 ≤ r.rights ∧ r.rights ≤ 7) (hr : r.pg.Ok) (ho : o.Ok) (w : World) (hE : Bls [(O, [.int .i64 o.f, .int .i64 o.s], 102)] w) :
  Calls Tryz.prog 101 #[r.v, .pointer (some ⟨O, 0, none⟩)] w fun e w' => e = .returned (.bool (r.runs o)) ∧ KF w w' := by
 obtain ⟨p, n, f, g⟩ := r
 dsimp only at hg
 have : g = 1 ∨ g = 2 ∨ g = 3 ∨ g = 4 ∨ g = 5 ∨ g = 6 ∨ g = 7 := by omega
 rcases this with rfl | rfl | rfl | rfl | rfl | rfl | rfl
 ·
  exact beginClo1 p n f o O hr ho w hE
 ·
  exact beginClo2 p n f o O hr ho w hE
 ·
  exact beginClo3 p n f o O hr ho w hE
 ·
  exact beginClo4 p n f o O hr ho w hE
 ·
  exact beginClo5 p n f o O hr ho w hE
 ·
  exact beginClo6 p n f o O hr ho w hE
 ·
  exact beginClo7 p n f o O hr ho w hE
def Par.begB (P : Par) : Bool := inR P.entry 0 4095 && P.rs.any (Rgn.runs ⟨P.entry / 16, 1⟩)
set_option maxHeartbeats 4000000 in
theorem canBegin_any (P : Par) (w : World) (hS : SegA Rgn.vs 4 w P.ra P.rs) (hlen : P.rs.length ≤ P.rc ∧ P.rc ≤ maxLen) (hr : ∀ r ∈ P.rs, (1 ≤ r.rights ∧ r.rights ≤ 7) ∧ r.pg.Ok) :
  Calls Tryz.prog 67 #[P.v] w fun e w' => e = .returned (.bool P.begB) ∧ KF w w' := by
 obtain ⟨name, en, ac, re, inp, ou, ra, rc, rs, pa, pc, ps⟩ := P
 dsimp only at hS hlen hr
 obtain ⟨B, hB⟩ : ∃ B, Par.begB ⟨name, en, ac, re, inp, ou, ra, rc, rs, pa, pc, ps⟩ = B := ⟨_, rfl⟩
 have HB : Hid (Par.begB ⟨name, en, ac, re, inp, ou, ra, rc, rs, pa, pc, ps⟩ = B) := hB
 rw [hB]
 clear hB
 have HC : Hid (∀ n a b w, Calls Tryz.prog 36 #[.int .i64 n, .int .i64 a, .int .i64 b] w fun e w' => e = .returned (.bool (inR n a b)) ∧ w' = w) := within_any
 obtain ⟨L, hL⟩ : ∃ L, rs.length = L := ⟨_, rfl⟩
 obtain ⟨M, hM⟩ : ∃ M, ps.length = M := ⟨_, rfl⟩
 obtain ⟨W, hW⟩ : ∃ W, W = w.alloc (.cells #[.string name, .int .i64 en, .int .i64 ac, .int .i64 re, .int .i64 inp, .int .i64 ou, .slice ra L rc, .slice pa M pc] 41) := ⟨_, rfl⟩
 obtain ⟨Q, hQ⟩ : ∃ Q, Q = w.heap.size := ⟨_, rfl⟩
 have hb : BI w [(Q, [.string name, .int .i64 en, .int .i64 ac, .int .i64 re, .int .i64 inp, .int .i64 ou, .slice ra L rc, .slice pa M pc], 41)] W := by rw [hW, hQ]; exact BI.box (fun b hb => by cases hb) _ _
 have HQ : Hid (BI w [(Q, [.string name, .int .i64 en, .int .i64 ac, .int .i64 re, .int .i64 inp, .int .i64 ou, .slice ra L rc, .slice pa M pc], 41)] W) := hb
 have c1 := (hb.1 _ (.head _)).cell (i := 1) rfl
 have c6 := (hb.1 _ (.head _)).cell (i := 6) rfl
 have HL : Hid (rs.length = L ∧ SegA Rgn.vs 4 w ra rs ∧ (rs.length ≤ rc ∧ rc ≤ maxLen) ∧ (∀ r ∈ rs, (1 ≤ r.rights ∧ r.rights ≤ 7) ∧ r.pg.Ok)) := ⟨hL, hS, hlen, hr⟩
 simp only [Par.v, hL, hM]
 clear hb hL hM hS hlen hr
 go_enter Tryz.func67, Tryz.ntmps67
 go_upto_region 1 with fail
 rw [← hW, ← hQ]
 clear hW hQ
 go_wp2_with fail
 refine (HC.out _ _ _ _).mono ?_
 rintro e w1 ⟨rfl, rfl⟩
 obtain ⟨b, hb⟩ : ∃ b, inR en 0 4095 = b := ⟨_, rfl⟩
 have HBb : Hid (inR en 0 4095 = b) := hb
 rw [hb]
 cases b with
 | false =>
  clear hb
  go_wp2
  go_ret
  refine ⟨?_, HQ.out.2⟩
  rw [← HB.out]
  unfold Par.begB
  dsimp only
  rw [HBb.out]
  rfl
 | true =>
  have hen : 0 ≤ en ∧ en ≤ 4095 := by unfold inR at hb; simpa using hb
  clear hb
  obtain ⟨z, hz⟩ : ∃ z, en / 16 = z := ⟨_, rfl⟩
  have q1 : en.tdiv 16 = z := by rw [Int.tdiv_eq_ediv_of_nonneg hen.1]; exact hz
  have hzb : 0 ≤ z ∧ z ≤ 255 := by omega
  have q2 : IntKind.i64.wrap z = z := by rw [IntKind.wrap_i64]; omega
  obtain ⟨W2, hW2⟩ : ∃ W2, W2 = w1.alloc (.cells #[.int .i64 z, .int .i64 1] 102) := ⟨_, rfl⟩
  obtain ⟨O, hO⟩ : ∃ O, O = w1.heap.size := ⟨_, rfl⟩
  have hb2 : BI w1 [(O, [.int .i64 z, .int .i64 1], 102), (Q, [.string name, .int .i64 en, .int .i64 ac, .int .i64 re, .int .i64 inp, .int .i64 ou, .slice ra L rc, .slice pa M pc], 41)] W2 := by rw [hW2, hO]; exact BI.box HQ.out.1 _ _
  have d6 := (hb2.1 _ (.tail _ (.head _))).cell (i := 6) rfl
  have kW : KF w W2 := HQ.out.2.trans hb2.2 fun _ _ h => h
  have HC : Hid (Calls Tryz.prog 100 #[.slice ra rs.length rc, .func (.func 101) #[] #[.pointer (some ⟨O, 0, none⟩)]] W2 fun e w' => e = .returned (.bool (rs.any (Rgn.runs ⟨z, 1⟩))) ∧ KF W2 w') := by
   refine containsFunc_rgn rs ra rc 101 _ (fun w' => Bls [(O, [.int .i64 z, .int .i64 1], 102)] w' ∧ SegA Rgn.vs 4 w' ra rs) _ (fun args w => enter_fn Tryz.func101 rfl rfl args w) (fun w w' h k => ⟨h.1.kept k, h.2.kept k fun _ _ _ h => h⟩) (fun w h => h.2) HL.out.2.2.1 (fun r hr1 w' h => ?_) W2 ⟨fun b hb => ?_, HL.out.2.1.kept kW fun _ _ _ h => h⟩
   ·
    have := HL.out.2.2.2 r hr1
    exact beginClo r ⟨z, 1⟩ O this.1 this.2 (by unfold Rn.Ok I64; dsimp only; omega) w' h.1
   ·
    rcases List.mem_cons.1 hb with rfl | hb
    ·
     exact hb2.1 _ (.head _)
    ·
     cases hb
  have HK : Hid (KF w W2) := kW
  have HF : Hid ((rs.any (Rgn.runs ⟨z, 1⟩)) = B) := by
   refine Hid.mkq ?_
   rw [← HB.out]
   unfold Par.begB
   dsimp only
   rw [HBb.out, hz, Bool.true_and]
  rw [HF.out, HL.out.1] at HC
  clear kW hb2 hz
  go_upto_region 4 with fail
  rw [← hW2, ← hO]
  clear hW2 hO c1 c6
  go_wp2_with fail
  refine HC.out.mono ?_
  rintro e w2 ⟨rfl, hK⟩
  have HK1 : Hid (KF w w2) := HK.out.trans hK fun _ _ h => h
  clear hK HC
  go_wp2
  go_ret
  exact ⟨rfl, HK1.out⟩
theorem takenClo (P : Par) (nm : ByteArray) (A : Nat) (w : World) (hE : Bls [(A, [.string nm], 9)] w) : Calls Tryz.prog 92 #[P.v, .pointer (some ⟨A, 0, none⟩)] w fun e w' => e = .returned (.bool (P.name.toList == nm.toList)) ∧ KF w w' := by
 obtain ⟨name, en, ac, re, inp, ou, ra, rc, rs, pa, pc, ps⟩ := P
 obtain ⟨L, hL⟩ : ∃ L, rs.length = L := ⟨_, rfl⟩
 obtain ⟨M, hM⟩ : ∃ M, ps.length = M := ⟨_, rfl⟩
 simp only [Par.v, hL, hM]
 obtain ⟨W, hW⟩ : ∃ W, W = w.alloc (.cells #[.string name, .int .i64 en, .int .i64 ac, .int .i64 re, .int .i64 inp, .int .i64 ou, .slice ra L rc, .slice pa M pc] 41) := ⟨_, rfl⟩
 obtain ⟨Q, hQ⟩ : ∃ Q, Q = w.heap.size := ⟨_, rfl⟩
 have hb : BI w [(Q, [.string name, .int .i64 en, .int .i64 ac, .int .i64 re, .int .i64 inp, .int .i64 ou, .slice ra L rc, .slice pa M pc], 41), (A, [.string nm], 9)] W := by rw [hW, hQ]; exact BI.box hE _ _
 have HQ : Hid (KF w W) := hb.2
 have c0 := (hb.1 _ (.head _)).cell (i := 0) rfl
 have d0 := (hb.1 _ (.tail _ (.head _))).cell (i := 0) rfl
 clear hb hL hM hE
 go_enter Tryz.func92, Tryz.ntmps92
 go_upto_region 1 with fail
 rw [← hW, ← hQ]
 clear hW hQ
 go_wp2
 go_ret
 exact ⟨rfl, HQ.out⟩
theorem isTaken_any (nm : ByteArray) (Ps : List Par) (a : Option Addr) (cap : Nat) (hlen : Ps.length ≤ cap ∧ cap ≤ maxLen) (w : World) (hS : SegA Par.vs 8 w a Ps) :
  Calls Tryz.prog 59 #[.string nm, .slice a Ps.length cap] w fun e w' => e = .returned (.bool (Ps.any fun P => P.name.toList == nm.toList)) ∧ KF w w' := by
 obtain ⟨W, hW⟩ : ∃ W, W = w.alloc (.cells #[.string nm] 9) := ⟨_, rfl⟩
 obtain ⟨A, hA⟩ : ∃ A, A = w.heap.size := ⟨_, rfl⟩
 have hb : BI w [(A, [.string nm], 9)] W := by rw [hW, hA]; exact BI.box (fun b hb => by cases hb) _ _
 have HC : Hid (Calls Tryz.prog 91 #[.slice a Ps.length cap, .func (.func 92) #[] #[.pointer (some ⟨A, 0, none⟩)]] W fun e w' => e = .returned (.bool (Ps.any fun P => P.name.toList == nm.toList)) ∧ KF W w') := by
  refine containsFunc_par Ps a cap 92 _ (fun w' => Bls [(A, [.string nm], 9)] w' ∧ SegA Par.vs 8 w' a Ps) _ (fun args w => enter_fn Tryz.func92 rfl rfl args w) (fun w w' h k => ⟨h.1.kept k, h.2.kept k fun _ _ _ h => h⟩) (fun w h => h.2) hlen (fun r hr1 w' h => ?_) W ⟨hb.1, hS.kept hb.2 fun _ _ _ h => h⟩
  exact takenClo r nm A w' h.1
 have HK : Hid (KF w W) := hb.2
 obtain ⟨L, hL⟩ : ∃ L, Ps.length = L := ⟨_, rfl⟩
 obtain ⟨B, hB⟩ : ∃ B, (Ps.any fun P => P.name.toList == nm.toList) = B := ⟨_, rfl⟩
 rw [hL, hB] at HC
 rw [hL, hB]
 clear hL hB hb hS hlen
 go_enter Tryz.func59, Tryz.ntmps59
 go_upto_region 1 with fail
 rw [← hW, ← hA]
 clear hW hA
 go_wp2_with fail
 refine HC.out.mono ?_
 rintro e w1 ⟨rfl, hK⟩
 have HK1 : Hid (KF w w1) := HK.out.trans hK fun _ _ h => h
 clear hK HC
 go_wp2
 go_ret
 exact ⟨rfl, HK1.out⟩
theorem winClo (y : Win) (p : Int) (A : Nat) (w : World) (hE : Bls [(A, [.int .i64 p], 3)] w) : Calls Tryz.prog 120 #[y.v, .pointer (some ⟨A, 0, none⟩)] w fun e w' => e = .returned (.bool (y.p == p)) ∧ KF w w' := by
 obtain ⟨yp, yu, ys⟩ := y
 obtain ⟨W, hW⟩ : ∃ W, W = w.alloc (.cells #[.int .i64 yp, .int .i64 yu, .int .i64 ys] 44) := ⟨_, rfl⟩
 obtain ⟨Q, hQ⟩ : ∃ Q, Q = w.heap.size := ⟨_, rfl⟩
 have hb : BI w [(Q, [.int .i64 yp, .int .i64 yu, .int .i64 ys], 44), (A, [.int .i64 p], 3)] W := by rw [hW, hQ]; exact BI.box hE _ _
 have HQ : Hid (KF w W) := hb.2
 have c0 := (hb.1 _ (.head _)).cell (i := 0) rfl
 have d0 := (hb.1 _ (.tail _ (.head _))).cell (i := 0) rfl
 clear hb hE
 go_enter Tryz.func120, Tryz.ntmps120
 go_upto_region 1 with fail
 rw [← hW, ← hQ]
 clear hW hQ
 go_wp2
 go_ret
 exact ⟨rfl, HQ.out⟩
theorem coreClo (X : Core) (p : Int) (A : Nat) (hlen : X.ws.length ≤ X.c ∧ X.c ≤ maxLen) (w : World) (hE : Bls [(A, [.int .i64 p], 3)] w) (hS : SegA Win.vs 3 w X.a X.ws) :
  Calls Tryz.prog 118 #[X.v, .pointer (some ⟨A, 0, none⟩)] w fun e w' => e = .returned (.bool (X.ws.any fun y => y.p == p)) ∧ KF w w' := by
 have HC : Hid (Calls Tryz.prog 119 #[.slice X.a X.ws.length X.c, .func (.func 120) #[] #[.pointer (some ⟨A, 0, none⟩)]] w fun e w' => e = .returned (.bool (X.ws.any fun y => y.p == p)) ∧ KF w w') := by
  refine containsFunc_win X.ws X.a X.c 120 _ (fun w' => Bls [(A, [.int .i64 p], 3)] w' ∧ SegA Win.vs 3 w' X.a X.ws) _ (fun args w => enter_fn Tryz.func120 rfl rfl args w) (fun w w' h k => ⟨h.1.kept k, h.2.kept k fun _ _ _ h => h⟩) (fun w h => h.2) hlen (fun r hr1 w' h => ?_) w ⟨hE, hS⟩
  exact winClo r p A w' h.1
 obtain ⟨a, c, ws⟩ := X
 dsimp only [Core.v] at HC ⊢
 obtain ⟨L, hL⟩ : ∃ L, ws.length = L := ⟨_, rfl⟩
 obtain ⟨B, hB⟩ : ∃ B, (ws.any fun y => y.p == p) = B := ⟨_, rfl⟩
 rw [hL, hB] at HC
 rw [hL, hB]
 clear hL hB hS hlen hE
 go_enter Tryz.func118, Tryz.ntmps118
 go_wp2_with fail
 refine HC.out.mono ?_
 rintro e w1 ⟨rfl, hK⟩
 have HK1 : Hid (KF w w1) := hK
 clear hK HC
 go_wp2
 go_ret
 exact ⟨rfl, HK1.out⟩
def hasW (p : Int) (cs : List Core) : Bool := if p = -1 then false else cs.any fun X => X.ws.any fun y => y.p == p
theorem hasWindow_any (p : Int) (cs : List Core) (a : Option Addr) (cap : Nat) (hlen : cs.length ≤ cap ∧ cap ≤ maxLen) (w : World) (hS : SegA Core.vs 1 w a cs) (hC : ∀ X ∈ cs, SegA Win.vs 3 w X.a X.ws ∧ X.ws.length ≤ X.c ∧ X.c ≤ maxLen) :
  Calls Tryz.prog 107 #[.slice a cs.length cap, .int .i64 p] w fun e w' => e = .returned (.bool (hasW p cs)) ∧ KF w w' := by
 obtain ⟨W, hW⟩ : ∃ W, W = w.alloc (.cells #[.int .i64 p] 3) := ⟨_, rfl⟩
 obtain ⟨A, hA⟩ : ∃ A, A = w.heap.size := ⟨_, rfl⟩
 have hb : BI w [(A, [.int .i64 p], 3)] W := by rw [hW, hA]; exact BI.box (fun b hb => by cases hb) _ _
 have HC : Hid (Calls Tryz.prog 117 #[.slice a cs.length cap, .func (.func 118) #[] #[.pointer (some ⟨A, 0, none⟩)]] W fun e w' => e = .returned (.bool (cs.any fun X => X.ws.any fun y => y.p == p)) ∧ KF W w') := by
  refine containsFunc_core cs a cap 118 _ (fun w' => Bls [(A, [.int .i64 p], 3)] w' ∧ SegA Core.vs 1 w' a cs ∧ ∀ X ∈ cs, SegA Win.vs 3 w' X.a X.ws) _ (fun args w => enter_fn Tryz.func118 rfl rfl args w) (fun w w' h k => ⟨h.1.kept k, h.2.1.kept k fun _ _ _ h => h, fun X hX => (h.2.2 X hX).kept k fun _ _ _ h => h⟩) (fun w h => h.2.1) hlen (fun X hX w' h => ?_) W ⟨hb.1, hS.kept hb.2 fun _ _ _ h => h, fun X hX => (hC X hX).1.kept hb.2 fun _ _ _ h => h⟩
  exact coreClo X p A (hC X hX).2 w' h.1 (h.2.2 X hX)
 have HK : Hid (KF w W) := hb.2
 have c0 := (hb.1 _ (.head _)).cell (i := 0) rfl
 obtain ⟨L, hL⟩ : ∃ L, cs.length = L := ⟨_, rfl⟩
 unfold hasW
 obtain ⟨B, hB⟩ : ∃ B, (cs.any fun X => X.ws.any fun y => y.p == p) = B := ⟨_, rfl⟩
 rw [hL, hB] at HC
 rw [hL, hB]
 clear hL hB hb hS hlen hC
 go_enter Tryz.func107, Tryz.ntmps107
 go_upto_region 1 with fail
 rw [← hW, ← hA]
 clear hW hA
 by_cases hp : p = -1
 ·
  subst hp
  go_wp2
  go_ret
  exact ⟨rfl, HK.out⟩
 ·
  have q1 : (p == -1) = false := by simpa using hp
  go_wp2_with fail
  refine HC.out.mono ?_
  rintro e w1 ⟨rfl, hK⟩
  have HK1 : Hid (KF w w1) := HK.out.trans hK fun _ _ h => h
  clear hK HC
  go_wp2
  go_ret
  exact ⟨rfl, HK1.out⟩
end Go.Proofs.YtlnmlbkeemahcaaGreat
