import Derived.Test.YtlnmlbkeemahcaaGreatQl
namespace Go.Proofs.YtlnmlbkeemahcaaGreat
open Go.RowKit
set_option linter.unusedVariables false
set_option linter.unusedSimpArgs false
set_option maxRecDepth 6000
theorem Env.sub {x : Cfg} {N : Nat} {L L' : List (Nat × List Value × TypeId)} {w : World} (h : Env x N L w) (hs : ∀ b ∈ L', b ∈ L) : Env x N L' w := ⟨h.cin, h.nn, fun b hb => h.bl b (hs b hb)⟩
theorem Ask.of {f : Nat} {bs : Array Value} {E E' : World → Prop} {g : Flt} (h : Ask f bs E' g) (hE : ∀ w, E w → E' w) : Ask f bs E g := fun w hw => h w (hE w hw)
theorem SegA.take {α : Type} {cells : α → List Value} {k : Nat} {w : World} {a : Option Addr} {xs : List α} (h : SegA cells k w a xs) (n : Nat) : SegA cells k w a (xs.take n) := by
 rcases h with h | ⟨g, o, ha, hc⟩
 ·
  left; rw [h]; simp
 ·
  refine .inr ⟨g, o, ha, fun j x hj => ?_⟩
  rw [List.getElem?_take] at hj
  split at hj
  ·
   exact hc j x hj
  ·
   cases hj
def rgnF (x : Cfg) (p : Nat) (P : Par) (i : Nat) (r : Rgn) : List Flt :=
 [unl (r.okB x.frames) ⟨409, p, i⟩,
  unl (!((P.rs.take i).any fun s => s.pg.meets r.pg)) ⟨410, p, i⟩,
  unl (!((P.rs.take i).any fun s => s.fr.meets r.fr)) ⟨411, p, i⟩,
  unl (!((x.ps.take p).any fun Q => Q.rs.any fun s => s.fr.meets r.fr)) ⟨411, p, i⟩]
set_option maxHeartbeats 4000000 in
theorem q78 (x : Cfg) (N : Nat) (p i : Nat) (P : Par) (r : Rgn) (G C A : Nat) (hr : r.Fine) (h1 : 1 ≤ x.frames) (h2 : x.frames ≤ 1024) : Ask 93 #[.pointer (some ⟨G, 0, none⟩), .pointer (some ⟨C, 0, none⟩), .pointer (some ⟨A, 0, none⟩)] (Env x N [(G, [.int .i64 r.page, .int .i64 r.pages, .int .i64 r.frame, .int .i64 r.rights], 54), (C, x.vs, 26), (A, [.int .i64 (p : Int), .int .i64 (i : Int)], 34)]) (unl (r.okB x.frames) ⟨409, p, i⟩) := by
 intro w hE
 have HR : Hid (∀ w, Calls Tryz.prog 94 #[r.v, .int .i64 x.frames] w fun e w' => e = .returned (.bool (r.okB x.frames)) ∧ KF w w') := fun w => isRegion_any r x.frames hr h1 h2 w
 clear hr h1 h2
 have HEk : Hid (∀ w w', (Env x N [(G, [.int .i64 r.page, .int .i64 r.pages, .int .i64 r.frame, .int .i64 r.rights], 54), (C, x.vs, 26), (A, [.int .i64 (p : Int), .int .i64 (i : Int)], 34)]) w → KF w w' → (Env x N [(G, [.int .i64 r.page, .int .i64 r.pages, .int .i64 r.frame, .int .i64 r.rights], 54), (C, x.vs, 26), (A, [.int .i64 (p : Int), .int .i64 (i : Int)], 34)]) w') := fun _ _ h k => h.kept k
 have HS : Hid (∀ w', (Env x N [(G, [.int .i64 r.page, .int .i64 r.pages, .int .i64 r.frame, .int .i64 r.rights], 54), (C, x.vs, 26), (A, [.int .i64 (p : Int), .int .i64 (i : Int)], 34)]) w' → (w'.cell? ⟨G, 0, none⟩ = some (.int .i64 r.page) ∧ w'.cell? ⟨G, 1, none⟩ = some (.int .i64 r.pages) ∧ w'.cell? ⟨G, 2, none⟩ = some (.int .i64 r.frame) ∧ w'.cell? ⟨G, 3, none⟩ = some (.int .i64 r.rights) ∧ w'.cell? ⟨C, 0, none⟩ = some (.int .i64 x.frames) ∧ w'.cell? ⟨C, 1, none⟩ = some (.int .i64 x.major) ∧ w'.cell? ⟨C, 2, none⟩ = some (.int .i64 x.kernel) ∧ w'.cell? ⟨C, 3, none⟩ = some (.int .i64 x.room) ∧ w'.cell? ⟨C, 4, none⟩ = some (.slice x.ca x.cs.length x.cc) ∧ w'.cell? ⟨C, 5, none⟩ = some (.slice x.pa x.ps.length x.pc) ∧ w'.cell? ⟨C, 6, none⟩ = some (.slice x.ha x.hs.length x.hc) ∧ w'.cell? ⟨A, 0, none⟩ = some (.int .i64 (p : Int)) ∧ w'.cell? ⟨A, 1, none⟩ = some (.int .i64 (i : Int)))) := fun w' h => ⟨(h.bl _ (.head _)).cell (i := 0) rfl, (h.bl _ (.head _)).cell (i := 1) rfl, (h.bl _ (.head _)).cell (i := 2) rfl, (h.bl _ (.head _)).cell (i := 3) rfl, (h.bl _ (.tail _ (.head _))).cell (i := 0) rfl, (h.bl _ (.tail _ (.head _))).cell (i := 1) rfl, (h.bl _ (.tail _ (.head _))).cell (i := 2) rfl, (h.bl _ (.tail _ (.head _))).cell (i := 3) rfl, (h.bl _ (.tail _ (.head _))).cell (i := 4) rfl, (h.bl _ (.tail _ (.head _))).cell (i := 5) rfl, (h.bl _ (.tail _ (.head _))).cell (i := 6) rfl, (h.bl _ (.tail _ (.tail _ (.head _)))).cell (i := 0) rfl, (h.bl _ (.tail _ (.tail _ (.head _)))).cell (i := 1) rfl⟩
 obtain ⟨W, hW⟩ : ∃ W, W = w.alloc (.cells #[.int .i64 0, .int .i64 0, .int .i64 0] 65) := ⟨_, rfl⟩
 obtain ⟨R, hR⟩ : ∃ R, R = w.heap.size := ⟨_, rfl⟩
 have HO : Hid (ObI w (Env x N [(G, [.int .i64 r.page, .int .i64 r.pages, .int .i64 r.frame, .int .i64 r.rights], 54), (C, x.vs, 26), (A, [.int .i64 (p : Int), .int .i64 (i : Int)], 34)]) R W) := by rw [hW, hR]; exact ⟨hE.kept ((Keeps.refl _ _).alloc _), Blk.new _ _ _, (Keeps.refl _ _).alloc _, Nat.le_refl _⟩
 have HE0 : Hid ((Env x N [(G, [.int .i64 r.page, .int .i64 r.pages, .int .i64 r.frame, .int .i64 r.rights], 54), (C, x.vs, 26), (A, [.int .i64 (p : Int), .int .i64 (i : Int)], 34)]) w) := hE
 clear hE
 go_enter Tryz.func93, Tryz.ntmps93
 go_upto_region 1 with fail
 rw [← hW, ← hR]
 clear hW hR
 refine wp_region_held_drew (S := (fun w' => w'.cell? ⟨G, 0, none⟩ = some (.int .i64 r.page) ∧ w'.cell? ⟨G, 1, none⟩ = some (.int .i64 r.pages) ∧ w'.cell? ⟨G, 2, none⟩ = some (.int .i64 r.frame) ∧ w'.cell? ⟨G, 3, none⟩ = some (.int .i64 r.rights) ∧ w'.cell? ⟨C, 0, none⟩ = some (.int .i64 x.frames) ∧ w'.cell? ⟨C, 1, none⟩ = some (.int .i64 x.major) ∧ w'.cell? ⟨C, 2, none⟩ = some (.int .i64 x.kernel) ∧ w'.cell? ⟨C, 3, none⟩ = some (.int .i64 x.room) ∧ w'.cell? ⟨C, 4, none⟩ = some (.slice x.ca x.cs.length x.cc) ∧ w'.cell? ⟨C, 5, none⟩ = some (.slice x.pa x.ps.length x.pc) ∧ w'.cell? ⟨C, 6, none⟩ = some (.slice x.ha x.hs.length x.hc) ∧ w'.cell? ⟨A, 0, none⟩ = some (.int .i64 (p : Int)) ∧ w'.cell? ⟨A, 1, none⟩ = some (.int .i64 (i : Int)))) Tryz.mixd (HS.out _ (HO.out.env.kept ((Keeps.refl _ _).drew))) (fun hHeld => ?_)
 simp only [t1, t2, List.length_nil, Nat.reduceAdd, t4, Array.replicate_zero, t6, List.append_toArray, List.nil_append, t8]
 refine tk 0 (.agg #[.int .i64 r.page, .int .i64 r.pages, .int .i64 r.frame, .int .i64 r.rights]) hHeld ?_
 refine tk 1 (.pointer (some ⟨C, 0, none⟩)) hHeld ?_
 refine tk 2 (.int .i64 x.frames) hHeld ?_
 refine tk 4 (.agg #[.int .i64 (p : Int), .int .i64 (i : Int)]) hHeld ?_
 simp only [Act.put, s1, s2, s3]
 refine rd 3 fun K hK => ?_
 go_simp
 refine (HR.out W.drew).mono ?_
 rintro r w1 ⟨rfl, hKc⟩
 have HO1 : Hid (ObI w (Env x N [(G, [.int .i64 r.page, .int .i64 r.pages, .int .i64 r.frame, .int .i64 r.rights], 54), (C, x.vs, 26), (A, [.int .i64 (p : Int), .int .i64 (i : Int)], 34)]) R w1) := HO.out.kept HEk.out (((Keeps.refl _ _).drew).trans hKc fun _ _ h => h)
 clear hKc
 refine hK.out _ _ (HS.out _ HO1.out.env) (fun hHeld => ?_)
 simp only [Act.put, s1, s2, s3]
 refine rd 5 fun K hK => ?_
 go_simp
 refine (unless_any (r.okB x.frames) 409 p i w1).mono ?_
 rintro r w2 ⟨rfl, hKc⟩
 have HO2 : Hid (ObI w (Env x N [(G, [.int .i64 r.page, .int .i64 r.pages, .int .i64 r.frame, .int .i64 r.rights], 54), (C, x.vs, 26), (A, [.int .i64 (p : Int), .int .i64 (i : Int)], 34)]) R w2) := HO1.out.kept HEk.out hKc
 clear hKc
 obtain ⟨Gz, hG⟩ : ∃ Gz : Flt, unl (r.okB x.frames) ⟨409, p, i⟩ = Gz := ⟨_, rfl⟩
 rw [hG]
 have HG : Hid (unl (r.okB x.frames) ⟨409, p, i⟩ = Gz) := hG
 clear hG
 refine hK.out _ _ (HS.out _ HO2.out.env) (fun hHeld => ?_)
 simp only [Act.put, s1, s2, s3]
 refine rd 6 fun K hK => ?_
 refine wp_store_row 65 _ _ rfl R #[.int .i64 Gz.n, .int .i64 Gz.a, .int .i64 Gz.b] (by rfl) (by rfl) 65 _ HO2.out.ans Tryz.size65 rfl (all53 ..) ?_
 obtain ⟨W5, hW5⟩ : ∃ W5, W5 = w2.setRow R #[.int .i64 Gz.n, .int .i64 Gz.a, .int .i64 Gz.b] := ⟨_, rfl⟩
 have hB5 : Blk W5 R [.int .i64 Gz.n, .int .i64 Gz.a, .int .i64 Gz.b] 65 := by rw [hW5]; exact HO2.out.ans.setRow _
 have k5 : Keeps (fun k => k = R) w2 W5 := by rw [hW5]; exact (Keeps.refl _ _).setRow _ _ fun _ => rfl
 have hlo := HO.out.lo
 have HO5 : Hid (Blk W5 R [.int .i64 Gz.n, .int .i64 Gz.a, .int .i64 Gz.b] 65 ∧ KF w W5) := ⟨hB5, HO2.out.keeps.trans k5 fun k hk e => by omega⟩
 have HE5 : Hid ((Env x N [(G, [.int .i64 r.page, .int .i64 r.pages, .int .i64 r.frame, .int .i64 r.rights], 54), (C, x.vs, 26), (A, [.int .i64 (p : Int), .int .i64 (i : Int)], 34)]) W5) := Env.kept' (HE0.out) HO2.out.env hlo k5
 rw [← hW5]
 clear hW5 hB5 k5 hlo
 refine hK.out _ _ (HS.out _ HE5.out) (fun hHeld => ?_)
 simp only [Act.put, s1, s2, s3]
 refine wpAnyH_done (by kernel_rfl) ?_ _
 clear hHeld
 go_wp2
 (try simp only [Exit.inBlock, Exit.then])
 refine bodyPost_ret (results_cell_row rfl _ _ R 65 _ (0, 0) _ rfl HO5.out.1 Tryz.underlying65 rfl (by kernel_rfl)) rfl ?_
 exact ⟨by rw [HG.out], HO5.out.2⟩
set_option maxHeartbeats 4000000 in
theorem q80 (x : Cfg) (N : Nat) (p i : Nat) (P : Par) (r : Rgn) (H G A : Nat) (hP : P ∈ x.ps) (hi : i ≤ P.rs.length) (hr : r.pg.Ok) (hs : ∀ s ∈ P.rs.take i, s.pg.Ok) : Ask 95 #[.pointer (some ⟨H, 0, none⟩), .pointer (some ⟨G, 0, none⟩), .pointer (some ⟨A, 0, none⟩)] (Env x N [(H, [.slice P.ra i P.rc], 38), (G, [.int .i64 r.page, .int .i64 r.pages, .int .i64 r.frame, .int .i64 r.rights], 54), (A, [.int .i64 (p : Int), .int .i64 (i : Int)], 34)]) (unl (!((P.rs.take i).any fun s => s.pg.meets r.pg)) ⟨410, p, i⟩) := by
 intro w hE
 have HM : Hid (∀ w, Env x N [(H, [.slice P.ra i P.rc], 38), (G, [.int .i64 r.page, .int .i64 r.pages, .int .i64 r.frame, .int .i64 r.rights], 54), (A, [.int .i64 (p : Int), .int .i64 (i : Int)], 34)] w → Calls Tryz.prog 84 #[.slice P.ra i P.rc, .func (.func 96) #[] #[], r.pg.v] w fun e w' => e = .returned (.bool ((P.rs.take i).any fun s => s.pg.meets r.pg)) ∧ KF w w') := fun w hE => by
  have hPi := hE.cin.pin P hP
  have hl : (P.rs.take i).length = i := by rw [List.length_take]; omega
  have := anyMeets_any 96 Rgn.pg run_pages (P.rs.take i) P.ra P.rc r.pg hr hs (by rw [hl]; have := hPi.rlen; omega) w (hPi.rseg.take i)
  rw [hl] at this
  exact this
 clear hP hi hr hs
 have HEk : Hid (∀ w w', (Env x N [(H, [.slice P.ra i P.rc], 38), (G, [.int .i64 r.page, .int .i64 r.pages, .int .i64 r.frame, .int .i64 r.rights], 54), (A, [.int .i64 (p : Int), .int .i64 (i : Int)], 34)]) w → KF w w' → (Env x N [(H, [.slice P.ra i P.rc], 38), (G, [.int .i64 r.page, .int .i64 r.pages, .int .i64 r.frame, .int .i64 r.rights], 54), (A, [.int .i64 (p : Int), .int .i64 (i : Int)], 34)]) w') := fun _ _ h k => h.kept k
 have HS : Hid (∀ w', (Env x N [(H, [.slice P.ra i P.rc], 38), (G, [.int .i64 r.page, .int .i64 r.pages, .int .i64 r.frame, .int .i64 r.rights], 54), (A, [.int .i64 (p : Int), .int .i64 (i : Int)], 34)]) w' → (w'.cell? ⟨H, 0, none⟩ = some (.slice P.ra i P.rc) ∧ w'.cell? ⟨G, 0, none⟩ = some (.int .i64 r.page) ∧ w'.cell? ⟨G, 1, none⟩ = some (.int .i64 r.pages) ∧ w'.cell? ⟨G, 2, none⟩ = some (.int .i64 r.frame) ∧ w'.cell? ⟨G, 3, none⟩ = some (.int .i64 r.rights) ∧ w'.cell? ⟨A, 0, none⟩ = some (.int .i64 (p : Int)) ∧ w'.cell? ⟨A, 1, none⟩ = some (.int .i64 (i : Int)))) := fun w' h => ⟨(h.bl _ (.head _)).cell (i := 0) rfl, (h.bl _ (.tail _ (.head _))).cell (i := 0) rfl, (h.bl _ (.tail _ (.head _))).cell (i := 1) rfl, (h.bl _ (.tail _ (.head _))).cell (i := 2) rfl, (h.bl _ (.tail _ (.head _))).cell (i := 3) rfl, (h.bl _ (.tail _ (.tail _ (.head _)))).cell (i := 0) rfl, (h.bl _ (.tail _ (.tail _ (.head _)))).cell (i := 1) rfl⟩
 obtain ⟨W, hW⟩ : ∃ W, W = w.alloc (.cells #[.int .i64 0, .int .i64 0, .int .i64 0] 65) := ⟨_, rfl⟩
 obtain ⟨R, hR⟩ : ∃ R, R = w.heap.size := ⟨_, rfl⟩
 have HO : Hid (ObI w (Env x N [(H, [.slice P.ra i P.rc], 38), (G, [.int .i64 r.page, .int .i64 r.pages, .int .i64 r.frame, .int .i64 r.rights], 54), (A, [.int .i64 (p : Int), .int .i64 (i : Int)], 34)]) R W) := by rw [hW, hR]; exact ⟨hE.kept ((Keeps.refl _ _).alloc _), Blk.new _ _ _, (Keeps.refl _ _).alloc _, Nat.le_refl _⟩
 have HE0 : Hid ((Env x N [(H, [.slice P.ra i P.rc], 38), (G, [.int .i64 r.page, .int .i64 r.pages, .int .i64 r.frame, .int .i64 r.rights], 54), (A, [.int .i64 (p : Int), .int .i64 (i : Int)], 34)]) w) := hE
 clear hE
 go_enter Tryz.func95, Tryz.ntmps95
 go_upto_region 1 with fail
 rw [← hW, ← hR]
 clear hW hR
 refine wp_region_held_drew (S := (fun w' => w'.cell? ⟨H, 0, none⟩ = some (.slice P.ra i P.rc) ∧ w'.cell? ⟨G, 0, none⟩ = some (.int .i64 r.page) ∧ w'.cell? ⟨G, 1, none⟩ = some (.int .i64 r.pages) ∧ w'.cell? ⟨G, 2, none⟩ = some (.int .i64 r.frame) ∧ w'.cell? ⟨G, 3, none⟩ = some (.int .i64 r.rights) ∧ w'.cell? ⟨A, 0, none⟩ = some (.int .i64 (p : Int)) ∧ w'.cell? ⟨A, 1, none⟩ = some (.int .i64 (i : Int)))) Tryz.mixd (HS.out _ (HO.out.env.kept ((Keeps.refl _ _).drew))) (fun hHeld => ?_)
 simp only [t1, t2, List.length_nil, Nat.reduceAdd, t4, Array.replicate_zero, t6, List.append_toArray, List.nil_append, t8]
 refine tk 0 (.slice P.ra i P.rc) hHeld ?_
 refine tk 1 (.agg #[.int .i64 r.page, .int .i64 r.pages, .int .i64 r.frame, .int .i64 r.rights]) hHeld ?_
 refine tk 5 (.agg #[.int .i64 (p : Int), .int .i64 (i : Int)]) hHeld ?_
 simp only [Act.put, s1, s2, s3]
 refine rd 2 fun K hK => ?_
 go_simp
 refine (pagesOf_any r W.drew).mono ?_
 rintro r w1 ⟨rfl, hKc⟩
 have HO1 : Hid (ObI w (Env x N [(H, [.slice P.ra i P.rc], 38), (G, [.int .i64 r.page, .int .i64 r.pages, .int .i64 r.frame, .int .i64 r.rights], 54), (A, [.int .i64 (p : Int), .int .i64 (i : Int)], 34)]) R w1) := HO.out.kept HEk.out (((Keeps.refl _ _).drew).trans hKc fun _ _ h => h)
 clear hKc
 refine hK.out _ _ (HS.out _ HO1.out.env) (fun hHeld => ?_)
 simp only [Act.put, s1, s2, s3]
 refine rd 3 fun K hK => ?_
 go_simp
 refine (HM.out w1 HO1.out.env).mono ?_
 rintro r w2 ⟨rfl, hKc⟩
 have HO2 : Hid (ObI w (Env x N [(H, [.slice P.ra i P.rc], 38), (G, [.int .i64 r.page, .int .i64 r.pages, .int .i64 r.frame, .int .i64 r.rights], 54), (A, [.int .i64 (p : Int), .int .i64 (i : Int)], 34)]) R w2) := HO1.out.kept HEk.out hKc
 clear hKc
 refine hK.out _ _ (HS.out _ HO2.out.env) (fun hHeld => ?_)
 simp only [Act.put, s1, s2, s3]
 refine tk 4 (.bool (!((P.rs.take i).any fun s => s.pg.meets r.pg))) hHeld ?_
 simp only [Act.put, s1, s2, s3]
 refine rd 6 fun K hK => ?_
 go_simp
 refine (unless_any (!((P.rs.take i).any fun s => s.pg.meets r.pg)) 410 p i w2).mono ?_
 rintro r w3 ⟨rfl, hKc⟩
 have HO3 : Hid (ObI w (Env x N [(H, [.slice P.ra i P.rc], 38), (G, [.int .i64 r.page, .int .i64 r.pages, .int .i64 r.frame, .int .i64 r.rights], 54), (A, [.int .i64 (p : Int), .int .i64 (i : Int)], 34)]) R w3) := HO2.out.kept HEk.out hKc
 clear hKc
 obtain ⟨Gz, hG⟩ : ∃ Gz : Flt, unl (!((P.rs.take i).any fun s => s.pg.meets r.pg)) ⟨410, p, i⟩ = Gz := ⟨_, rfl⟩
 rw [hG]
 have HG : Hid (unl (!((P.rs.take i).any fun s => s.pg.meets r.pg)) ⟨410, p, i⟩ = Gz) := hG
 clear hG
 refine hK.out _ _ (HS.out _ HO3.out.env) (fun hHeld => ?_)
 simp only [Act.put, s1, s2, s3]
 refine rd 7 fun K hK => ?_
 refine wp_store_row 65 _ _ rfl R #[.int .i64 Gz.n, .int .i64 Gz.a, .int .i64 Gz.b] (by rfl) (by rfl) 65 _ HO3.out.ans Tryz.size65 rfl (all53 ..) ?_
 obtain ⟨W5, hW5⟩ : ∃ W5, W5 = w3.setRow R #[.int .i64 Gz.n, .int .i64 Gz.a, .int .i64 Gz.b] := ⟨_, rfl⟩
 have hB5 : Blk W5 R [.int .i64 Gz.n, .int .i64 Gz.a, .int .i64 Gz.b] 65 := by rw [hW5]; exact HO3.out.ans.setRow _
 have k5 : Keeps (fun k => k = R) w3 W5 := by rw [hW5]; exact (Keeps.refl _ _).setRow _ _ fun _ => rfl
 have hlo := HO.out.lo
 have HO5 : Hid (Blk W5 R [.int .i64 Gz.n, .int .i64 Gz.a, .int .i64 Gz.b] 65 ∧ KF w W5) := ⟨hB5, HO3.out.keeps.trans k5 fun k hk e => by omega⟩
 have HE5 : Hid ((Env x N [(H, [.slice P.ra i P.rc], 38), (G, [.int .i64 r.page, .int .i64 r.pages, .int .i64 r.frame, .int .i64 r.rights], 54), (A, [.int .i64 (p : Int), .int .i64 (i : Int)], 34)]) W5) := Env.kept' (HE0.out) HO3.out.env hlo k5
 rw [← hW5]
 clear hW5 hB5 k5 hlo
 refine hK.out _ _ (HS.out _ HE5.out) (fun hHeld => ?_)
 simp only [Act.put, s1, s2, s3]
 refine wpAnyH_done (by kernel_rfl) ?_ _
 clear hHeld
 go_wp2
 (try simp only [Exit.inBlock, Exit.then])
 refine bodyPost_ret (results_cell_row rfl _ _ R 65 _ (0, 0) _ rfl HO5.out.1 Tryz.underlying65 rfl (by kernel_rfl)) rfl ?_
 exact ⟨by rw [HG.out], HO5.out.2⟩
set_option maxHeartbeats 4000000 in
theorem q82 (x : Cfg) (N : Nat) (p i : Nat) (P : Par) (r : Rgn) (H G A : Nat) (hP : P ∈ x.ps) (hi : i ≤ P.rs.length) (hr : r.fr.Ok) (hs : ∀ s ∈ P.rs.take i, s.fr.Ok) : Ask 97 #[.pointer (some ⟨H, 0, none⟩), .pointer (some ⟨G, 0, none⟩), .pointer (some ⟨A, 0, none⟩)] (Env x N [(H, [.slice P.ra i P.rc], 38), (G, [.int .i64 r.page, .int .i64 r.pages, .int .i64 r.frame, .int .i64 r.rights], 54), (A, [.int .i64 (p : Int), .int .i64 (i : Int)], 34)]) (unl (!((P.rs.take i).any fun s => s.fr.meets r.fr)) ⟨411, p, i⟩) := by
 intro w hE
 have HM : Hid (∀ w, Env x N [(H, [.slice P.ra i P.rc], 38), (G, [.int .i64 r.page, .int .i64 r.pages, .int .i64 r.frame, .int .i64 r.rights], 54), (A, [.int .i64 (p : Int), .int .i64 (i : Int)], 34)] w → Calls Tryz.prog 84 #[.slice P.ra i P.rc, .func (.func 85) #[] #[], r.fr.v] w fun e w' => e = .returned (.bool ((P.rs.take i).any fun s => s.fr.meets r.fr)) ∧ KF w w') := fun w hE => by
  have hPi := hE.cin.pin P hP
  have hl : (P.rs.take i).length = i := by rw [List.length_take]; omega
  have := anyMeets_any 85 Rgn.fr run_frames (P.rs.take i) P.ra P.rc r.fr hr hs (by rw [hl]; have := hPi.rlen; omega) w (hPi.rseg.take i)
  rw [hl] at this
  exact this
 clear hP hi hr hs
 have HEk : Hid (∀ w w', (Env x N [(H, [.slice P.ra i P.rc], 38), (G, [.int .i64 r.page, .int .i64 r.pages, .int .i64 r.frame, .int .i64 r.rights], 54), (A, [.int .i64 (p : Int), .int .i64 (i : Int)], 34)]) w → KF w w' → (Env x N [(H, [.slice P.ra i P.rc], 38), (G, [.int .i64 r.page, .int .i64 r.pages, .int .i64 r.frame, .int .i64 r.rights], 54), (A, [.int .i64 (p : Int), .int .i64 (i : Int)], 34)]) w') := fun _ _ h k => h.kept k
 have HS : Hid (∀ w', (Env x N [(H, [.slice P.ra i P.rc], 38), (G, [.int .i64 r.page, .int .i64 r.pages, .int .i64 r.frame, .int .i64 r.rights], 54), (A, [.int .i64 (p : Int), .int .i64 (i : Int)], 34)]) w' → (w'.cell? ⟨H, 0, none⟩ = some (.slice P.ra i P.rc) ∧ w'.cell? ⟨G, 0, none⟩ = some (.int .i64 r.page) ∧ w'.cell? ⟨G, 1, none⟩ = some (.int .i64 r.pages) ∧ w'.cell? ⟨G, 2, none⟩ = some (.int .i64 r.frame) ∧ w'.cell? ⟨G, 3, none⟩ = some (.int .i64 r.rights) ∧ w'.cell? ⟨A, 0, none⟩ = some (.int .i64 (p : Int)) ∧ w'.cell? ⟨A, 1, none⟩ = some (.int .i64 (i : Int)))) := fun w' h => ⟨(h.bl _ (.head _)).cell (i := 0) rfl, (h.bl _ (.tail _ (.head _))).cell (i := 0) rfl, (h.bl _ (.tail _ (.head _))).cell (i := 1) rfl, (h.bl _ (.tail _ (.head _))).cell (i := 2) rfl, (h.bl _ (.tail _ (.head _))).cell (i := 3) rfl, (h.bl _ (.tail _ (.tail _ (.head _)))).cell (i := 0) rfl, (h.bl _ (.tail _ (.tail _ (.head _)))).cell (i := 1) rfl⟩
 obtain ⟨W, hW⟩ : ∃ W, W = w.alloc (.cells #[.int .i64 0, .int .i64 0, .int .i64 0] 65) := ⟨_, rfl⟩
 obtain ⟨R, hR⟩ : ∃ R, R = w.heap.size := ⟨_, rfl⟩
 have HO : Hid (ObI w (Env x N [(H, [.slice P.ra i P.rc], 38), (G, [.int .i64 r.page, .int .i64 r.pages, .int .i64 r.frame, .int .i64 r.rights], 54), (A, [.int .i64 (p : Int), .int .i64 (i : Int)], 34)]) R W) := by rw [hW, hR]; exact ⟨hE.kept ((Keeps.refl _ _).alloc _), Blk.new _ _ _, (Keeps.refl _ _).alloc _, Nat.le_refl _⟩
 have HE0 : Hid ((Env x N [(H, [.slice P.ra i P.rc], 38), (G, [.int .i64 r.page, .int .i64 r.pages, .int .i64 r.frame, .int .i64 r.rights], 54), (A, [.int .i64 (p : Int), .int .i64 (i : Int)], 34)]) w) := hE
 clear hE
 go_enter Tryz.func97, Tryz.ntmps97
 go_upto_region 1 with fail
 rw [← hW, ← hR]
 clear hW hR
 refine wp_region_held_drew (S := (fun w' => w'.cell? ⟨H, 0, none⟩ = some (.slice P.ra i P.rc) ∧ w'.cell? ⟨G, 0, none⟩ = some (.int .i64 r.page) ∧ w'.cell? ⟨G, 1, none⟩ = some (.int .i64 r.pages) ∧ w'.cell? ⟨G, 2, none⟩ = some (.int .i64 r.frame) ∧ w'.cell? ⟨G, 3, none⟩ = some (.int .i64 r.rights) ∧ w'.cell? ⟨A, 0, none⟩ = some (.int .i64 (p : Int)) ∧ w'.cell? ⟨A, 1, none⟩ = some (.int .i64 (i : Int)))) Tryz.mixd (HS.out _ (HO.out.env.kept ((Keeps.refl _ _).drew))) (fun hHeld => ?_)
 simp only [t1, t2, List.length_nil, Nat.reduceAdd, t4, Array.replicate_zero, t6, List.append_toArray, List.nil_append, t8]
 refine tk 0 (.slice P.ra i P.rc) hHeld ?_
 refine tk 1 (.agg #[.int .i64 r.page, .int .i64 r.pages, .int .i64 r.frame, .int .i64 r.rights]) hHeld ?_
 refine tk 5 (.agg #[.int .i64 (p : Int), .int .i64 (i : Int)]) hHeld ?_
 simp only [Act.put, s1, s2, s3]
 refine rd 2 fun K hK => ?_
 go_simp
 refine (framesOf_any r W.drew).mono ?_
 rintro r w1 ⟨rfl, hKc⟩
 have HO1 : Hid (ObI w (Env x N [(H, [.slice P.ra i P.rc], 38), (G, [.int .i64 r.page, .int .i64 r.pages, .int .i64 r.frame, .int .i64 r.rights], 54), (A, [.int .i64 (p : Int), .int .i64 (i : Int)], 34)]) R w1) := HO.out.kept HEk.out (((Keeps.refl _ _).drew).trans hKc fun _ _ h => h)
 clear hKc
 refine hK.out _ _ (HS.out _ HO1.out.env) (fun hHeld => ?_)
 simp only [Act.put, s1, s2, s3]
 refine rd 3 fun K hK => ?_
 go_simp
 refine (HM.out w1 HO1.out.env).mono ?_
 rintro r w2 ⟨rfl, hKc⟩
 have HO2 : Hid (ObI w (Env x N [(H, [.slice P.ra i P.rc], 38), (G, [.int .i64 r.page, .int .i64 r.pages, .int .i64 r.frame, .int .i64 r.rights], 54), (A, [.int .i64 (p : Int), .int .i64 (i : Int)], 34)]) R w2) := HO1.out.kept HEk.out hKc
 clear hKc
 refine hK.out _ _ (HS.out _ HO2.out.env) (fun hHeld => ?_)
 simp only [Act.put, s1, s2, s3]
 refine tk 4 (.bool (!((P.rs.take i).any fun s => s.fr.meets r.fr))) hHeld ?_
 simp only [Act.put, s1, s2, s3]
 refine rd 6 fun K hK => ?_
 go_simp
 refine (unless_any (!((P.rs.take i).any fun s => s.fr.meets r.fr)) 411 p i w2).mono ?_
 rintro r w3 ⟨rfl, hKc⟩
 have HO3 : Hid (ObI w (Env x N [(H, [.slice P.ra i P.rc], 38), (G, [.int .i64 r.page, .int .i64 r.pages, .int .i64 r.frame, .int .i64 r.rights], 54), (A, [.int .i64 (p : Int), .int .i64 (i : Int)], 34)]) R w3) := HO2.out.kept HEk.out hKc
 clear hKc
 obtain ⟨Gz, hG⟩ : ∃ Gz : Flt, unl (!((P.rs.take i).any fun s => s.fr.meets r.fr)) ⟨411, p, i⟩ = Gz := ⟨_, rfl⟩
 rw [hG]
 have HG : Hid (unl (!((P.rs.take i).any fun s => s.fr.meets r.fr)) ⟨411, p, i⟩ = Gz) := hG
 clear hG
 refine hK.out _ _ (HS.out _ HO3.out.env) (fun hHeld => ?_)
 simp only [Act.put, s1, s2, s3]
 refine rd 7 fun K hK => ?_
 refine wp_store_row 65 _ _ rfl R #[.int .i64 Gz.n, .int .i64 Gz.a, .int .i64 Gz.b] (by rfl) (by rfl) 65 _ HO3.out.ans Tryz.size65 rfl (all53 ..) ?_
 obtain ⟨W5, hW5⟩ : ∃ W5, W5 = w3.setRow R #[.int .i64 Gz.n, .int .i64 Gz.a, .int .i64 Gz.b] := ⟨_, rfl⟩
 have hB5 : Blk W5 R [.int .i64 Gz.n, .int .i64 Gz.a, .int .i64 Gz.b] 65 := by rw [hW5]; exact HO3.out.ans.setRow _
 have k5 : Keeps (fun k => k = R) w3 W5 := by rw [hW5]; exact (Keeps.refl _ _).setRow _ _ fun _ => rfl
 have hlo := HO.out.lo
 have HO5 : Hid (Blk W5 R [.int .i64 Gz.n, .int .i64 Gz.a, .int .i64 Gz.b] 65 ∧ KF w W5) := ⟨hB5, HO3.out.keeps.trans k5 fun k hk e => by omega⟩
 have HE5 : Hid ((Env x N [(H, [.slice P.ra i P.rc], 38), (G, [.int .i64 r.page, .int .i64 r.pages, .int .i64 r.frame, .int .i64 r.rights], 54), (A, [.int .i64 (p : Int), .int .i64 (i : Int)], 34)]) W5) := Env.kept' (HE0.out) HO3.out.env hlo k5
 rw [← hW5]
 clear hW5 hB5 k5 hlo
 refine hK.out _ _ (HS.out _ HE5.out) (fun hHeld => ?_)
 simp only [Act.put, s1, s2, s3]
 refine wpAnyH_done (by kernel_rfl) ?_ _
 clear hHeld
 go_wp2
 (try simp only [Exit.inBlock, Exit.then])
 refine bodyPost_ret (results_cell_row rfl _ _ R 65 _ (0, 0) _ rfl HO5.out.1 Tryz.underlying65 rfl (by kernel_rfl)) rfl ?_
 exact ⟨by rw [HG.out], HO5.out.2⟩
set_option maxHeartbeats 4000000 in
theorem sharedClo (Q : Par) (r : Rgn) (G QL QM : Nat) (hQL : Q.rs.length = QL) (hlen : Q.rs.length ≤ Q.rc ∧ Q.rc ≤ maxLen) (hr : r.fr.Ok) (hs : ∀ s ∈ Q.rs, s.fr.Ok) (w : World) (hE : Bls [(G, [.int .i64 r.page, .int .i64 r.pages, .int .i64 r.frame, .int .i64 r.rights], 54)] w) (hX : SegA Rgn.vs 4 w Q.ra Q.rs) : Calls Tryz.prog 99 #[.agg #[.string Q.name, .int .i64 Q.entry, .int .i64 Q.action, .int .i64 Q.restarts, .int .i64 Q.inputs, .int .i64 Q.outputs, .slice Q.ra QL Q.rc, .slice Q.pa QM Q.pc], .pointer (some ⟨G, 0, none⟩)] w fun e w' => e = .returned (.bool (Q.rs.any fun s => s.fr.meets r.fr)) ∧ KF w w' := by
 have HM : Hid (∀ w', KF w w' → Calls Tryz.prog 84 #[.slice Q.ra QL Q.rc, .func (.func 85) #[] #[], r.fr.v] w' fun e w'' => e = .returned (.bool (Q.rs.any fun s => s.fr.meets r.fr)) ∧ KF w' w'') := fun w' k => by
  have := anyMeets_any 85 Rgn.fr run_frames Q.rs Q.ra Q.rc r.fr hr hs hlen w' (hX.kept k fun _ _ _ h => h)
  rw [hQL] at this
  exact this
 clear hX hQL hlen hr hs
 obtain ⟨W, hW⟩ : ∃ W, W = w.alloc (.cells #[.string Q.name, .int .i64 Q.entry, .int .i64 Q.action, .int .i64 Q.restarts, .int .i64 Q.inputs, .int .i64 Q.outputs, .slice Q.ra QL Q.rc, .slice Q.pa QM Q.pc] 41) := ⟨_, rfl⟩
 obtain ⟨B, hP⟩ : ∃ B, B = w.heap.size := ⟨_, rfl⟩
 have HS : Hid (∀ w', Bls [(B, [.string Q.name, .int .i64 Q.entry, .int .i64 Q.action, .int .i64 Q.restarts, .int .i64 Q.inputs, .int .i64 Q.outputs, .slice Q.ra QL Q.rc, .slice Q.pa QM Q.pc], 41), (G, [.int .i64 r.page, .int .i64 r.pages, .int .i64 r.frame, .int .i64 r.rights], 54)] w' → (w'.cell? ⟨B, 0, none⟩ = some (.string Q.name) ∧ w'.cell? ⟨B, 1, none⟩ = some (.int .i64 Q.entry) ∧ w'.cell? ⟨B, 2, none⟩ = some (.int .i64 Q.action) ∧ w'.cell? ⟨B, 3, none⟩ = some (.int .i64 Q.restarts) ∧ w'.cell? ⟨B, 4, none⟩ = some (.int .i64 Q.inputs) ∧ w'.cell? ⟨B, 5, none⟩ = some (.int .i64 Q.outputs) ∧ w'.cell? ⟨B, 6, none⟩ = some (.slice Q.ra QL Q.rc) ∧ w'.cell? ⟨B, 7, none⟩ = some (.slice Q.pa QM Q.pc) ∧ w'.cell? ⟨G, 0, none⟩ = some (.int .i64 r.page) ∧ w'.cell? ⟨G, 1, none⟩ = some (.int .i64 r.pages) ∧ w'.cell? ⟨G, 2, none⟩ = some (.int .i64 r.frame) ∧ w'.cell? ⟨G, 3, none⟩ = some (.int .i64 r.rights))) := fun w' h => ⟨(h _ (.head _)).cell (i := 0) rfl, (h _ (.head _)).cell (i := 1) rfl, (h _ (.head _)).cell (i := 2) rfl, (h _ (.head _)).cell (i := 3) rfl, (h _ (.head _)).cell (i := 4) rfl, (h _ (.head _)).cell (i := 5) rfl, (h _ (.head _)).cell (i := 6) rfl, (h _ (.head _)).cell (i := 7) rfl, (h _ (.tail _ (.head _))).cell (i := 0) rfl, (h _ (.tail _ (.head _))).cell (i := 1) rfl, (h _ (.tail _ (.head _))).cell (i := 2) rfl, (h _ (.tail _ (.head _))).cell (i := 3) rfl⟩
 have HO : Hid (BI w [(B, [.string Q.name, .int .i64 Q.entry, .int .i64 Q.action, .int .i64 Q.restarts, .int .i64 Q.inputs, .int .i64 Q.outputs, .slice Q.ra QL Q.rc, .slice Q.pa QM Q.pc], 41), (G, [.int .i64 r.page, .int .i64 r.pages, .int .i64 r.frame, .int .i64 r.rights], 54)] W) := by rw [hW, hP]; exact BI.box hE _ _
 clear hE
 go_enter Tryz.func99, Tryz.ntmps99
 go_upto_region 1 with fail
 rw [← hW, ← hP]
 clear hW hP
 refine wp_region_held_drew (S := (fun w' => w'.cell? ⟨B, 0, none⟩ = some (.string Q.name) ∧ w'.cell? ⟨B, 1, none⟩ = some (.int .i64 Q.entry) ∧ w'.cell? ⟨B, 2, none⟩ = some (.int .i64 Q.action) ∧ w'.cell? ⟨B, 3, none⟩ = some (.int .i64 Q.restarts) ∧ w'.cell? ⟨B, 4, none⟩ = some (.int .i64 Q.inputs) ∧ w'.cell? ⟨B, 5, none⟩ = some (.int .i64 Q.outputs) ∧ w'.cell? ⟨B, 6, none⟩ = some (.slice Q.ra QL Q.rc) ∧ w'.cell? ⟨B, 7, none⟩ = some (.slice Q.pa QM Q.pc) ∧ w'.cell? ⟨G, 0, none⟩ = some (.int .i64 r.page) ∧ w'.cell? ⟨G, 1, none⟩ = some (.int .i64 r.pages) ∧ w'.cell? ⟨G, 2, none⟩ = some (.int .i64 r.frame) ∧ w'.cell? ⟨G, 3, none⟩ = some (.int .i64 r.rights))) Tryz.mixd (HS.out _ (HO.out.kept ((Keeps.refl _ _).drew)).1) (fun hHeld => ?_)
 simp only [t1, t2, List.length_nil, Nat.reduceAdd, t4, Array.replicate_zero, t6, List.append_toArray, List.nil_append, t8]
 refine tk 0 (.pointer (some ⟨B, 6, none⟩)) hHeld ?_
 refine tk 1 (.slice Q.ra QL Q.rc) hHeld ?_
 refine tk 2 (.agg #[.int .i64 r.page, .int .i64 r.pages, .int .i64 r.frame, .int .i64 r.rights]) hHeld ?_
 simp only [Act.put, s1, s2, s3]
 refine rd 3 fun K hK => ?_
 go_simp
 refine (framesOf_any r W.drew).mono ?_
 rintro r w1 ⟨rfl, hKc⟩
 have HO1 : Hid (BI w [(B, [.string Q.name, .int .i64 Q.entry, .int .i64 Q.action, .int .i64 Q.restarts, .int .i64 Q.inputs, .int .i64 Q.outputs, .slice Q.ra QL Q.rc, .slice Q.pa QM Q.pc], 41), (G, [.int .i64 r.page, .int .i64 r.pages, .int .i64 r.frame, .int .i64 r.rights], 54)] w1) := HO.out.kept (((Keeps.refl _ _).drew).trans hKc fun _ _ h => h)
 clear hKc
 refine hK.out _ _ (HS.out _ HO1.out.1) (fun hHeld => ?_)
 simp only [Act.put, s1, s2, s3]
 refine rd 4 fun K hK => ?_
 go_simp
 refine (HM.out w1 HO1.out.2).mono ?_
 rintro r w2 ⟨rfl, hKc⟩
 have HO2 : Hid (BI w [(B, [.string Q.name, .int .i64 Q.entry, .int .i64 Q.action, .int .i64 Q.restarts, .int .i64 Q.inputs, .int .i64 Q.outputs, .slice Q.ra QL Q.rc, .slice Q.pa QM Q.pc], 41), (G, [.int .i64 r.page, .int .i64 r.pages, .int .i64 r.frame, .int .i64 r.rights], 54)] w2) := HO1.out.kept hKc
 clear hKc
 refine hK.out _ _ (HS.out _ HO2.out.1) (fun hHeld => ?_)
 simp only [Act.put, s1, s2, s3]
 refine tk 5 (.bool (Q.rs.any fun s => s.fr.meets r.fr)) hHeld ?_
 simp only [Act.put, s1, s2, s3]
 refine wpAnyH_done (by kernel_rfl) ?_ _
 clear hHeld
 go_wp2
 go_ret
 exact ⟨rfl, HO2.out.2⟩
set_option maxHeartbeats 4000000 in
theorem q83 (x : Cfg) (N : Nat) (p i : Nat) (r : Rgn) (C I G A : Nat) (hp : p ≤ x.ps.length) (hr : r.fr.Ok) (hs : ∀ Q ∈ x.ps.take p, ∀ s ∈ Q.rs, s.fr.Ok) : Ask 98 #[.pointer (some ⟨C, 0, none⟩), .pointer (some ⟨I, 0, none⟩), .pointer (some ⟨G, 0, none⟩), .pointer (some ⟨A, 0, none⟩)] (Env x N [(C, x.vs, 26), (I, [.int .i64 (p : Int)], 3), (G, [.int .i64 r.page, .int .i64 r.pages, .int .i64 r.frame, .int .i64 r.rights], 54), (A, [.int .i64 (p : Int), .int .i64 (i : Int)], 34)]) (unl (!((x.ps.take p).any fun Q => Q.rs.any fun s => s.fr.meets r.fr)) ⟨411, p, i⟩) := by
 intro w hE
 have HM : Hid (∀ w, Env x N [(C, x.vs, 26), (I, [.int .i64 (p : Int)], 3), (G, [.int .i64 r.page, .int .i64 r.pages, .int .i64 r.frame, .int .i64 r.rights], 54), (A, [.int .i64 (p : Int), .int .i64 (i : Int)], 34)] w → Calls Tryz.prog 91 #[.slice x.pa p x.pc, .func (.func 99) #[] #[.pointer (some ⟨G, 0, none⟩)]] w fun e w' => e = .returned (.bool ((x.ps.take p).any fun Q => Q.rs.any fun s => s.fr.meets r.fr)) ∧ KF w w') := fun w hE => by
  have hl : (x.ps.take p).length = p := by rw [List.length_take]; omega
  have := containsFunc_par (x.ps.take p) x.pa x.pc 99 #[.pointer (some ⟨G, 0, none⟩)] (fun w' => Bls [(G, [.int .i64 r.page, .int .i64 r.pages, .int .i64 r.frame, .int .i64 r.rights], 54)] w' ∧ SegA Par.vs 8 w' x.pa (x.ps.take p) ∧ ∀ Q ∈ x.ps.take p, SegA Rgn.vs 4 w' Q.ra Q.rs) (fun Q => Q.rs.any fun s => s.fr.meets r.fr) (fun args w => enter_fn Tryz.func99 rfl rfl args w) (fun w w' h k => ⟨h.1.kept k, h.2.1.kept k fun _ _ _ h => h, fun X hX => (h.2.2 X hX).kept k fun _ _ _ h => h⟩) (fun w h => h.2.1) (by rw [hl]; have := hE.cin.plen; omega)
   (fun Q hQ w' h => sharedClo Q r G _ _ rfl (hE.cin.pin Q (List.mem_of_mem_take hQ)).rlen hr (hs Q hQ) w' h.1 (h.2.2 Q hQ)) w ⟨fun b hb => hE.bl b (by simp only [List.mem_cons, List.not_mem_nil, or_false] at hb ⊢; exact .inr (.inr (.inl hb))), hE.cin.pseg.take p, fun Q hQ => (hE.cin.pin Q (List.mem_of_mem_take hQ)).rseg⟩
  rw [hl] at this
  exact this
 have hpc : (p : Int) ≤ x.pc ∧ (x.pc : Int) ≤ 9223372036854775807 := by have := hE.cin.plen; unfold maxLen at this; omega
 clear hp hr hs
 have HEk : Hid (∀ w w', (Env x N [(C, x.vs, 26), (I, [.int .i64 (p : Int)], 3), (G, [.int .i64 r.page, .int .i64 r.pages, .int .i64 r.frame, .int .i64 r.rights], 54), (A, [.int .i64 (p : Int), .int .i64 (i : Int)], 34)]) w → KF w w' → (Env x N [(C, x.vs, 26), (I, [.int .i64 (p : Int)], 3), (G, [.int .i64 r.page, .int .i64 r.pages, .int .i64 r.frame, .int .i64 r.rights], 54), (A, [.int .i64 (p : Int), .int .i64 (i : Int)], 34)]) w') := fun _ _ h k => h.kept k
 have HS : Hid (∀ w', (Env x N [(C, x.vs, 26), (I, [.int .i64 (p : Int)], 3), (G, [.int .i64 r.page, .int .i64 r.pages, .int .i64 r.frame, .int .i64 r.rights], 54), (A, [.int .i64 (p : Int), .int .i64 (i : Int)], 34)]) w' → (w'.cell? ⟨C, 0, none⟩ = some (.int .i64 x.frames) ∧ w'.cell? ⟨C, 1, none⟩ = some (.int .i64 x.major) ∧ w'.cell? ⟨C, 2, none⟩ = some (.int .i64 x.kernel) ∧ w'.cell? ⟨C, 3, none⟩ = some (.int .i64 x.room) ∧ w'.cell? ⟨C, 4, none⟩ = some (.slice x.ca x.cs.length x.cc) ∧ w'.cell? ⟨C, 5, none⟩ = some (.slice x.pa x.ps.length x.pc) ∧ w'.cell? ⟨C, 6, none⟩ = some (.slice x.ha x.hs.length x.hc) ∧ w'.cell? ⟨I, 0, none⟩ = some (.int .i64 (p : Int)) ∧ w'.cell? ⟨G, 0, none⟩ = some (.int .i64 r.page) ∧ w'.cell? ⟨G, 1, none⟩ = some (.int .i64 r.pages) ∧ w'.cell? ⟨G, 2, none⟩ = some (.int .i64 r.frame) ∧ w'.cell? ⟨G, 3, none⟩ = some (.int .i64 r.rights) ∧ w'.cell? ⟨A, 0, none⟩ = some (.int .i64 (p : Int)) ∧ w'.cell? ⟨A, 1, none⟩ = some (.int .i64 (i : Int)))) := fun w' h => ⟨(h.bl _ (.head _)).cell (i := 0) rfl, (h.bl _ (.head _)).cell (i := 1) rfl, (h.bl _ (.head _)).cell (i := 2) rfl, (h.bl _ (.head _)).cell (i := 3) rfl, (h.bl _ (.head _)).cell (i := 4) rfl, (h.bl _ (.head _)).cell (i := 5) rfl, (h.bl _ (.head _)).cell (i := 6) rfl, (h.bl _ (.tail _ (.head _))).cell (i := 0) rfl, (h.bl _ (.tail _ (.tail _ (.head _)))).cell (i := 0) rfl, (h.bl _ (.tail _ (.tail _ (.head _)))).cell (i := 1) rfl, (h.bl _ (.tail _ (.tail _ (.head _)))).cell (i := 2) rfl, (h.bl _ (.tail _ (.tail _ (.head _)))).cell (i := 3) rfl, (h.bl _ (.tail _ (.tail _ (.tail _ (.head _))))).cell (i := 0) rfl, (h.bl _ (.tail _ (.tail _ (.tail _ (.head _))))).cell (i := 1) rfl⟩
 obtain ⟨W, hW⟩ : ∃ W, W = w.alloc (.cells #[.int .i64 0, .int .i64 0, .int .i64 0] 65) := ⟨_, rfl⟩
 obtain ⟨R, hR⟩ : ∃ R, R = w.heap.size := ⟨_, rfl⟩
 have HO : Hid (ObI w (Env x N [(C, x.vs, 26), (I, [.int .i64 (p : Int)], 3), (G, [.int .i64 r.page, .int .i64 r.pages, .int .i64 r.frame, .int .i64 r.rights], 54), (A, [.int .i64 (p : Int), .int .i64 (i : Int)], 34)]) R W) := by rw [hW, hR]; exact ⟨hE.kept ((Keeps.refl _ _).alloc _), Blk.new _ _ _, (Keeps.refl _ _).alloc _, Nat.le_refl _⟩
 clear hE
 go_enter Tryz.func98, Tryz.ntmps98
 go_upto_region 1 with fail
 rw [← hW, ← hR]
 clear hW hR
 obtain ⟨c0_0, c0_1, c0_2, c0_3, c0_4, c0_5, c0_6, c1_0, c2_0, c2_1, c2_2, c2_3, c3_0, c3_1⟩ := HS.out _ HO.out.env
 go_wp2_with fail
 refine (HM.out W HO.out.env).mono ?_
 rintro e w1 ⟨rfl, hKc⟩
 have HO1 : Hid (ObI w (Env x N [(C, x.vs, 26), (I, [.int .i64 (p : Int)], 3), (G, [.int .i64 r.page, .int .i64 r.pages, .int .i64 r.frame, .int .i64 r.rights], 54), (A, [.int .i64 (p : Int), .int .i64 (i : Int)], 34)]) R w1) := HO.out.kept HEk.out hKc
 clear hKc
 clear c0_0 c0_1 c0_2 c0_3 c0_4 c0_5 c0_6 c1_0 c2_0 c2_1 c2_2 c2_3 c3_0 c3_1
 obtain ⟨c0_0, c0_1, c0_2, c0_3, c0_4, c0_5, c0_6, c1_0, c2_0, c2_1, c2_2, c2_3, c3_0, c3_1⟩ := HS.out _ HO1.out.env
 go_wp2_with fail
 refine (unless_any (!((x.ps.take p).any fun Q => Q.rs.any fun s => s.fr.meets r.fr)) 411 p i w1).mono ?_
 rintro e w2 ⟨rfl, hKc⟩
 have HO2 : Hid (ObI w (Env x N [(C, x.vs, 26), (I, [.int .i64 (p : Int)], 3), (G, [.int .i64 r.page, .int .i64 r.pages, .int .i64 r.frame, .int .i64 r.rights], 54), (A, [.int .i64 (p : Int), .int .i64 (i : Int)], 34)]) R w2) := HO1.out.kept HEk.out hKc
 clear hKc
 clear c0_0 c0_1 c0_2 c0_3 c0_4 c0_5 c0_6 c1_0 c2_0 c2_1 c2_2 c2_3 c3_0 c3_1
 obtain ⟨c0_0, c0_1, c0_2, c0_3, c0_4, c0_5, c0_6, c1_0, c2_0, c2_1, c2_2, c2_3, c3_0, c3_1⟩ := HS.out _ HO2.out.env
 obtain ⟨Gz, hG⟩ : ∃ Gz : Flt, unl (!((x.ps.take p).any fun Q => Q.rs.any fun s => s.fr.meets r.fr)) ⟨411, p, i⟩ = Gz := ⟨_, rfl⟩
 have HG : Hid (unl (!((x.ps.take p).any fun Q => Q.rs.any fun s => s.fr.meets r.fr)) ⟨411, p, i⟩ = Gz) := hG
 rw [hG]
 clear hG
 obtain ⟨gn, ga, gb⟩ := Gz
 have m0 := HO2.out.ans.cell (i := 0) rfl
 have m1 := HO2.out.ans.cell (i := 1) rfl
 have m2 := HO2.out.ans.cell (i := 2) rfl
 have n0 := HO2.out.ans.frozen 0
 have n1 := HO2.out.ans.frozen 1
 have n2 := HO2.out.ans.frozen 2
 clear c0_0 c0_1 c0_2 c0_3 c0_4 c0_5 c0_6 c1_0 c2_0 c2_1 c2_2 c2_3 c3_0 c3_1
 go_wp2
 obtain ⟨hB, hK3⟩ := set3 HO2.out.ans (.int .i64 gn) (.int .i64 ga) (.int .i64 gb)
 obtain ⟨Wb, hWb⟩ : ∃ Wb, Wb = (((w2.setCell ⟨R, 0, none⟩ (.int .i64 gn)).setCell ⟨R, 1, none⟩ (.int .i64 ga)).setCell ⟨R, 2, none⟩ (.int .i64 gb)) := ⟨_, rfl⟩
 rw [← hWb] at hB hK3 ⊢
 (try simp only [Exit.inBlock, Exit.then])
 refine bodyPost_ret (results_cell_row rfl _ _ R 65 _ (0, 0) _ rfl hB Tryz.underlying65 rfl (by kernel_rfl)) rfl ?_
 have hlo := HO.out.lo
 exact ⟨by rw [HG.out], HO2.out.keeps.trans hK3 fun k hk e => by omega⟩
theorem inR_iff {n a b : Int} : inR n a b = true ↔ a ≤ n ∧ n ≤ b := by unfold inR; simp
theorem Rgn.okB_iff {r : Rgn} {fr : Int} : r.okB fr = true ↔ (0 ≤ r.page ∧ r.page ≤ 255) ∧ (1 ≤ r.pages ∧ r.pages ≤ 256 - r.page) ∧ 0 ≤ r.frame ∧ r.pages ≤ fr - r.frame ∧ 1 ≤ r.rights ∧ r.rights ≤ 7 := by
 unfold Rgn.okB; simp [inR_iff]
theorem Rgn.okB_ok {r : Rgn} {fr : Int} (h : r.okB fr = true) (h2 : fr ≤ 1024) : r.pg.Ok ∧ r.fr.Ok ∧ 1 ≤ r.rights ∧ r.rights ≤ 7 := by
 have := Rgn.okB_iff.1 h
 unfold Rn.Ok I64 Rgn.pg Rgn.fr
 dsimp only
 omega
theorem unl_n {b : Bool} {f : Flt} (hf : f.n ≠ 0) : (unl b f).n = 0 ↔ b = true := by
 cases b
 ·
  simp [unl, hf]
 ·
  simp [unl, Flt.no]
theorem qs_prev {qs : List Qn} {j : Nat} (h : ∀ i, i < j → ∀ r : Qn, qs[i]? = some r → r.2.2.n = 0) (i : Nat) (hi : i < j) {q : Qn} (hq : qs[i]? = some q) : q.2.2.n = 0 := h i hi q hq
theorem Env.box {x : Cfg} {N : Nat} {L : List (Nat × List Value × TypeId)} {w : World} (h : Env x N L w) (cs : List Value) (t : TypeId) : Env x N ((w.heap.size, cs, t) :: L) (w.alloc (.cells cs.toArray t)) := by
 have h1 := h.kept ((Keeps.refl _ _).alloc (.cells cs.toArray t))
 refine ⟨h1.cin, h1.nn, fun b hb => ?_⟩
 rcases List.mem_cons.1 hb with rfl | hb
 ·
  exact Blk.new _ _ _
 ·
  exact h1.bl b hb
theorem Env.put {x : Cfg} {N g : Nat} {L : List (Nat × List Value × TypeId)} {cs ds : List Value} {t : TypeId} {w w' : World} (h : Env x N ((g, cs, t) :: L) w) (hK : Keeps (fun k => k = g) w w') (hB : Blk w' g ds t) (hN : N ≤ g) (hL : ∀ b ∈ L, b.1 ≠ g) : Env x N ((g, ds, t) :: L) w' := by
 refine ⟨h.cin.below (hK.below h.nn fun k e => by omega), Nat.le_trans h.nn hK.size, fun b hb => ?_⟩
 rcases List.mem_cons.1 hb with rfl | hb
 ·
  exact hB
 ·
  exact (h.bl b (List.mem_cons_of_mem _ hb)).kept hK (hL b hb)
theorem Tryz.size54 : (Tryz.prog.info? 54).map (·.size) = some 4 := by kernel_rfl
theorem all39 (n a b c : Int) : (#[Value.int .i64 n, .int .i64 a, .int .i64 b, .int .i64 c] : Array Value).all (fun v => v.oneCell') = true := by kernel_rfl
theorem MkP.of {qs : List Qn} {E : World → Prop} {v : Flt} {w w' : World} {g n : Nat} {t : TypeId} (hq : Qs qs E) (k : KF w w') (hB : Blk w' g (qs.map QV) t) (hE : E w') (hv : firstF (qs.map (·.2.2)) = v) (hn : n = qs.length) : MkP v w (.returned (.slice (some ⟨g, 0, none⟩) n n)) w' := by
 subst hn
 exact ⟨k, g, t, qs, E, rfl, hB, hE, hq, hv⟩
theorem rgnQs (x : Cfg) (N p i : Nat) (P : Par) (r : Rgn) (C I G H A : Nat) (hP : x.ps[p]? = some P) (hr : P.rs[i]? = some r) (hrf : r.Fine) (h1 : 1 ≤ x.frames) (h2 : x.frames ≤ 1024) (hah : ∀ s ∈ P.rs.take i, s.okB x.frames = true) (hpv : ∀ Q ∈ x.ps.take p, ∀ s ∈ Q.rs, s.okB x.frames = true) (L : List (Nat × List Value × TypeId))
  (hL : L = [(A, [.int .i64 (p : Int), .int .i64 (i : Int)], 34), (H, [.slice P.ra i P.rc], 38), (G, [.int .i64 r.page, .int .i64 r.pages, .int .i64 r.frame, .int .i64 r.rights], 54), (I, [.int .i64 (p : Int)], 3), (C, x.vs, 26)]) :
  Qs [(93, #[.pointer (some ⟨G, 0, none⟩), .pointer (some ⟨C, 0, none⟩), .pointer (some ⟨A, 0, none⟩)], unl (r.okB x.frames) ⟨409, p, i⟩),
    (95, #[.pointer (some ⟨H, 0, none⟩), .pointer (some ⟨G, 0, none⟩), .pointer (some ⟨A, 0, none⟩)], unl (!((P.rs.take i).any fun s => s.pg.meets r.pg)) ⟨410, p, i⟩),
    (97, #[.pointer (some ⟨H, 0, none⟩), .pointer (some ⟨G, 0, none⟩), .pointer (some ⟨A, 0, none⟩)], unl (!((P.rs.take i).any fun s => s.fr.meets r.fr)) ⟨411, p, i⟩),
    (98, #[.pointer (some ⟨C, 0, none⟩), .pointer (some ⟨I, 0, none⟩), .pointer (some ⟨G, 0, none⟩), .pointer (some ⟨A, 0, none⟩)], unl (!((x.ps.take p).any fun Q => Q.rs.any fun s => s.fr.meets r.fr)) ⟨411, p, i⟩)] (Env x N L) := by
 have hi := (List.getElem?_eq_some_iff.1 hr).1
 have hp := (List.getElem?_eq_some_iff.1 hP).1
 have hPm := List.mem_of_getElem? hP
 refine ⟨fun _ _ h k => h.kept k, fun q hq args w => ?_, fun j q hj hpr => ?_, by simp⟩
 ·
  simp only [List.mem_cons, List.not_mem_nil, or_false] at hq
  rcases hq with rfl | rfl | rfl | rfl
  ·
   exact enter_fn Tryz.func93 rfl rfl args w
  ·
   exact enter_fn Tryz.func95 rfl rfl args w
  ·
   exact enter_fn Tryz.func97 rfl rfl args w
  ·
   exact enter_fn Tryz.func98 rfl rfl args w
 ·
  have hok : 0 < j → r.okB x.frames = true := fun h => (unl_n (by simp)).1 (qs_prev hpr 0 h rfl)
  match j, hj with
  | 0, hj =>
   cases hj
   exact (q78 x N p i P r G C A hrf h1 h2).of fun w h => h.sub fun b hb => by rw [hL]; simp only [List.mem_cons, List.not_mem_nil, or_false] at hb ⊢; rcases hb with h | h | h <;> simp [h]
  | 1, hj =>
   cases hj
   have ho := Rgn.okB_ok (hok (by omega)) h2
   exact (q80 x N p i P r H G A hPm (by omega) ho.1 fun s hs => (Rgn.okB_ok (hah s hs) h2).1).of fun w h => h.sub fun b hb => by rw [hL]; simp only [List.mem_cons, List.not_mem_nil, or_false] at hb ⊢; rcases hb with h | h | h <;> simp [h]
  | 2, hj =>
   cases hj
   have ho := Rgn.okB_ok (hok (by omega)) h2
   exact (q82 x N p i P r H G A hPm (by omega) ho.2.1 fun s hs => (Rgn.okB_ok (hah s hs) h2).2.1).of fun w h => h.sub fun b hb => by rw [hL]; simp only [List.mem_cons, List.not_mem_nil, or_false] at hb ⊢; rcases hb with h | h | h <;> simp [h]
  | 3, hj =>
   cases hj
   have ho := Rgn.okB_ok (hok (by omega)) h2
   exact (q83 x N p i r C I G A (by omega) ho.2.1 fun Q hQ s hs => (Rgn.okB_ok (hpv Q hQ s hs) h2).2.1).of fun w h => h.sub fun b hb => by rw [hL]; simp only [List.mem_cons, List.not_mem_nil, or_false] at hb ⊢; rcases hb with h | h | h | h <;> simp [h]
  | j + 4, hj => simp at hj
end Go.Proofs.YtlnmlbkeemahcaaGreat
