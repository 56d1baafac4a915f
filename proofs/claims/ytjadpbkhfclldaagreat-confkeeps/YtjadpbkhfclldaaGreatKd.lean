import Derived.Test.YtjadpbkhfclldaaGreatKc
namespace Go.Proofs.YtjadpbkhfclldaaGreat
open Go.RowKit
set_option linter.unusedVariables false
set_option linter.unusedSimpArgs false
set_option maxRecDepth 6000

/-- The lists of a configuration are no longer than the document lets them be. -/
structure Bnd (x : Cfg) : Prop where
  cs : x.cs.length ≤ 2147483647
  ps : x.ps.length ≤ 2147483647
  hs : x.hs.length ≤ 2147483647
  ws : ∀ X ∈ x.cs, X.ws.length ≤ 2147483647
  rs : ∀ P ∈ x.ps, P.rs.length ≤ 2147483647
  qs : ∀ P ∈ x.ps, P.ps.length ≤ 2147483647
def cfgV (x : Cfg) (O : Nat → Nat → ObG) : Value := .agg #[.int .i64 x.frames, .int .i64 x.major, .int .i64 x.kernel, .int .i64 x.room, cut x.cs.length (O 0 0).u, cut x.ps.length (O 0 2).u, cut x.hs.length (O 0 5).u]
def RoomP (x : Cfg) (w : World) (e : Ending) (w' : World) : Prop := ∃ O lo, e = .returned (.tuple #[cfgV x O, .agg (roomV O).toArray]) ∧ FamO lo w' O ∧ RP x x.cs.length x.ps.length x.hs 12 O ∧ w.heap.size ≤ lo ∧ Keeps (fun _ => False) w w'
theorem Tryz.mixd : Tryz.prog.follows Departure.mixedOrders = true := by kernel_rfl

set_option maxHeartbeats 16000000 in
theorem Roomed_any (x : Cfg) (w : World) (N : Nat) (hi : x.In w N) (hN : N ≤ w.heap.size) (hb : Bnd x) : Calls Tryz.prog 7 #[x.v] w (RoomP x w) := by
  have HB : Hid (Bnd x) := hb
  obtain ⟨W, hW⟩ : ∃ W, W = (((x.laid w).alloc (.cells zCfg.toArray 26)).alloc (.cells zRoom.toArray 36)).alloc (.cells zRoom.toArray 36) := ⟨_, rfl⟩
  obtain ⟨C, hC⟩ : ∃ C, C = w.heap.size := ⟨_, rfl⟩
  obtain ⟨A, hA⟩ : ∃ A, A = w.heap.size + 1 := ⟨_, rfl⟩
  obtain ⟨B, hB⟩ : ∃ B, B = w.heap.size + 1 + 1 := ⟨_, rfl⟩
  obtain ⟨R, hR⟩ : ∃ R, R = w.heap.size + 1 + 1 + 1 := ⟨_, rfl⟩
  obtain ⟨lo, hlo⟩ : ∃ lo, lo = W.heap.size := ⟨_, rfl⟩
  have HI0 : Hid (RI w x C A B R lo N (fun _ _ => ObG.nil) W) := by
    have b1 := Blk.new w x.vs.toArray 26
    have b2 := Blk.new (x.laid w) zCfg.toArray 26
    have b3 := Blk.new ((x.laid w).alloc (.cells zCfg.toArray 26)) zRoom.toArray 36
    have b4 := Blk.new (((x.laid w).alloc (.cells zCfg.toArray 26)).alloc (.cells zRoom.toArray 36)) zRoom.toArray 36
    have k1 : Keeps (fun _ => False) w W := by rw [hW]; exact ((((Keeps.refl _ _).alloc _).alloc _).alloc _).alloc _
    have hs : W.heap.size = w.heap.size + 4 := by rw [hW]; simp [Cfg.laid]
    refine ⟨?_, ?_, ?_, ?_, by rw [hlo]; exact Fam.start _ _, k1, hi.keeps hN k1, hN, by omega⟩
    · rw [hW, hC]; exact ((b1.alloc _).alloc _).alloc _
    · rw [hW, hA]; have := (b2.alloc (.cells zRoom.toArray 36)).alloc (.cells zRoom.toArray 36); simpa [Cfg.laid] using this
    · rw [hW, hB]; have := b3.alloc (.cells zRoom.toArray 36); simpa [Cfg.laid] using this
    · change Blk W R zRoom 36
      rw [hW, hR]; simpa [Cfg.laid] using b4
  have HR0 : Hid (RP x 0 0 [] 0 (fun _ _ => ObG.nil)) := RP.start x
  obtain ⟨L, hL⟩ : ∃ L, x.cs.length = L := ⟨_, rfl⟩
  have HL : Hid (x.cs.length = L) := hL
  have c4 : W.cell? ⟨C, 4, none⟩ = some (.slice x.ca L x.cc) := by rw [← hL]; exact HI0.out.cfg.cell (i := 4) rfl
  clear hi hN hb hlo hL
  unfold Cfg.laid at hW
  go_enter Tryz.func7, Tryz.ntmps7
  go_upto_region 2 with fail
  simp only [zCfg, zRoom] at hW
  rw [← hW, ← hR, ← hB, ← hA, ← hC]
  clear hW hR hB hA hC
  have hLz : (L : Int) ≤ 2147483647 := by have := HB.out.cs; rw [HL.out] at this; omega
  go_wp2
  clear c4
  go_loopw [18] (fun i wr => ∃ (j : Nat) (O : Nat → Nat → ObG), j ≤ L ∧ i = .int .i64 j ∧ RI w x C A B R lo N O wr ∧ RP x j 0 [] 0 O) (fun i _ => L - (intOf i).toNat)
  case atStart => exact ⟨0, _, by omega, rfl, HI0.out, HR0.out⟩
  case round =>
    obtain ⟨j, O, hj, rfl, hI, hP⟩ := hrel
    clear HI0 HR0
    have c4 : wr.cell? ⟨C, 4, none⟩ = some (.slice x.ca L x.cc) := by have := hI.cfg.cell (i := 4) rfl; rw [HL.out] at this; exact this
    by_cases hlt : j < L
    · obtain ⟨X, hX⟩ : ∃ X, x.cs[j]? = some X := ⟨_, List.getElem?_eq_getElem (by have := HL.out; omega)⟩
      obtain ⟨g0, o0, e0, p0⟩ := hI.cin.core hX
      have hXi := hI.cin.cin X (List.mem_of_getElem? hX)
      have hXb := HB.out.ws X (List.mem_of_getElem? hX)
      rw [e0] at c4
      have HE0 : Hid (x.ca = some ⟨g0, o0, none⟩) := e0
      obtain ⟨v0, W1, happ, hown, hfr, hK⟩ := copy_own eWin plainWin 43 _ 24 Tryz.underlying43 Tryz.inf40 rfl (by omega) X.a X.ws X.c hXi.seg (by omega)
      obtain ⟨XL, hXL⟩ : ∃ XL, X.ws.length = XL := ⟨_, rfl⟩
      have hO1 : O 1 j = ObG.nil := hP.z1 j (Nat.le_refl _)
      have hF1 : FamO lo W1 (updG O 1 j ⟨v0, XL, X.ws.flatMap Win.vs⟩) := hI.fam.grow 1 j (by rw [← hXL]; exact hown) (.inr hfr) (hK.mono fun _ _ h => h.elim)
      have hI1 := hI.inner hF1 (hK.mono fun _ _ h => h.elim) (roomV_upd O 1 j _ (by omega))
      rw [hXL] at happ
      have HAP : Hid (∀ ty, (Builtin.append_ #[43, 43] ty #[.slice none 0 0, .slice X.a XL X.c]).run Tryz.prog wr = .ok v0 W1) := happ
      have HX : Hid (x.cs[j]? = some X ∧ X.ws.length = XL ∧ RP x j 0 [] 0 O ∧ j < L) := ⟨hX, hXL, hP, hlt⟩
      have HI1 : Hid (RI w x C A B R lo N (updG O 1 j ⟨v0, XL + 0, X.ws.flatMap Win.vs ++ apN wMk 0⟩) W1) := by rw [apN_zero, List.append_nil]; exact hI1
      dsimp only [Core.v] at p0
      rw [hXL] at p0 hXb
      have hXz : (XL : Int) ≤ 2147483647 := by omega
      have hjz : (j : Int) < L := by omega
      clear happ hown hfr hK hF1 hI1 hI hP hX hXL hXi e0 hO1
      go_wp2_with (at_builtin; go_must (refine wpList_append_run rfl (.tmp 21) (.tmp 26) 43 43 rfl (Value.slice none 0 0) (.slice X.a XL X.c) v0 W1 rfl rfl HAP.out ?_; refine Hid.out ?_))
      unfold Hid
      clear c4 p0
      go_wp2
      go_loopw [6, 28] (fun lv i wq => ∃ (k : Nat), k ≤ 12 ∧ i = .int .i64 k ∧ RI w x C A B R lo N (updG O 1 j ⟨lv, XL + k, X.ws.flatMap Win.vs ++ apN wMk k⟩) wq) (fun _ i _ => 12 - (intOf i).toNat)
      case atStart => exact ⟨0, by omega, rfl, HI1.out⟩
      case round =>
        obtain ⟨k, hk, rfl, hI⟩ := hrel
        clear HI1
        by_cases hk2 : k < 12
        · obtain ⟨d, cp, ev, _, _⟩ := hI.fam.form 1 j
          rw [updG_self] at ev
          dsimp only at ev
          subst ev
          obtain ⟨v', W', hr, hF, hfr, hK⟩ := app_win hI.fam 1 j rfl (-70 - (k : Int)) (by rw [updG_self]; dsimp only; omega)
          rw [updG_self] at hr hF hfr hK
          dsimp only at hr hF hfr hK
          have e1 : updG (updG O 1 j ⟨.slice d (XL + k) cp, XL + k, X.ws.flatMap Win.vs ++ apN wMk k⟩) 1 j ⟨v', XL + k + 1, X.ws.flatMap Win.vs ++ apN wMk k ++ [.int .i64 (-70 - (k : Int)), .int .i64 0, .int .i64 0]⟩ = updG O 1 j ⟨v', XL + (k + 1), X.ws.flatMap Win.vs ++ apN wMk (k + 1)⟩ := by
            funext a b
            unfold updG
            by_cases e : a = 1 ∧ b = j
            · simp only [if_pos e, apN_succ, List.append_assoc]; rfl
            · simp only [if_neg e]
          rw [e1] at hF
          have HN : Hid (RI w x C A B R lo N (updG O 1 j ⟨v', XL + (k + 1), X.ws.flatMap Win.vs ++ apN wMk (k + 1)⟩) W') := hI.inner hF (hK.mono fun b _ e => hI.fam.low 1 j b (by rw [updG_self]; exact e.symm)) (by rw [roomV_upd _ _ _ _ (by omega), roomV_upd _ _ _ _ (by omega)])
          obtain ⟨m, hm⟩ : ∃ m, XL + k = m := ⟨_, rfl⟩
          rw [hm] at hr ⊢
          have HAP2 : Hid (∀ ty, (Builtin.append_ #[43, 43] ty #[.slice d m cp, .slice (some ⟨wr.heap.size, 0, none⟩) 1 1]).run Tryz.prog (wr.alloc (.cells #[.int .i64 (-70 - (k : Int)), .int .i64 0, .int .i64 0] 51)) = .ok v' W') := hr
          have hkz : (k : Int) < 12 := by omega
          clear hr hF hfr hK e1 hI hm
          go_wp2_with (at_builtin; go_must (refine wpList_append_run rfl (.tmp 31) (.tmp 35) 43 43 rfl (.slice d m cp) (.slice (some ⟨wr.heap.size, 0, none⟩) 1 1) v' W' rfl rfl HAP2.out ?_; refine Hid.out ?_))
          unfold Hid
          go_wp2
          go_roundw
          case rel => exact ⟨k + 1, by omega, by go_num, HN.out⟩
          case measure => simp [intOf]; omega
        · obtain rfl : k = 12 := by omega
          obtain ⟨hX, hXL, hP, hlt⟩ := HX.out
          obtain ⟨d, cp, ev, hle, hmx⟩ := hI.fam.form 1 j
          rw [updG_self] at ev hle
          dsimp only at ev hle
          subst ev
          obtain ⟨O1, hO1⟩ : ∃ O1, O1 = updG O 1 j ⟨.slice d (XL + 12) cp, XL + 12, X.ws.flatMap Win.vs ++ apN wMk 12⟩ := ⟨_, rfl⟩
          rw [← hO1] at hI
          have e01 : O1 0 1 = O 0 1 := by rw [hO1]; exact upd01 _ _ _ _
          have e00 : O1 0 0 = O 0 0 := by rw [hO1]; exact upd01 _ _ _ _
          obtain ⟨d1, p1, eu1, _, _⟩ := hI.fam.form 0 1
          have hn1 : (O1 0 1).n = j := by rw [e01]; exact hP.c1n
          obtain ⟨v', W', hr, hF, hfr, hK⟩ := app_row hI.fam 1 rfl d (XL + 12) cp (by rw [hn1]; omega)
          rw [hn1] at eu1 hF
          have hI2 := hI.put hF (keeps_lo hI.fam 0 1 hK) 1 v' (roomV_set O1 1 _ (by omega))
          obtain ⟨O2, hO2⟩ : ∃ O2, O2 = updG O1 0 1 ⟨v', j + 1, (O1 0 1).xs ++ [.slice d (XL + 12) cp]⟩ := ⟨_, rfl⟩
          rw [← hO2] at hF hI2
          have e20 : O2 0 0 = O 0 0 := by rw [hO2, updG_ne O1 _ (by omega)]; exact e00
          obtain ⟨d2, p2, eu2, _, _⟩ := hF.form 0 1
          have e21 : (O2 0 1) = ⟨v', j + 1, (O1 0 1).xs ++ [.slice d (XL + 12) cp]⟩ := by rw [hO2, updG_self]
          rw [e21] at eu2
          dsimp only at eu2
          subst eu2
          have r1 : wr.cell? ⟨R, 1, none⟩ = some (.slice d1 j p1) := by rw [← eu1]; exact hI.room.cell (i := 1) rfl
          have rl1 : (W').cell? ⟨R, 1, none⟩ = some (.slice d1 j p1) := by
            have ho := hI.ord
            have := (hI.room.kept (keeps_lo hI.fam 0 1 hK) (by omega)).cell (i := 1) rfl
            rw [← eu1]; exact this
          have rf1 : (W').frozen? ⟨R, 1, none⟩ = false := by
            have ho := hI.ord
            exact (hI.room.kept (keeps_lo hI.fam 0 1 hK) (by omega)).frozen 1
          rw [eu1] at hr
          obtain ⟨M, hM⟩ : ∃ M, XL + 12 = M := ⟨_, rfl⟩
          rw [hM] at hr ⊢
          have HAP3 : Hid (∀ ty, (Builtin.append_ #[22, 22] ty #[.slice d1 j p1, .slice (some ⟨wr.heap.size, 0, none⟩) 1 1]).run Tryz.prog (wr.alloc (.cells #[.slice d M cp] 43)) = .ok (.slice d2 (j + 1) p2) W') := hr
          obtain ⟨X2, hX2⟩ : ∃ X2, X2 = W'.setCell ⟨R, 1, none⟩ (.slice d2 (j + 1) p2) := ⟨_, rfl⟩
          have HX2 : Hid (RI w x C A B R lo N O2 X2) := by rw [hX2]; exact hI2
          have HZ : Hid (O1 = updG O 1 j ⟨.slice d (XL + 12) cp, XL + 12, X.ws.flatMap Win.vs ++ apN wMk 12⟩ ∧ O2 = updG O1 0 1 ⟨.slice d2 (j + 1) p2, j + 1, (O1 0 1).xs ++ [.slice d (XL + 12) cp]⟩ ∧ O1 0 1 = O 0 1 ∧ O2 0 0 = O 0 0 ∧ XL + 12 = M ∧ (M ≤ cp ∧ cp ≤ maxLen)) := ⟨hO1, hO2, e01, e20, hM, by omega, hmx⟩
          have hcz : (M : Int) ≤ cp := by omega
          have hMz : (XL : Int) ≤ M := by omega
          clear hr hF hfr hK hI2 hI hO1 hO2 e01 e00 e20 e21 hn1 eu1 hX hXL hP hlt hM hle hmx hk hk2
          go_wp2_with (at_builtin; go_must (refine wpList_append_run rfl (.tmp 39) (.tmp 41) 22 22 rfl (.slice d1 j p1) (.slice (some ⟨wr.heap.size, 0, none⟩) 1 1) (.slice d2 (j + 1) p2) W' rfl rfl HAP3.out ?_; refine Hid.out ?_))
          unfold Hid
          clear r1 HAP3
          go_upto_region 13 with fail
          rw [← hX2]
          clear hX2 rl1 rf1
          have hI := HX2.out
          obtain ⟨d0, q0, eu0, _, _⟩ := hI.fam.form 0 0
          have hn0 : (O2 0 0).n = j := by rw [HZ.out.2.2.2.1]; have := HX.out.2.2.1.c0n; omega
          have c4 : X2.cell? ⟨C, 4, none⟩ = some (.slice (some ⟨g0, o0, none⟩) L x.cc) := by
            obtain ⟨g1, o1, e1, _⟩ := hI.cin.core HX.out.1
            have := hI.cfg.cell (i := 4) rfl
            rw [HL.out, HE0.out] at this; exact this
          have p0 : X2.cell? ⟨g0, o0 + j, none⟩ = some (.slice X.a XL X.c) := by
            obtain ⟨g1, o1, e1, hc⟩ := hI.cin.core HX.out.1
            rw [HE0.out] at e1
            cases e1
            dsimp only [Core.v] at hc
            rw [HX.out.2.1] at hc
            exact hc
          have r0 : X2.cell? ⟨R, 0, none⟩ = some (.slice d0 j q0) := by rw [hn0] at eu0; rw [← eu0]; exact hI.room.cell (i := 0) rfl
          have hID := hI.kept (W := X2.drew) ((Keeps.refl _ X2).drew)
          obtain ⟨v3, W3, hr, hF, hfr, hK⟩ := app_row hID.fam 0 rfl d XL cp (by rw [hn0]; omega)
          rw [hn0] at hF
          have hI3 := hID.put hF (keeps_lo hID.fam 0 0 hK) 0 v3 (roomV_set O2 0 _ (by omega))
          obtain ⟨d3, p3, eu3, _, _⟩ := hF.form 0 0
          rw [updG_self] at eu3
          dsimp only at eu3
          subst eu3
          rw [eu0, hn0] at hr
          have hK3 := keeps_lo hID.fam 0 0 hK
          have ho := hI.ord
          have hgN : g0 < N := by
            have hne : x.cs ≠ [] := fun e => by have := HX.out.1; rw [e] at this; simp at this
            exact hI.cin.clo hne _ HE0.out
          have hnn := hI.nn
          have sz := hI.keeps.size
          have a4 : (X2.drew.alloc (.cells #[.slice d XL cp] 43)).cell? ⟨C, 4, none⟩ = some (.slice (some ⟨g0, o0, none⟩) L x.cc) := cell_kept (S := fun _ => False) c4 (((Keeps.refl _ X2).drew).alloc _) fun h => h
          have a0 : (X2.drew.alloc (.cells #[.slice d XL cp] 43)).cell? ⟨g0, o0 + j, none⟩ = some (.slice X.a XL X.c) := cell_kept (S := fun _ => False) p0 (((Keeps.refl _ X2).drew).alloc _) fun h => h
          have ar : (X2.alloc (.cells #[.slice d XL cp] 43)).cell? ⟨R, 0, none⟩ = some (.slice d0 j q0) := cell_kept (S := fun _ => False) r0 ((Keeps.refl _ X2).alloc _) fun h => h
          have b4 : W3.cell? ⟨C, 4, none⟩ = some (.slice (some ⟨g0, o0, none⟩) L x.cc) := cell_kept (w := X2.drew) c4 hK3 (fun (h : lo ≤ C) => by omega)
          have b0 : W3.cell? ⟨g0, o0 + j, none⟩ = some (.slice X.a XL X.c) := cell_kept (w := X2.drew) p0 hK3 (fun (h : lo ≤ g0) => by omega)
          have br : W3.cell? ⟨R, 0, none⟩ = some (.slice d0 j q0) := cell_kept (w := X2.drew) r0 hK3 (fun (h : lo ≤ R) => by omega)
          have bf : W3.frozen? ⟨R, 0, none⟩ = false := (hID.room.kept hK3 (by omega)).frozen 0
          obtain ⟨X3, hX3⟩ : ∃ X3, X3 = W3.setCell ⟨R, 0, none⟩ (.slice d3 (j + 1) p3) := ⟨_, rfl⟩
          have s4 : (W3.setCell ⟨R, 0, none⟩ (.slice d3 (j + 1) p3)).cell? ⟨C, 4, none⟩ = some (.slice (some ⟨g0, o0, none⟩) L x.cc) := cell_kept (S := (· = R)) b4 ((Keeps.refl _ W3).setCell _ _ fun _ => rfl) (fun (h : C = R) => by omega)
          have s0 : (W3.setCell ⟨R, 0, none⟩ (.slice d3 (j + 1) p3)).cell? ⟨g0, o0 + j, none⟩ = some (.slice X.a XL X.c) := cell_kept (S := (· = R)) b0 ((Keeps.refl _ W3).setCell _ _ fun _ => rfl) (fun (h : g0 = R) => by omega)
          rw [← hX3] at hI3
          have HAP4 : Hid (∀ ty, (Builtin.append_ #[22, 22] ty #[.slice d0 j q0, .slice (some ⟨X2.heap.size, 0, none⟩) 1 1]).run Tryz.prog (X2.drew.alloc (.cells #[.slice d XL cp] 43)) = .ok (.slice d3 (j + 1) p3) W3) := hr
          have HN : Hid (RI w x C A B R lo N (updG O2 0 0 ⟨.slice d3 (j + 1) p3, j + 1, (O2 0 0).xs ++ [.slice d XL cp]⟩) X3 ∧ RP x (j + 1) 0 [] 0 (updG O2 0 0 ⟨.slice d3 (j + 1) p3, j + 1, (O2 0 0).xs ++ [.slice d XL cp]⟩)) := by
            refine ⟨hI3, ?_⟩
            obtain ⟨z1, z2, z3, z4, z5, z6⟩ := HZ.out
            obtain ⟨y1, y2, y3, y4⟩ := HX.out
            have hw := wsO_some y1
            have := y3.core (l := ⟨.slice d (XL + 12) cp, XL + 12, X.ws.flatMap Win.vs ++ apN wMk 12⟩) (uW := .slice d2 (j + 1) p2) (uC := .slice d3 (j + 1) p3) (by rw [hw, y2]) (by rw [hw])
            rw [hw, y2, y3.c1n, y3.c0n] at this
            rw [z4, z2, z3, z1]
            exact this
          clear hr hF hfr hK hK3 hI3 hI hID eu0 hn0 ho hgN hnn sz
          refine wp_region_held_drew (S := (fun w' => w'.cell? ⟨C, 4, none⟩ = some (.slice (some ⟨g0, o0, none⟩) L x.cc) ∧ w'.cell? ⟨g0, o0 + j, none⟩ = some (.slice X.a XL X.c))) Tryz.mixd ⟨c4, p0⟩ (fun hHeld => ?_)
          simp only [List.size_toArray, List.length_cons, List.length_nil, Nat.reduceAdd, Array.replicate_succ, Array.replicate_zero, List.push_toArray, List.append_toArray, List.nil_append, List.cons_append]
          refine tk 0 (.pointer (some ⟨R, 0, none⟩)) hHeld ?_
          simp only [Act.put, List.setIfInBounds_toArray, List.set_cons_zero, List.set_cons_succ]
          refine tk 2 (.slice d M cp) hHeld ?_
          simp only [Act.put, List.setIfInBounds_toArray, List.set_cons_zero, List.set_cons_succ]
          refine tk 3 (.pointer (some ⟨C, 4, none⟩)) hHeld ?_
          simp only [Act.put, List.setIfInBounds_toArray, List.set_cons_zero, List.set_cons_succ]
          refine tk 4 (.slice (some ⟨g0, o0, none⟩) L x.cc) hHeld ?_
          simp only [Act.put, List.setIfInBounds_toArray, List.set_cons_zero, List.set_cons_succ]
          refine tk 5 (.int .i64 (j : Int)) hHeld ?_
          simp only [Act.put, List.setIfInBounds_toArray, List.set_cons_zero, List.set_cons_succ]
          refine tk 6 (.pointer (some ⟨g0, o0 + j, none⟩)) hHeld ?_
          simp only [Act.put, List.setIfInBounds_toArray, List.set_cons_zero, List.set_cons_succ]
          refine tk 7 (.slice X.a XL X.c) hHeld ?_
          simp only [Act.put, List.setIfInBounds_toArray, List.set_cons_zero, List.set_cons_succ]
          refine tk 8 (.int .i64 (XL : Int)) hHeld ?_
          simp only [Act.put, List.setIfInBounds_toArray, List.set_cons_zero, List.set_cons_succ]
          refine tk 9 (.slice d XL cp) hHeld ?_
          simp only [Act.put, List.setIfInBounds_toArray, List.set_cons_zero, List.set_cons_succ]
          refine wpAnyH_ready (rs := [1, 10]) (by kernel_rfl) (by simp) ?_
          refine AllReadyH.cons rfl (fun K hK => ?_) (AllReadyH.cons rfl (fun K hK => ?_) AllReadyH.nil)
          · go_simp
            refine hK.out _ _ ⟨c4, p0⟩ (fun hHeld => ?_)
            simp only [Act.put, List.setIfInBounds_toArray, List.set_cons_zero, List.set_cons_succ]
            refine wpAnyH_ready (rs := [10]) (by kernel_rfl) (by simp) ?_
            refine AllReadyH.cons rfl (fun K hK => ?_) AllReadyH.nil
            go_simp
            refine hK.out _ _ ⟨a4, a0⟩ (fun hHeld => ?_)
            simp only [Act.put, List.setIfInBounds_toArray, List.set_cons_zero, List.set_cons_succ]
            refine wpAnyH_ready (rs := [11]) (by kernel_rfl) (by simp) ?_
            refine AllReadyH.cons rfl (fun K hK => ?_) AllReadyH.nil
            rw [if_pos (by rfl)]
            refine wp_append_run (.tmp 45) (.tmp 54) 22 22 rfl (.slice d0 j q0) (.slice (some ⟨X2.heap.size, 0, none⟩) 1 1) _ W3 rfl rfl HAP4.out ?_
            refine hK.out _ _ ⟨b4, b0⟩ (fun hHeld => ?_)
            simp only [Act.put, List.setIfInBounds_toArray, List.set_cons_zero, List.set_cons_succ]
            refine tk 12 (.pointer (some ⟨R, 0, none⟩)) hHeld ?_
            simp only [Act.put, List.setIfInBounds_toArray, List.set_cons_zero, List.set_cons_succ]
            refine wpAnyH_ready (rs := [13]) (by kernel_rfl) (by simp) ?_
            refine AllReadyH.cons rfl (fun K hK => ?_) AllReadyH.nil
            go_simp
            refine hK.out _ _ ⟨s4, s0⟩ (fun hHeld => ?_)
            simp only [Act.put, List.setIfInBounds_toArray, List.set_cons_zero, List.set_cons_succ]
            refine wpAnyH_done (by kernel_rfl) ?_ _
            rw [← hX3]
            clear hHeld hK s4 s0 b4 b0 br bf a4 a0 ar c4 p0 r0 hX3
            go_wp2
            go_roundw
            case rel => exact ⟨j + 1, _, by have := HX.out.2.2.2; omega, by go_num, HN.out.1, HN.out.2⟩
            case measure => have := HX.out.2.2.2; simp [intOf]; omega
          · go_simp
            refine hK.out _ _ ⟨a4, a0⟩ (fun hHeld => ?_)
            simp only [Act.put, List.setIfInBounds_toArray, List.set_cons_zero, List.set_cons_succ]
            refine wpAnyH_ready (rs := [1]) (by kernel_rfl) (by simp) ?_
            refine AllReadyH.cons rfl (fun K hK => ?_) AllReadyH.nil
            go_simp
            refine hK.out _ _ ⟨a4, a0⟩ (fun hHeld => ?_)
            simp only [Act.put, List.setIfInBounds_toArray, List.set_cons_zero, List.set_cons_succ]
            refine wpAnyH_ready (rs := [11]) (by kernel_rfl) (by simp) ?_
            refine AllReadyH.cons rfl (fun K hK => ?_) AllReadyH.nil
            rw [if_pos (by rfl)]
            refine wp_append_run (.tmp 45) (.tmp 54) 22 22 rfl (.slice d0 j q0) (.slice (some ⟨X2.heap.size, 0, none⟩) 1 1) _ W3 rfl rfl HAP4.out ?_
            refine hK.out _ _ ⟨b4, b0⟩ (fun hHeld => ?_)
            simp only [Act.put, List.setIfInBounds_toArray, List.set_cons_zero, List.set_cons_succ]
            refine tk 12 (.pointer (some ⟨R, 0, none⟩)) hHeld ?_
            simp only [Act.put, List.setIfInBounds_toArray, List.set_cons_zero, List.set_cons_succ]
            refine wpAnyH_ready (rs := [13]) (by kernel_rfl) (by simp) ?_
            refine AllReadyH.cons rfl (fun K hK => ?_) AllReadyH.nil
            go_simp
            refine hK.out _ _ ⟨s4, s0⟩ (fun hHeld => ?_)
            simp only [Act.put, List.setIfInBounds_toArray, List.set_cons_zero, List.set_cons_succ]
            refine wpAnyH_done (by kernel_rfl) ?_ _
            rw [← hX3]
            clear hHeld hK s4 s0 b4 b0 br bf a4 a0 ar c4 p0 r0 hX3
            go_wp2
            go_roundw
            case rel => exact ⟨j + 1, _, by have := HX.out.2.2.2; omega, by go_num, HN.out.1, HN.out.2⟩
            case measure => have := HX.out.2.2.2; simp [intOf]; omega
    · obtain rfl : j = L := by omega
      obtain ⟨PL, hPL⟩ : ∃ PL, x.ps.length = PL := ⟨_, rfl⟩
      have HPL : Hid (x.ps.length = PL) := hPL
      have c5 : wr.cell? ⟨C, 5, none⟩ = some (.slice x.pa PL x.pc) := by have := hI.cfg.cell (i := 5) rfl; rw [hPL] at this; exact this
      have HI0 : Hid (RI w x C A B R lo N O wr ∧ RP x j 0 [] 0 O) := ⟨hI, hP⟩
      have hPz : (PL : Int) ≤ 2147483647 := by have := HB.out.ps; rw [hPL] at this; omega
      clear hI hP hPL hlt hj
      go_wp2
      clear c4 c5
      go_loopw [61] (fun i wr => ∃ (K : Nat) (O : Nat → Nat → ObG), K ≤ PL ∧ i = .int .i64 K ∧ RI w x C A B R lo N O wr ∧ RP x j K [] 0 O) (fun i _ => PL - (intOf i).toNat)
      case atStart => exact ⟨0, O, by omega, rfl, HI0.out.1, HI0.out.2⟩
      case round =>
        clear HI0
        obtain ⟨K, O, hj, rfl, hI, hP⟩ := hrel
        have c5 : wr.cell? ⟨C, 5, none⟩ = some (.slice x.pa PL x.pc) := by have := hI.cfg.cell (i := 5) rfl; rw [HPL.out] at this; exact this
        by_cases hlt : K < PL
        · obtain ⟨P, hPP⟩ : ∃ P, x.ps[K]? = some P := ⟨_, List.getElem?_eq_getElem (by have := HPL.out; omega)⟩
          obtain ⟨g0, o0, e0, hc⟩ := hI.cin.pseg.at hPP
          have hPi := hI.cin.pin P (List.mem_of_getElem? hPP)
          rw [e0] at c5
          have p0 := hc 0 _ rfl
          rw [Nat.add_zero] at p0
          have p1 := hc 1 _ rfl
          have p2 := hc 2 _ rfl
          have p3 := hc 3 _ rfl
          have p4 := hc 4 _ rfl
          have p5 := hc 5 _ rfl
          have p6 := hc 6 _ rfl
          have p7 := hc 7 _ rfl
          obtain ⟨QL, hQL⟩ : ∃ QL, P.ps.length = QL := ⟨_, rfl⟩
          obtain ⟨RL, hRL⟩ : ∃ RL, P.rs.length = RL := ⟨_, rfl⟩
          rw [hQL] at p7
          rw [hRL] at p6
          obtain ⟨U1, hU1⟩ : ∃ U1, U1 = wr.alloc (.cells #[.string P.name, .int .i64 P.entry, .int .i64 P.action, .int .i64 P.restarts, .int .i64 P.inputs, .int .i64 P.outputs, .slice P.ra RL P.rc, .slice P.pa QL P.pc] 47) := ⟨_, rfl⟩
          obtain ⟨Q, hQ⟩ : ∃ Q, Q = wr.heap.size := ⟨_, rfl⟩
          have hB1 : Blk U1 Q (parV P (.slice P.ra RL P.rc) (.slice P.pa QL P.pc)) 47 := by rw [hU1, hQ]; exact Blk.new _ _ _
          have kU1 : Keeps (fun _ => False) wr U1 := by rw [hU1]; exact (Keeps.refl _ _).alloc _
          have hI1 := hI.kept kU1
          have hOut1 : Out U1 O Q := hI.fam.outNew kU1 (by omega) hB1.lt
          have hPi1 := hI1.cin.pin P (List.mem_of_getElem? hPP)
          obtain ⟨v1, U2, happ, hown, hfr, kU2⟩ := copy_own eRgn plainRgn 44 _ 32 Tryz.underlying44 Tryz.inf78 rfl (by omega) P.ra P.rs P.rc hPi1.rseg (by have := HB.out.rs P (List.mem_of_getElem? hPP); omega)
          have hO2 : O 2 K = ObG.nil := hP.z2 K (Nat.le_refl _)
          have hO3 : O 3 K = ObG.nil := hP.z3 K (Nat.le_refl _)
          have hF2 : FamO lo U2 (updG O 2 K ⟨v1, RL, P.rs.flatMap Rgn.vs⟩) := hI1.fam.grow 2 K (by rw [← hRL]; exact hown) (.inr hfr) (kU2.mono fun _ _ h => h.elim)
          have hI2 := hI1.inner hF2 (kU2.mono fun _ _ h => h.elim) (roomV_upd O 2 K _ (by omega))
          have hOut2 : Out U2 (updG O 2 K ⟨v1, RL, P.rs.flatMap Rgn.vs⟩) Q := hOut1.grow 2 K (.inr hfr) kU2.size
          have hPi2 := hI2.cin.pin P (List.mem_of_getElem? hPP)
          obtain ⟨v2, U3, happ2, hown2, hfr2, kU3⟩ := copy_own ePrt plainPrt 45 _ 16 Tryz.underlying45 Tryz.inf80 rfl (by omega) P.pa P.ps P.pc hPi2.pseg (by have := HB.out.qs P (List.mem_of_getElem? hPP); omega)
          have hF3 : FamO lo U3 (updG (updG O 2 K ⟨v1, RL, P.rs.flatMap Rgn.vs⟩) 3 K ⟨v2, QL, P.ps.flatMap Prt.vs⟩) := hF2.grow 3 K (by rw [← hQL]; exact hown2) (.inr hfr2) (kU3.mono fun _ _ h => h.elim)
          have hI3 := hI2.inner hF3 (kU3.mono fun _ _ h => h.elim) (roomV_upd _ 3 K _ (by omega))
          have hOut3 := hOut2.grow (W := U3) (n' := QL) (ys := P.ps.flatMap Prt.vs) 3 K (.inr hfr2) kU3.size
          have hB2 := hB1.kept kU2 fun h => h
          have hB3 := hB2.kept kU3 fun h => h
          rw [hRL] at happ
          rw [hQL] at happ2
          have HAP : Hid (∀ ty, (Builtin.append_ #[44, 44] ty #[.slice none 0 0, .slice P.ra RL P.rc]).run Tryz.prog U1 = .ok v1 U2) := happ
          have HAP2 : Hid (∀ ty, (Builtin.append_ #[45, 45] ty #[.slice none 0 0, .slice P.pa QL P.pc]).run Tryz.prog U2 = .ok v2 U3) := happ2
          have q6 := hB1.cell (i := 6) rfl
          have q7 := hB2.cell (i := 7) rfl
          have hRb := HB.out.rs P (List.mem_of_getElem? hPP)
          have hQb := HB.out.qs P (List.mem_of_getElem? hPP)
          rw [hRL] at hRb
          rw [hQL] at hQb
          have hRz : (RL : Int) ≤ 2147483647 := by omega
          have hQz : (QL : Int) ≤ 2147483647 := by omega
          have HX : Hid (x.ps[K]? = some P ∧ P.rs.length = RL ∧ P.ps.length = QL ∧ RP x j K [] 0 O ∧ K < PL) := ⟨hPP, hRL, hQL, hP, hlt⟩
          have HI3 : Hid (RI w x C A B R lo N (updG (updG O 2 K ⟨v1, RL + 0, P.rs.flatMap Rgn.vs ++ apN rMk 0⟩) 3 K ⟨v2, QL + 0, P.ps.flatMap Prt.vs ++ apN pMk 0⟩) U3 ∧ Blk U3 Q (parV P (.slice P.ra RL P.rc) (.slice P.pa QL P.pc)) 47 ∧ Out U3 (updG (updG O 2 K ⟨v1, RL + 0, P.rs.flatMap Rgn.vs ++ apN rMk 0⟩) 3 K ⟨v2, QL + 0, P.ps.flatMap Prt.vs ++ apN pMk 0⟩) Q ∧ lo ≤ Q) := by
            rw [apN_zero, apN_zero, List.append_nil, List.append_nil]
            exact ⟨hI3, hB3, hOut3, by have := hI.fam.siz; omega⟩
          have hKz : (K : Int) < PL := by omega
          clear happ happ2 hown hown2 hfr hfr2 kU1 kU2 kU3 hI1 hI2 hI3 hF2 hF3 hOut1 hOut2 hOut3 hB1 hB2 hB3 hI hP hPP hRL hQL hPi hPi1 hPi2 e0 hO2 hO3 hc hj hlt
          go_upto_region 19 with fail
          rw [← hU1, ← hQ]
          clear hU1 hQ p0 p1 p2 p3 p4 p5 p6 p7 c5
          go_wp2_with (at_builtin; go_must (refine wpList_append_run rfl (.tmp 69) (.tmp 71) 44 44 rfl (Value.slice none 0 0) (.slice P.ra RL P.rc) v1 U2 rfl rfl HAP.out ?_; refine Hid.out ?_))
          unfold Hid
          clear q6 HAP
          go_wp2_with (at_builtin; go_must (refine wpList_append_run rfl (.tmp 73) (.tmp 75) 45 45 rfl (Value.slice none 0 0) (.slice P.pa QL P.pc) v2 U3 rfl rfl HAP2.out ?_; refine Hid.out ?_))
          unfold Hid
          clear q7 HAP2
          go_wp2
          go_loopw [10, 11, 77] (fun lv qv i wq => ∃ (k : Nat), k ≤ 12 ∧ i = .int .i64 k ∧ RI w x C A B R lo N (updG (updG O 2 K ⟨lv, RL + k, P.rs.flatMap Rgn.vs ++ apN rMk k⟩) 3 K ⟨qv, QL + k, P.ps.flatMap Prt.vs ++ apN pMk k⟩) wq ∧ Blk wq Q (parV P (.slice P.ra RL P.rc) (.slice P.pa QL P.pc)) 47 ∧ Out wq (updG (updG O 2 K ⟨lv, RL + k, P.rs.flatMap Rgn.vs ++ apN rMk k⟩) 3 K ⟨qv, QL + k, P.ps.flatMap Prt.vs ++ apN pMk k⟩) Q ∧ lo ≤ Q) (fun _ _ i _ => 12 - (intOf i).toNat)
          case atStart => exact ⟨0, by omega, rfl, HI3.out⟩
          case round =>
            clear HI3
            obtain ⟨k, hk, rfl, hI, hBQ, hOut, hlQ⟩ := hrel
            by_cases hk2 : k < 12
            · obtain ⟨d, cp, ev, _, _⟩ := hI.fam.form 2 K
              rw [updG_ne _ _ (by omega), updG_self] at ev
              dsimp only at ev
              subst ev
              obtain ⟨d', cp', ev, _, _⟩ := hI.fam.form 3 K
              rw [updG_self] at ev
              dsimp only at ev
              subst ev
              obtain ⟨v', W', hr, hF, hfr, hK⟩ := app_rgn hI.fam K (-70 - (k : Int)) (by rw [updG_ne _ _ (by omega), updG_self]; dsimp only; omega)
              have hout1 := hOut.grow (W := W') 2 K (v' := v') (n' := RL + k + 1) (ys := P.rs.flatMap Rgn.vs ++ apN rMk k ++ [.int .i64 (-70 - (k : Int)), .int .i64 0, .int .i64 0, .int .i64 0]) hfr hK.size
              have hI1 := hI.inner hF (keeps_lo hI.fam 2 K hK) (by rw [roomV_upd _ _ _ _ (by omega)])
              have hBQ1 := hBQ.kept hK fun e => hOut.2 2 K e.symm
              rw [updG_ne _ _ (by omega), updG_self] at hr hF hfr hK hI1
              dsimp only at hr hF hfr hK hI1
              have e1 : updG (updG (updG O 2 K ⟨.slice d (RL + k) cp, RL + k, P.rs.flatMap Rgn.vs ++ apN rMk k⟩) 3 K ⟨.slice d' (QL + k) cp', QL + k, P.ps.flatMap Prt.vs ++ apN pMk k⟩) 2 K ⟨v', RL + k + 1, P.rs.flatMap Rgn.vs ++ apN rMk k ++ [.int .i64 (-70 - (k : Int)), .int .i64 0, .int .i64 0, .int .i64 0]⟩ = updG (updG O 2 K ⟨v', RL + (k + 1), P.rs.flatMap Rgn.vs ++ apN rMk (k + 1)⟩) 3 K ⟨.slice d' (QL + k) cp', QL + k, P.ps.flatMap Prt.vs ++ apN pMk k⟩ := by
                funext a b
                unfold updG
                by_cases e : a = 2 ∧ b = K
                · have e' : ¬ (a = 3 ∧ b = K) := by omega
                  simp only [if_pos e, if_neg e', apN_succ, List.append_assoc]; rfl
                · simp only [if_neg e]
              rw [e1] at hF hI1 hout1
              obtain ⟨v2, W2, hr2, hF2, hfr2, hK2⟩ := app_prt hF K (-70 - (k : Int)) (by rw [updG_self]; dsimp only; omega)
              have hout2 := hout1.grow (W := W2) 3 K (v' := v2) (n' := QL + k + 1) (ys := P.ps.flatMap Prt.vs ++ apN pMk k ++ [.int .i64 (-70 - (k : Int)), .bool false]) hfr2 hK2.size
              have hI2 := hI1.inner hF2 (keeps_lo hF 3 K hK2) (by rw [roomV_upd _ _ _ _ (by omega)])
              have hBQ2 := hBQ1.kept hK2 fun e => hout1.2 3 K e.symm
              rw [updG_self] at hr2 hF2 hfr2 hK2 hI2
              dsimp only at hr2 hF2 hfr2 hK2 hI2
              have e2 : updG (updG (updG O 2 K ⟨v', RL + (k + 1), P.rs.flatMap Rgn.vs ++ apN rMk (k + 1)⟩) 3 K ⟨.slice d' (QL + k) cp', QL + k, P.ps.flatMap Prt.vs ++ apN pMk k⟩) 3 K ⟨v2, QL + k + 1, P.ps.flatMap Prt.vs ++ apN pMk k ++ [.int .i64 (-70 - (k : Int)), .bool false]⟩ = updG (updG O 2 K ⟨v', RL + (k + 1), P.rs.flatMap Rgn.vs ++ apN rMk (k + 1)⟩) 3 K ⟨v2, QL + (k + 1), P.ps.flatMap Prt.vs ++ apN pMk (k + 1)⟩ := by
                funext a b
                unfold updG
                by_cases e : a = 3 ∧ b = K
                · simp only [if_pos e, apN_succ, List.append_assoc]; rfl
                · simp only [if_neg e]
              rw [e2] at hF2 hI2 hout2
              have HN : Hid (RI w x C A B R lo N (updG (updG O 2 K ⟨v', RL + (k + 1), P.rs.flatMap Rgn.vs ++ apN rMk (k + 1)⟩) 3 K ⟨v2, QL + (k + 1), P.ps.flatMap Prt.vs ++ apN pMk (k + 1)⟩) W2 ∧ Blk W2 Q (parV P (.slice P.ra RL P.rc) (.slice P.pa QL P.pc)) 47 ∧ Out W2 (updG (updG O 2 K ⟨v', RL + (k + 1), P.rs.flatMap Rgn.vs ++ apN rMk (k + 1)⟩) 3 K ⟨v2, QL + (k + 1), P.ps.flatMap Prt.vs ++ apN pMk (k + 1)⟩) Q ∧ lo ≤ Q) := ⟨hI2, hBQ2, hout2, hlQ⟩
              obtain ⟨m, hm⟩ : ∃ m, RL + k = m := ⟨_, rfl⟩
              obtain ⟨m', hm'⟩ : ∃ m', QL + k = m' := ⟨_, rfl⟩
              rw [hm] at hr ⊢
              rw [hm'] at hr2 ⊢
              have HAP : Hid (∀ ty, (Builtin.append_ #[44, 44] ty #[.slice d m cp, .slice (some ⟨wr.heap.size, 0, none⟩) 1 1]).run Tryz.prog (wr.alloc (.cells #[.int .i64 (-70 - (k : Int)), .int .i64 0, .int .i64 0, .int .i64 0] 53)) = .ok v' W') := hr
              have HAP2 : Hid (∀ ty, (Builtin.append_ #[45, 45] ty #[.slice d' m' cp', .slice (some ⟨W'.heap.size, 0, none⟩) 1 1]).run Tryz.prog (W'.alloc (.cells #[.int .i64 (-70 - (k : Int)), .bool false] 55)) = .ok v2 W2) := hr2
              have hkz : (k : Int) < 12 := by omega
              clear hr hF hfr hK e1 hI hr2 hF2 hfr2 hK2 e2 hI1 hI2 hout1 hout2 hBQ hBQ1 hBQ2 hOut hm hm'
              go_wp2_with (at_builtin; go_must (refine wpList_append_run rfl (.tmp 80) (.tmp 84) 44 44 rfl (.slice d m cp) (.slice (some ⟨wr.heap.size, 0, none⟩) 1 1) v' W' rfl rfl HAP.out ?_; refine Hid.out ?_))
              unfold Hid
              clear HAP
              go_wp2_with (at_builtin; go_must (refine wpList_append_run rfl (.tmp 86) (.tmp 90) 45 45 rfl (.slice d' m' cp') (.slice (some ⟨W'.heap.size, 0, none⟩) 1 1) v2 W2 rfl rfl HAP2.out ?_; refine Hid.out ?_))
              unfold Hid
              clear HAP2
              go_wp2
              go_roundw
              case rel => exact ⟨k + 1, by omega, by go_num, HN.out⟩
              case measure => simp [intOf]; omega
            · obtain rfl : k = 12 := by omega
              obtain ⟨hPP, hRL, hQL, hP, hlt⟩ := HX.out
              obtain ⟨d, cp, ev, hle, hmx⟩ := hI.fam.form 2 K
              rw [updG_ne _ _ (by omega), updG_self] at ev hle
              dsimp only at ev hle
              subst ev
              obtain ⟨d', cp', ev, hle', hmx'⟩ := hI.fam.form 3 K
              rw [updG_self] at ev hle'
              dsimp only at ev hle'
              subst ev
              obtain ⟨O1, hO1⟩ : ∃ O1, O1 = updG (updG O 2 K ⟨.slice d (RL + 12) cp, RL + 12, P.rs.flatMap Rgn.vs ++ apN rMk 12⟩) 3 K ⟨.slice d' (QL + 12) cp', QL + 12, P.ps.flatMap Prt.vs ++ apN pMk 12⟩ := ⟨_, rfl⟩
              rw [← hO1] at hI hOut
              have e0 : ∀ b, O1 0 b = O 0 b := fun b => by rw [hO1, updG_ne _ _ (by omega), updG_ne _ _ (by omega)]
              have hn3 : (O1 0 3).n = K := by rw [e0]; exact hP.c3n
              have hn4 : (O1 0 4).n = K := by rw [e0]; exact hP.c4n
              have hn2 : (O1 0 2).n = K := by rw [e0]; have := hP.c2n; omega
              -- the regions
              obtain ⟨u3, t3, eu3, _, _⟩ := hI.fam.form 0 3
              obtain ⟨v3, W3, hr3, hF3, hfr3, hK3⟩ := app_rows3 hI.fam d (RL + 12) cp (by rw [hn3]; omega)
              have kl3 := keeps_lo hI.fam 0 3 hK3
              rw [hn3] at eu3 hF3
              obtain ⟨r3, s3, f3⟩ := hI.cells 3 _ rfl kl3
              have hI3 := hI.put hF3 kl3 3 v3 (roomV_set O1 3 _ (by omega))
              have hOut3 := (hOut.grow (W := W3) (n' := K + 1) (ys := (O1 0 3).xs ++ [.slice d (RL + 12) cp]) 0 3 hfr3 hK3.size)
              have hBQ3 := hBQ.kept hK3 fun e => hOut.2 0 3 e.symm
              obtain ⟨x3, y3, ev3, _, _⟩ := hF3.form 0 3
              rw [updG_self] at ev3
              dsimp only at ev3
              subst ev3
              obtain ⟨X3, hX3⟩ : ∃ X3, X3 = W3.setCell ⟨R, 3, none⟩ (.slice x3 (K + 1) y3) := ⟨_, rfl⟩
              have ho := hI.ord
              have kX3 : Keeps (fun k => k = R) W3 X3 := by rw [hX3]; exact (Keeps.refl _ _).setCell ⟨R, 3, none⟩ _ fun _ => rfl
              rw [← hX3] at hI3
              have hBX3 := hBQ3.kept kX3 (by omega)
              obtain ⟨O2, hO2⟩ : ∃ O2, O2 = updG O1 0 3 ⟨.slice x3 (K + 1) y3, K + 1, (O1 0 3).xs ++ [.slice d (RL + 12) cp]⟩ := ⟨_, rfl⟩
              rw [← hO2] at hI3 hOut3
              replace hOut3 := hOut3.ge kX3.size
              have e24 : O2 0 4 = O1 0 4 := by rw [hO2, updG_ne _ _ (by omega)]
              have e22 : O2 0 2 = O1 0 2 := by rw [hO2, updG_ne _ _ (by omega)]
              -- the ports
              obtain ⟨u4, t4, eu4, _, _⟩ := hI3.fam.form 0 4
              obtain ⟨v4, W4, hr4, hF4, hfr4, hK4⟩ := app_rows4 hI3.fam d' (QL + 12) cp' (by rw [e24, hn4]; omega)
              have kl4 := keeps_lo hI3.fam 0 4 hK4
              rw [e24, hn4] at eu4
              rw [e24, hn4] at hF4
              obtain ⟨r4, s4, f4⟩ := hI3.cells 4 _ rfl kl4
              have hI4 := hI3.put hF4 kl4 4 v4 (roomV_set O2 4 _ (by omega))
              have hOut4 := (hOut3.grow (W := W4) (n' := K + 1) (ys := (O1 0 4).xs ++ [.slice d' (QL + 12) cp']) 0 4 hfr4 hK4.size)
              have hBQ4 := hBX3.kept hK4 fun e => hOut3.2 0 4 e.symm
              obtain ⟨x4, y4, ev4, _, _⟩ := hF4.form 0 4
              rw [updG_self] at ev4
              dsimp only at ev4
              subst ev4
              obtain ⟨X4, hX4⟩ : ∃ X4, X4 = W4.setCell ⟨R, 4, none⟩ (.slice x4 (K + 1) y4) := ⟨_, rfl⟩
              have kX4 : Keeps (fun k => k = R) W4 X4 := by rw [hX4]; exact (Keeps.refl _ _).setCell ⟨R, 4, none⟩ _ fun _ => rfl
              rw [← hX4] at hI4
              have hBX4 := hBQ4.kept kX4 (by omega)
              obtain ⟨O3, hO3⟩ : ∃ O3, O3 = updG O2 0 4 ⟨.slice x4 (K + 1) y4, K + 1, (O1 0 4).xs ++ [.slice d' (QL + 12) cp']⟩ := ⟨_, rfl⟩
              rw [← hO3] at hI4 hOut4
              replace hOut4 := hOut4.ge kX4.size
              have e32 : O3 0 2 = O1 0 2 := by rw [hO3, updG_ne _ _ (by omega), e22]
              -- the partition itself
              obtain ⟨X5, hX5⟩ : ∃ X5, X5 = X4.setCell ⟨Q, 6, none⟩ (.slice d RL cp) := ⟨_, rfl⟩
              obtain ⟨X6, hX6⟩ : ∃ X6, X6 = X5.setCell ⟨Q, 7, none⟩ (.slice d' QL cp') := ⟨_, rfl⟩
              have q6 := hBX4.cell (i := 6) rfl
              have q6f := hBX4.frozen 6
              have hBX5 : Blk X5 Q (parV P (.slice d RL cp) (.slice P.pa QL P.pc)) 47 := by rw [hX5]; exact hBX4.setCell 6 _
              have q7 := hBX5.cell (i := 7) rfl
              have q7f := hBX5.frozen 7
              have hBX6 : Blk X6 Q (parV P (.slice d RL cp) (.slice d' QL cp')) 47 := by rw [hX6]; exact hBX5.setCell 7 _
              have k5 : Keeps (fun k => k = Q) X4 X5 := by rw [hX5]; exact (Keeps.refl _ _).setCell ⟨Q, 6, none⟩ _ fun _ => rfl
              have k6 : Keeps (fun k => k = Q) X4 X6 := by
                refine k5.trans ?_ fun _ _ h => h
                rw [hX6]; exact (Keeps.refl _ _).setCell ⟨Q, 7, none⟩ _ fun _ => rfl
              have hI6 : RI w x C A B R lo N O3 X6 := hI4.inner (hI4.fam.kept k6 fun a b k hk e => hOut4.2 a b (by rw [← e]; exact hk)) (k6.mono fun k _ e => by omega) rfl
              have hOut6 := hOut4.ge k6.size
              obtain ⟨u2, t2, eu2, _, _⟩ := hI6.fam.form 0 2
              obtain ⟨v2, W2, hr2, hF2, hfr2, hK2⟩ := app_par hI6.fam P.name P.entry P.action P.restarts P.inputs P.outputs d RL cp d' QL cp' (by rw [e32, hn2]; omega)
              have kl2 := keeps_lo hI6.fam 0 2 hK2
              rw [e32, hn2] at eu2 hF2
              obtain ⟨r2, s2, f2⟩ := hI6.cells 2 _ rfl kl2
              have hI2 := hI6.put hF2 kl2 2 v2 (roomV_set O3 2 _ (by omega))
              obtain ⟨x2, y2, ev2, _, _⟩ := hF2.form 0 2
              rw [updG_self] at ev2
              dsimp only at ev2
              subst ev2
              obtain ⟨X2, hX2⟩ : ∃ X2, X2 = W2.setCell ⟨R, 2, none⟩ (.slice x2 (K + 1) y2) := ⟨_, rfl⟩
              rw [← hX2] at hI2
              have z0 := hBX6.cell (i := 0) rfl
              have z1 := hBX6.cell (i := 1) rfl
              have z2 := hBX6.cell (i := 2) rfl
              have z3 := hBX6.cell (i := 3) rfl
              have z4 := hBX6.cell (i := 4) rfl
              have z5 := hBX6.cell (i := 5) rfl
              have z6 := hBX6.cell (i := 6) rfl
              have z7 := hBX6.cell (i := 7) rfl
              have HN : Hid (RI w x C A B R lo N (updG O3 0 2 ⟨.slice x2 (K + 1) y2, K + 1, (O1 0 2).xs ++ [.string P.name, .int .i64 P.entry, .int .i64 P.action, .int .i64 P.restarts, .int .i64 P.inputs, .int .i64 P.outputs, .slice d RL cp, .slice d' QL cp']⟩) X2 ∧ RP x j (K + 1) [] 0 (updG O3 0 2 ⟨.slice x2 (K + 1) y2, K + 1, (O1 0 2).xs ++ [.string P.name, .int .i64 P.entry, .int .i64 P.action, .int .i64 P.restarts, .int .i64 P.inputs, .int .i64 P.outputs, .slice d RL cp, .slice d' QL cp']⟩) ∧ K < PL) := by
                refine ⟨hI2, ?_, hlt⟩
                have hw := rsO_some hPP
                have hw2 := psO_some hPP
                have := hP.par (l := ⟨.slice d (RL + 12) cp, RL + 12, P.rs.flatMap Rgn.vs ++ apN rMk 12⟩) (q := ⟨.slice d' (QL + 12) cp', QL + 12, P.ps.flatMap Prt.vs ++ apN pMk 12⟩) (uR := .slice x3 (K + 1) y3) (uQ := .slice x4 (K + 1) y4) (uP := .slice x2 (K + 1) y2) (by rw [hw, hRL]) (by rw [hw]) (by rw [hw2, hQL]) (by rw [hw2])
                rw [hw, hw2, hRL, hQL, hP.c3n, hP.c4n, hP.c2n, parC_some hPP] at this
                rw [e0 2, hO3, hO2, e0 3, e0 4, hO1]
                exact this
              rw [eu3] at hr3
              change wr.cell? _ = some (O1 0 3).u at r3
              change W3.cell? _ = some (O1 0 3).u at s3
              rw [eu3] at r3 s3
              change X3.cell? _ = some (O2 0 4).u at r4
              change W4.cell? _ = some (O2 0 4).u at s4
              rw [e24, eu4] at r4 s4
              rw [e24, eu4] at hr4
              change X6.cell? _ = some (O3 0 2).u at r2
              change W2.cell? _ = some (O3 0 2).u at s2
              rw [e32, eu2] at r2 s2
              rw [e32, eu2] at hr2
              obtain ⟨M, hM⟩ : ∃ M, RL + 12 = M := ⟨_, rfl⟩
              obtain ⟨M', hM'⟩ : ∃ M', QL + 12 = M' := ⟨_, rfl⟩
              rw [hM] at hr3 ⊢
              rw [hM'] at hr4 ⊢
              have HAP3 : Hid (∀ ty, (Builtin.append_ #[33, 33] ty #[.slice u3 K t3, .slice (some ⟨wr.heap.size, 0, none⟩) 1 1]).run Tryz.prog (wr.alloc (.cells #[.slice d M cp] 44)) = .ok (.slice x3 (K + 1) y3) W3) := hr3
              have HAP4 : Hid (∀ ty, (Builtin.append_ #[34, 34] ty #[.slice u4 K t4, .slice (some ⟨X3.heap.size, 0, none⟩) 1 1]).run Tryz.prog (X3.alloc (.cells #[.slice d' M' cp'] 45)) = .ok (.slice x4 (K + 1) y4) W4) := hr4
              have HAP5 : Hid (∀ ty, (Builtin.append_ #[23, 23] ty #[.slice u2 K t2, .slice (some ⟨X6.heap.size, 0, none⟩) 1 1]).run Tryz.prog (X6.alloc (.cells #[.string P.name, .int .i64 P.entry, .int .i64 P.action, .int .i64 P.restarts, .int .i64 P.inputs, .int .i64 P.outputs, .slice d RL cp, .slice d' QL cp'] 47)) = .ok (.slice x2 (K + 1) y2) W2) := hr2
              have hc1 : (M : Int) ≤ cp := by omega
              have hc2 : (RL : Int) ≤ M := by omega
              have hc3 : (M' : Int) ≤ cp' := by omega
              have hc4 : (QL : Int) ≤ M' := by omega
              clear hr3 hr4 hr2 hF3 hF4 hF2 hfr3 hfr4 hfr2 hK3 hK4 hK2 kl3 kl4 kl2 hI hI3 hI4 hI6 hI2 hOut hOut3 hOut4 hOut6 hBQ hBQ3 hBQ4 hBX3 hBX4 hBX5 hBX6 k5 k6 kX3 kX4 ho hO1 hO2 hO3 e0 e24 e22 e32 hn2 hn3 hn4 eu2 eu3 eu4 hPP hRL hQL hP hlt hM hM' hle hle' hmx hmx' hk hk2 hlQ HX
              go_wp2_with (at_builtin; go_must (refine wpList_append_run rfl (.tmp 94) (.tmp 96) 33 33 rfl (.slice u3 K t3) (.slice (some ⟨wr.heap.size, 0, none⟩) 1 1) (.slice x3 (K + 1) y3) W3 rfl rfl HAP3.out ?_; refine Hid.out ?_))
              unfold Hid
              clear r3 HAP3
              go_upto_region 30 with fail
              rw [← hX3]
              clear hX3 s3 f3
              go_wp2_with (at_builtin; go_must (refine wpList_append_run rfl (.tmp 100) (.tmp 102) 34 34 rfl (.slice u4 K t4) (.slice (some ⟨X3.heap.size, 0, none⟩) 1 1) (.slice x4 (K + 1) y4) W4 rfl rfl HAP4.out ?_; refine Hid.out ?_))
              unfold Hid
              clear r4 HAP4
              go_upto_region 31 with fail
              rw [← hX4]
              clear hX4 s4 f4
              go_upto_region 32 with fail
              rw [← hX5]
              clear hX5 q6 q6f
              go_upto_region 33 with fail
              rw [← hX6]
              clear hX6 q7 q7f
              go_wp2_with (at_builtin; go_must (refine wpList_append_run rfl (.tmp 118) (.tmp 120) 23 23 rfl (.slice u2 K t2) (.slice (some ⟨X6.heap.size, 0, none⟩) 1 1) (.slice x2 (K + 1) y2) W2 rfl rfl HAP5.out ?_; refine Hid.out ?_))
              unfold Hid
              clear r2 HAP5 z0 z1 z2 z3 z4 z5 z6 z7
              go_upto_region 34 with fail
              rw [← hX2]
              clear hX2 s2 f2
              go_wp2
              go_roundw
              case rel => exact ⟨K + 1, _, by have := HN.out.2.2; omega, by go_num, HN.out.1, HN.out.2.1⟩
              case measure => have := HN.out.2.2; simp [intOf]; omega
        · obtain rfl : K = PL := by omega
          obtain ⟨HL3, hHL⟩ : ∃ HL3, x.hs.length = HL3 := ⟨_, rfl⟩
          have c6 : wr.cell? ⟨C, 6, none⟩ = some (.slice x.ha HL3 x.hc) := by have := hI.cfg.cell (i := 6) rfl; rw [hHL] at this; exact this
          have hn5 : (O 0 5).n = 0 := by have := hP.c5n; simpa using this
          have hx5 : (O 0 5).xs = [] := by have := hP.c5; simpa [apN_zero] using this
          obtain ⟨u5, t5, eu5, _, _⟩ := hI.fam.form 0 5
          obtain ⟨v5, W5, hr5, hF5, hfr5, hK5⟩ := hI.fam.appSeg eChn plainChn 0 5 rfl 24 _ 24 Tryz.underlying24 Tryz.inf82 rfl (by omega) x.ha x.hs x.hc hI.cin.hseg (by rw [hn5]; have := HB.out.hs; omega)
          have kl5 := keeps_lo hI.fam 0 5 hK5
          obtain ⟨r5, s5, f5⟩ := hI.cells 5 _ rfl kl5
          have hI5 := hI.put hF5 kl5 5 v5 (roomV_set O 5 _ (by omega))
          rw [hn5, hx5, Nat.zero_add, List.nil_append, hHL] at hF5 hI5
          rw [hn5] at eu5
          change wr.cell? _ = some (O 0 5).u at r5
          change W5.cell? _ = some (O 0 5).u at s5
          rw [eu5] at r5 s5 hr5
          obtain ⟨x5, y5, ev5, _, _⟩ := hF5.form 0 5
          rw [updG_self] at ev5
          dsimp only at ev5
          subst ev5
          obtain ⟨X5, hX5⟩ : ∃ X5, X5 = W5.setCell ⟨R, 5, none⟩ (.slice x5 HL3 y5) := ⟨_, rfl⟩
          rw [← hX5] at hI5
          rw [hHL] at hr5
          have HAP5 : Hid (∀ ty, (Builtin.append_ #[24, 24] ty #[.slice u5 0 t5, .slice x.ha HL3 x.hc]).run Tryz.prog wr = .ok (.slice x5 HL3 y5) W5) := hr5
          have HI5 : Hid (RI w x C A B R lo N (updG O 0 5 ⟨.slice x5 HL3 y5, HL3, x.hs.flatMap Chn.vs⟩) X5 ∧ RP x j K x.hs 0 (updG O 0 5 ⟨.slice x5 HL3 y5, HL3, x.hs.flatMap Chn.vs⟩) ∧ x.hs.length = HL3) := by
            refine ⟨hI5, ?_, hHL⟩
            have := hP.chs x.hs (.slice x5 HL3 y5)
            rw [hHL] at this
            exact this
          have hHz : (HL3 : Int) ≤ 2147483647 := by have := HB.out.hs; rw [hHL] at this; omega
          clear hr5 hF5 hfr5 hK5 kl5 hI5 hn5 hx5 eu5 hHL hI hP hlt hj
          go_wp2_with (at_builtin; go_must (refine wpList_append_run rfl (.tmp 125) (.tmp 127) 24 24 rfl (.slice u5 0 t5) (.slice x.ha HL3 x.hc) (.slice x5 HL3 y5) W5 rfl rfl HAP5.out ?_; refine Hid.out ?_))
          unfold Hid
          clear r5 HAP5 c5 c6
          go_upto_region 36 with fail
          rw [← hX5]
          clear hX5 s5 f5
          go_wp2
          go_loopw [130] (fun i wr => ∃ (k : Nat) (O : Nat → Nat → ObG), k ≤ 12 ∧ i = .int .i64 k ∧ RI w x C A B R lo N O wr ∧ RP x j K x.hs k O) (fun i _ => 12 - (intOf i).toNat)
          case atStart => exact ⟨0, _, by omega, rfl, HI5.out.1, HI5.out.2.1⟩
          case round =>
            obtain ⟨k, O, hk, rfl, hI, hP⟩ := hrel
            by_cases hk2 : k < 12
            · have hn0 : (O 0 0).n = j + k := hP.c0n
              have hn2 : (O 0 2).n = K + k := hP.c2n
              have hn5 : (O 0 5).n = HL3 + k := by rw [hP.c5n, HI5.out.2.2]
              -- a spare core
              obtain ⟨U1, hU1⟩ : ∃ U1, U1 = wr.alloc (.cells #[.int .i64 (-70 - (k : Int)), .int .i64 0, .int .i64 0] 51) := ⟨_, rfl⟩
              have kU1 : Keeps (fun _ => False) wr U1 := by rw [hU1]; exact (Keeps.refl _ _).alloc _
              have hI1 := hI.kept kU1
              have hown1 : U1.ownsRow 0 (tyO 4 k).1 (tyO 4 k).2 (.slice (some ⟨wr.heap.size, 0, none⟩) 1 1) 1 (wMk k) := by rw [hU1]; exact own_new wr _ 51 3 rfl (by decide)
              have hO4 : O 4 k = ObG.nil := hP.z4 k (Nat.le_refl _)
              have hF1 : FamO lo U1 (updG O 4 k ⟨.slice (some ⟨wr.heap.size, 0, none⟩) 1 1, 1, wMk k⟩) := hI.fam.grow 4 k hown1 (.inr (.inr ⟨_, rfl, Nat.le_refl _⟩)) (kU1.mono fun _ _ h => h.elim)
              obtain ⟨G, hG⟩ : ∃ G, G = wr.heap.size := ⟨_, rfl⟩
              rw [← hG] at hF1
              have hI1' := hI.inner hF1 (kU1.mono fun _ _ h => h.elim) (roomV_upd O 4 k _ (by omega))
              obtain ⟨O1, hO1⟩ : ∃ O1, O1 = updG O 4 k ⟨.slice (some ⟨G, 0, none⟩) 1 1, 1, wMk k⟩ := ⟨_, rfl⟩
              rw [← hO1] at hF1 hI1'
              have e0 : ∀ b, O1 0 b = O 0 b := fun b => by rw [hO1, updG_ne _ _ (by omega)]
              obtain ⟨u0, t0, eu0, _, _⟩ := hI1'.fam.form 0 0
              obtain ⟨v0, W0, hr0, hF0, hfr0, hK0⟩ := app_row hI1'.fam 0 rfl (some ⟨G, 0, none⟩) 1 1 (by rw [e0, hn0]; omega)
              have kl0 := keeps_lo hI1'.fam 0 0 hK0
              obtain ⟨r0', s0, f0⟩ := hI1'.cells 0 _ rfl kl0
              have r0 := (hI.cells 0 _ rfl (Keeps.refl (fun k => lo ≤ k) wr)).1
              have hI0 := hI1'.put hF0 kl0 0 v0 (roomV_set O1 0 _ (by omega))
              rw [e0, hn0] at hF0 hI0 eu0
              obtain ⟨x0, y0, ev0, _, _⟩ := hF0.form 0 0
              rw [updG_self] at ev0
              dsimp only at ev0
              subst ev0
              obtain ⟨X0, hX0⟩ : ∃ X0, X0 = W0.setCell ⟨R, 0, none⟩ (.slice x0 (j + k + 1) y0) := ⟨_, rfl⟩
              rw [← hX0] at hI0
              obtain ⟨O2, hO2⟩ : ∃ O2, O2 = updG O1 0 0 ⟨.slice x0 (j + k + 1) y0, j + k + 1, (O 0 0).xs ++ [.slice (some ⟨G, 0, none⟩) 1 1]⟩ := ⟨_, rfl⟩
              rw [← hO2] at hI0
              have e22 : O2 0 2 = O 0 2 := by rw [hO2, updG_ne _ _ (by omega), e0]
              have e25 : O2 0 5 = O 0 5 := by rw [hO2, updG_ne _ _ (by omega), e0]
              -- a spare partition
              obtain ⟨u2, t2, eu2, _, _⟩ := hI0.fam.form 0 2
              obtain ⟨v2, W2, hr2, hF2, hfr2, hK2⟩ := app_par hI0.fam { data := #[] } (-70 - (k : Int)) 0 0 0 0 none 0 0 none 0 0 (by rw [e22, hn2]; omega)
              have kl2 := keeps_lo hI0.fam 0 2 hK2
              obtain ⟨r2, s2, f2⟩ := hI0.cells 2 _ rfl kl2
              have hI2 := hI0.put hF2 kl2 2 v2 (roomV_set O2 2 _ (by omega))
              rw [e22, hn2] at hF2 hI2 eu2
              obtain ⟨x2, y2, ev2, _, _⟩ := hF2.form 0 2
              rw [updG_self] at ev2
              dsimp only at ev2
              subst ev2
              obtain ⟨X2, hX2⟩ : ∃ X2, X2 = W2.setCell ⟨R, 2, none⟩ (.slice x2 (K + k + 1) y2) := ⟨_, rfl⟩
              rw [← hX2] at hI2
              obtain ⟨O3, hO3⟩ : ∃ O3, O3 = updG O2 0 2 ⟨.slice x2 (K + k + 1) y2, K + k + 1, (O 0 2).xs ++ [.string { data := #[] }, .int .i64 (-70 - (k : Int)), .int .i64 0, .int .i64 0, .int .i64 0, .int .i64 0, .slice none 0 0, .slice none 0 0]⟩ := ⟨_, rfl⟩
              rw [← hO3] at hI2
              have e35 : O3 0 5 = O 0 5 := by rw [hO3, updG_ne _ _ (by omega), e25]
              -- a spare channel
              obtain ⟨u5, t5, eu5, _, _⟩ := hI2.fam.form 0 5
              obtain ⟨v5, W5, hr5, hF5, hfr5, hK5⟩ := app_chn hI2.fam (-70 - (k : Int)) (by rw [e35, hn5]; omega)
              have kl5 := keeps_lo hI2.fam 0 5 hK5
              obtain ⟨r5, s5, f5⟩ := hI2.cells 5 _ rfl kl5
              have hI5 := hI2.put hF5 kl5 5 v5 (roomV_set O3 5 _ (by omega))
              rw [e35, hn5] at hF5 hI5 eu5
              obtain ⟨x5, y5, ev5, _, _⟩ := hF5.form 0 5
              rw [updG_self] at ev5
              dsimp only at ev5
              subst ev5
              obtain ⟨X5, hX5⟩ : ∃ X5, X5 = W5.setCell ⟨R, 5, none⟩ (.slice x5 (HL3 + k + 1) y5) := ⟨_, rfl⟩
              rw [← hX5] at hI5
              have HN : Hid (RI w x C A B R lo N (updG O3 0 5 ⟨.slice x5 (HL3 + k + 1) y5, HL3 + k + 1, (O 0 5).xs ++ [.int .i64 (-70 - (k : Int)), .int .i64 0, .int .i64 0]⟩) X5 ∧ RP x j K x.hs (k + 1) (updG O3 0 5 ⟨.slice x5 (HL3 + k + 1) y5, HL3 + k + 1, (O 0 5).xs ++ [.int .i64 (-70 - (k : Int)), .int .i64 0, .int .i64 0]⟩)) := by
                refine ⟨hI5, ?_⟩
                have := hP.spare (s := .slice (some ⟨G, 0, none⟩) 1 1) (uC := .slice x0 (j + k + 1) y0) (uP := .slice x2 (K + k + 1) y2) (uH := .slice x5 (HL3 + k + 1) y5)
                rw [hn0, hn2, hn5] at this
                rw [hO3, hO2, hO1]
                exact this
              change wr.cell? _ = some (O 0 0).u at r0
              change W0.cell? _ = some (O1 0 0).u at s0
              rw [e0, eu0] at s0
              rw [eu0] at r0
              rw [e0, eu0] at hr0
              change X0.cell? _ = some (O2 0 2).u at r2
              change W2.cell? _ = some (O2 0 2).u at s2
              rw [e22, eu2] at r2 s2 hr2
              change X2.cell? _ = some (O3 0 5).u at r5
              change W5.cell? _ = some (O3 0 5).u at s5
              rw [e35, eu5] at r5 s5 hr5
              obtain ⟨m0, hm0⟩ : ∃ m, j + k = m := ⟨_, rfl⟩
              obtain ⟨m2, hm2⟩ : ∃ m, K + k = m := ⟨_, rfl⟩
              obtain ⟨m5, hm5⟩ : ∃ m, HL3 + k = m := ⟨_, rfl⟩
              rw [hm0] at hr0 r0 s0 hX0
              rw [hm2] at hr2 r2 s2 hX2
              rw [hm5] at hr5 r5 s5 hX5
              have sU1 : U1.heap.size = G + 1 := by rw [hU1, hG]; simp
              rw [hU1] at hr0
              have HAP0 : Hid (∀ ty, (Builtin.append_ #[22, 22] ty #[.slice u0 m0 t0, .slice (some ⟨wr.heap.size + 1, 0, none⟩) 1 1]).run Tryz.prog ((wr.alloc (.cells #[.int .i64 (-70 - (k : Int)), .int .i64 0, .int .i64 0] 51)).alloc (.cells #[.slice (some ⟨wr.heap.size, 0, none⟩) 1 1] 43)) = .ok (.slice x0 (m0 + 1) y0) W0) := by
                have es : (wr.alloc (.cells #[.int .i64 (-70 - (k : Int)), .int .i64 0, .int .i64 0] 51)).heap.size = wr.heap.size + 1 := by simp
                rw [es, hG] at hr0
                exact hr0
              have HAP2 : Hid (∀ ty, (Builtin.append_ #[23, 23] ty #[.slice u2 m2 t2, .slice (some ⟨X0.heap.size, 0, none⟩) 1 1]).run Tryz.prog (X0.alloc (.cells #[.string { data := #[] }, .int .i64 (-70 - (k : Int)), .int .i64 0, .int .i64 0, .int .i64 0, .int .i64 0, .slice none 0 0, .slice none 0 0] 47)) = .ok (.slice x2 (m2 + 1) y2) W2) := hr2
              have HAP5 : Hid (∀ ty, (Builtin.append_ #[24, 24] ty #[.slice u5 m5 t5, .slice (some ⟨X2.heap.size, 0, none⟩) 1 1]).run Tryz.prog (X2.alloc (.cells #[.int .i64 (-70 - (k : Int)), .int .i64 0, .int .i64 0] 57)) = .ok (.slice x5 (m5 + 1) y5) W5) := hr5
              have hkz : (k : Int) < 12 := by omega
              clear hr0 hr2 hr5 hF0 hF1 hF2 hF5 hfr0 hfr2 hfr5 hK0 hK2 hK5 kl0 kl2 kl5 hI hI1 hI1' hI0 hI2 hI5 hU1 kU1 hown1 hO4 hG hO1 hO2 hO3 e0 e22 e25 e35 hn0 hn2 hn5 eu0 eu2 eu5 hP hm0 hm2 hm5 sU1 HI5 hk hk2 r0'
              go_wp2_with (at_builtin; go_must (refine wpList_append_run rfl (.tmp 134) (.tmp 139) 22 22 rfl (.slice u0 m0 t0) (.slice (some ⟨wr.heap.size + 1, 0, none⟩) 1 1) (.slice x0 (m0 + 1) y0) W0 rfl rfl HAP0.out ?_; refine Hid.out ?_))
              unfold Hid
              clear r0 HAP0
              go_upto_region 40 with fail
              rw [← hX0]
              clear hX0 s0 f0
              go_wp2_with (at_builtin; go_must (refine wpList_append_run rfl (.tmp 143) (.tmp 147) 23 23 rfl (.slice u2 m2 t2) (.slice (some ⟨X0.heap.size, 0, none⟩) 1 1) (.slice x2 (m2 + 1) y2) W2 rfl rfl HAP2.out ?_; refine Hid.out ?_))
              unfold Hid
              clear r2 HAP2
              go_upto_region 41 with fail
              rw [← hX2]
              clear hX2 s2 f2
              go_wp2_with (at_builtin; go_must (refine wpList_append_run rfl (.tmp 151) (.tmp 155) 24 24 rfl (.slice u5 m5 t5) (.slice (some ⟨X2.heap.size, 0, none⟩) 1 1) (.slice x5 (m5 + 1) y5) W5 rfl rfl HAP5.out ?_; refine Hid.out ?_))
              unfold Hid
              clear r5 HAP5
              go_upto_region 42 with fail
              rw [← hX5]
              clear hX5 s5 f5
              go_wp2
              go_roundw
              case rel => exact ⟨k + 1, _, by omega, by go_num, HN.out.1, HN.out.2⟩
              case measure => simp [intOf]; omega
            · obtain rfl : k = 12 := by omega
              obtain ⟨d0, t0, eu0, hle0, _⟩ := hI.fam.form 0 0
              obtain ⟨d2, t2, eu2, hle2, _⟩ := hI.fam.form 0 2
              obtain ⟨d5, t5, eu5, hle5, _⟩ := hI.fam.form 0 5
              have hn0 : (O 0 0).n = j + 12 := hP.c0n
              have hn2 : (O 0 2).n = K + 12 := hP.c2n
              have hn5 : (O 0 5).n = HL3 + 12 := by rw [hP.c5n, HI5.out.2.2]
              rw [hn0] at eu0 hle0
              rw [hn2] at eu2 hle2
              rw [hn5] at eu5 hle5
              obtain ⟨Z, hZ⟩ : ∃ Z, Z = wr.heap.size := ⟨_, rfl⟩
              obtain ⟨Y1, hY1⟩ : ∃ Y1, Y1 = wr.alloc (.cells #[.int .i64 x.frames, .int .i64 x.major, .int .i64 x.kernel, .int .i64 x.room, .slice x.ca j x.cc, .slice x.pa K x.pc, .slice x.ha HL3 x.hc] 26) := ⟨_, rfl⟩
              have hBZ : Blk Y1 Z [.int .i64 x.frames, .int .i64 x.major, .int .i64 x.kernel, .int .i64 x.room, .slice x.ca j x.cc, .slice x.pa K x.pc, .slice x.ha HL3 x.hc] 26 := by rw [hY1, hZ]; exact Blk.new _ _ _
              have kY1 : Keeps (fun _ => False) wr Y1 := by rw [hY1]; exact (Keeps.refl _ _).alloc _
              have hIY := hI.kept kY1
              have hOut : Out Y1 O Z := hI.fam.outNew kY1 (by omega) hBZ.lt
              obtain ⟨Y2, hY2⟩ : ∃ Y2, Y2 = Y1.setCell ⟨Z, 4, none⟩ (.slice d0 j t0) := ⟨_, rfl⟩
              obtain ⟨Y3, hY3⟩ : ∃ Y3, Y3 = Y2.setCell ⟨Z, 5, none⟩ (.slice d2 K t2) := ⟨_, rfl⟩
              obtain ⟨Y4, hY4⟩ : ∃ Y4, Y4 = Y3.setCell ⟨Z, 6, none⟩ (.slice d5 HL3 t5) := ⟨_, rfl⟩
              have b2 : Blk Y2 Z [.int .i64 x.frames, .int .i64 x.major, .int .i64 x.kernel, .int .i64 x.room, .slice d0 j t0, .slice x.pa K x.pc, .slice x.ha HL3 x.hc] 26 := by rw [hY2]; exact hBZ.setCell 4 _
              have b3 : Blk Y3 Z [.int .i64 x.frames, .int .i64 x.major, .int .i64 x.kernel, .int .i64 x.room, .slice d0 j t0, .slice d2 K t2, .slice x.ha HL3 x.hc] 26 := by rw [hY3]; exact b2.setCell 5 _
              have b4 : Blk Y4 Z [.int .i64 x.frames, .int .i64 x.major, .int .i64 x.kernel, .int .i64 x.room, .slice d0 j t0, .slice d2 K t2, .slice d5 HL3 t5] 26 := by rw [hY4]; exact b3.setCell 6 _
              have k2 : Keeps (fun k => k = Z) Y1 Y2 := by rw [hY2]; exact (Keeps.refl _ _).setCell ⟨Z, 4, none⟩ _ fun _ => rfl
              have k3 : Keeps (fun k => k = Z) Y1 Y3 := k2.trans (by rw [hY3]; exact (Keeps.refl _ _).setCell ⟨Z, 5, none⟩ _ fun _ => rfl) fun _ _ h => h
              have k4 : Keeps (fun k => k = Z) Y1 Y4 := k3.trans (by rw [hY4]; exact (Keeps.refl _ _).setCell ⟨Z, 6, none⟩ _ fun _ => rfl) fun _ _ h => h
              have hsz := hI.fam.siz
              have ho := hI.ord
              have hI2 : RI w x C A B R lo N O Y2 := hIY.inner (hIY.fam.kept k2 fun a b k hk e => hOut.2 a b (by rw [← e]; exact hk)) (k2.mono fun k _ e => by omega) rfl
              have hI3 : RI w x C A B R lo N O Y3 := hIY.inner (hIY.fam.kept k3 fun a b k hk e => hOut.2 a b (by rw [← e]; exact hk)) (k3.mono fun k _ e => by omega) rfl
              have hI4 : RI w x C A B R lo N O Y4 := hIY.inner (hIY.fam.kept k4 fun a b k hk e => hOut.2 a b (by rw [← e]; exact hk)) (k4.mono fun k _ e => by omega) rfl
              have g0 := hI.cfg.cell (i := 0) rfl
              have g1 := hI.cfg.cell (i := 1) rfl
              have g2 := hI.cfg.cell (i := 2) rfl
              have g3 := hI.cfg.cell (i := 3) rfl
              have g4 := hI.cfg.cell (i := 4) rfl
              have g5 := hI.cfg.cell (i := 5) rfl
              have g6 := hI.cfg.cell (i := 6) rfl
              rw [HL.out] at g4
              rw [HPL.out] at g5
              rw [HI5.out.2.2] at g6
              have y4 : Y1.cell? ⟨C, 4, none⟩ = some (.slice x.ca j x.cc) := by have := hIY.cfg.cell (i := 4) rfl; rw [HL.out] at this; exact this
              have y5 : Y2.cell? ⟨C, 5, none⟩ = some (.slice x.pa K x.pc) := by have := hI2.cfg.cell (i := 5) rfl; rw [HPL.out] at this; exact this
              have y6 : Y3.cell? ⟨C, 6, none⟩ = some (.slice x.ha HL3 x.hc) := by have := hI3.cfg.cell (i := 6) rfl; rw [HI5.out.2.2] at this; exact this
              have q4 : Y1.cell? ⟨R, 0, none⟩ = some (.slice d0 (j + 12) t0) := by rw [← eu0]; exact hIY.room.cell (i := 0) rfl
              have q5 : Y2.cell? ⟨R, 2, none⟩ = some (.slice d2 (K + 12) t2) := by rw [← eu2]; exact hI2.room.cell (i := 2) rfl
              have q6 : Y3.cell? ⟨R, 5, none⟩ = some (.slice d5 (HL3 + 12) t5) := by rw [← eu5]; exact hI3.room.cell (i := 5) rfl
              have z4 := hBZ.cell (i := 4) rfl
              have z4f := hBZ.frozen 4
              have z5 := b2.cell (i := 5) rfl
              have z5f := b2.frozen 5
              have z6 := b3.cell (i := 6) rfl
              have z6f := b3.frozen 6
              have h0z : ((j + 12 : Nat) : Int) ≤ t0 := by omega
              have h2z : ((K + 12 : Nat) : Int) ≤ t2 := by omega
              have h5z : ((HL3 + 12 : Nat) : Int) ≤ t5 := by omega
              -- the results
              obtain ⟨Y5, hY5⟩ : ∃ Y5, Y5 = Y4.drew.setRow A #[.int .i64 x.frames, .int .i64 x.major, .int .i64 x.kernel, .int .i64 x.room, .slice d0 j t0, .slice d2 K t2, .slice d5 HL3 t5] := ⟨_, rfl⟩
              obtain ⟨Y6, hY6⟩ : ∃ Y6, Y6 = Y5.setRow B (roomV O).toArray := ⟨_, rfl⟩
              have hrv : (roomV O).toArray.all (·.oneCell') = true := by
                obtain ⟨_, _, e0, _⟩ := hI.fam.form 0 0
                obtain ⟨_, _, e1, _⟩ := hI.fam.form 0 1
                obtain ⟨_, _, e2, _⟩ := hI.fam.form 0 2
                obtain ⟨_, _, e3, _⟩ := hI.fam.form 0 3
                obtain ⟨_, _, e4, _⟩ := hI.fam.form 0 4
                obtain ⟨_, _, e5, _⟩ := hI.fam.form 0 5
                unfold roomV
                rw [e0, e1, e2, e3, e4, e5]
                kernel_rfl
              have HRV : Hid ((roomV O).toArray.all (·.oneCell') = true) := hrv
              clear hrv
              have HEND : Hid ((Blk Y4.drew A zCfg 26 ∧ Blk Y4.drew Z [.int .i64 x.frames, .int .i64 x.major, .int .i64 x.kernel, .int .i64 x.room, .slice d0 j t0, .slice d2 K t2, .slice d5 HL3 t5] 26 ∧ Blk Y4.drew R (roomV O) 36) ∧ (Blk Y5 Z [.int .i64 x.frames, .int .i64 x.major, .int .i64 x.kernel, .int .i64 x.room, .slice d0 j t0, .slice d2 K t2, .slice d5 HL3 t5] 26 ∧ Blk Y5 R (roomV O) 36 ∧ Blk Y5 B zRoom 36) ∧ (Blk Y6 Z [.int .i64 x.frames, .int .i64 x.major, .int .i64 x.kernel, .int .i64 x.room, .slice d0 j t0, .slice d2 K t2, .slice d5 HL3 t5] 26 ∧ Blk Y6 R (roomV O) 36) ∧ Blk Y6 A [.int .i64 x.frames, .int .i64 x.major, .int .i64 x.kernel, .int .i64 x.room, .slice d0 j t0, .slice d2 K t2, .slice d5 HL3 t5] 26 ∧ Blk Y6 B (roomV O) 36 ∧
                  RoomP x w (.returned (.tuple #[.agg #[.int .i64 x.frames, .int .i64 x.major, .int .i64 x.kernel, .int .i64 x.room, .slice d0 j t0, .slice d2 K t2, .slice d5 HL3 t5], .agg (roomV O).toArray])) Y6) := by
                have hI4' := hI4.kept (W := Y4.drew) ((Keeps.refl _ Y4).drew)
                have a1 : Blk Y5 A [.int .i64 x.frames, .int .i64 x.major, .int .i64 x.kernel, .int .i64 x.room, .slice d0 j t0, .slice d2 K t2, .slice d5 HL3 t5] 26 := by rw [hY5]; exact hI4'.resA.setRow _
                have kk5 : Keeps (fun k => k = A) Y4.drew Y5 := by rw [hY5]; exact (Keeps.refl _ _).setRow A _ fun _ => rfl
                have kk6 : Keeps (fun k => k = B) Y5 Y6 := by rw [hY6]; exact (Keeps.refl _ _).setRow B _ fun _ => rfl
                have zA : Z ≠ A := by omega
                have zB : Z ≠ B := by omega
                refine ⟨⟨hI4'.resA, b4.drew, hI4'.room⟩, ⟨b4.drew.kept kk5 zA, hI4'.room.kept kk5 (by omega), hI4'.resB.kept kk5 (by omega)⟩, ⟨(b4.drew.kept kk5 zA).kept kk6 zB, (hI4'.room.kept kk5 (by omega)).kept kk6 (by omega)⟩, a1.kept kk6 (by omega), by rw [hY6]; exact (hI4'.resB.kept kk5 (by omega)).setRow _, O, lo, ?_, (hI4'.fam.keptLo kk5 fun k e => by omega).keptLo kk6 fun k e => by omega, ?_, by omega, (hI4'.keeps.trans kk5 fun b hb e => by omega).trans kk6 fun b hb e => by omega⟩
                · unfold cfgV
                  rw [eu0, eu2, eu5, cut_slice, cut_slice, cut_slice, HL.out, HPL.out, HI5.out.2.2]
                · rw [HL.out, HPL.out]; exact hP
              obtain ⟨m0, hm0⟩ : ∃ m, j + 12 = m := ⟨_, rfl⟩
              obtain ⟨m2, hm2⟩ : ∃ m, K + 12 = m := ⟨_, rfl⟩
              obtain ⟨m5, hm5⟩ : ∃ m, HL3 + 12 = m := ⟨_, rfl⟩
              rw [hm0] at q4 h0z
              rw [hm2] at q5 h2z
              rw [hm5] at q6 h5z
              have w0z : (j : Int) ≤ m0 := by omega
              have w2z : (K : Int) ≤ m2 := by omega
              have w5z : (HL3 : Int) ≤ m5 := by omega
              clear hBZ b2 b3 b4 k2 k3 k4 kY1 hIY hI2 hI3 hI4 hI hOut hsz ho hP hn0 hn2 hn5 eu0 eu2 eu5 hle0 hle2 hle5 hm0 hm2 hm5 hk hk2
              go_upto_region 44 with fail
              rw [← hZ, ← hY1]
              clear hY1 hZ g0 g1 g2 g3 g4 g5 g6
              go_upto_region 45 with fail
              rw [← hY2]
              clear hY2 z4 z4f y4 q4
              go_upto_region 46 with fail
              rw [← hY3]
              clear hY3 z5 z5f y5 q5
              go_upto_region 47 with fail
              rw [← hY4]
              clear hY4 z6 z6f y6 q6
              refine wp_region_held_drew (S := (fun w' => Blk w' Z [.int .i64 x.frames, .int .i64 x.major, .int .i64 x.kernel, .int .i64 x.room, .slice d0 j t0, .slice d2 K t2, .slice d5 HL3 t5] 26 ∧ Blk w' R (roomV O) 36)) Tryz.mixd ⟨HEND.out.1.2.1, HEND.out.1.2.2⟩ (fun hHeld => ?_)
              simp only [List.size_toArray, List.length_cons, List.length_nil, Nat.reduceAdd, Array.replicate_succ, Array.replicate_zero, List.push_toArray, List.append_toArray, List.nil_append, List.cons_append]
              refine tk 0 (.agg #[.int .i64 x.frames, .int .i64 x.major, .int .i64 x.kernel, .int .i64 x.room, .slice d0 j t0, .slice d2 K t2, .slice d5 HL3 t5]) hHeld ?_ (hr := fun w hS => exec_load_row 26 (.tmp 14) rfl Z rfl 26 _ (0, 0) _ hS.1 Tryz.underlying26 rfl Tryz.size26)
              simp only [Act.put, List.setIfInBounds_toArray, List.set_cons_zero, List.set_cons_succ]
              refine tk 1 (.agg (roomV O).toArray) hHeld ?_ (hr := fun w hS => exec_load_row 36 (.tmp 4) rfl R rfl 36 _ (0, 0) _ hS.2 Tryz.underlying36 rfl Tryz.size36)
              simp only [Act.put, List.setIfInBounds_toArray, List.set_cons_zero, List.set_cons_succ]
              refine wpAnyH_ready (rs := [2]) (by kernel_rfl) (by simp) ?_
              refine AllReadyH.cons rfl (fun Kq hK => ?_) AllReadyH.nil
              refine wp_store_row 26 (.tmp 2) (.tmp 181) rfl A #[.int .i64 x.frames, .int .i64 x.major, .int .i64 x.kernel, .int .i64 x.room, .slice d0 j t0, .slice d2 K t2, .slice d5 HL3 t5] (by rfl) (by rfl) 26 _ HEND.out.1.1 Tryz.size26 rfl (by kernel_rfl) ?_
              rw [← hY5]
              refine hK _ _ ⟨HEND.out.2.1.1, HEND.out.2.1.2.1⟩ (fun hHeld => ?_)
              simp only [Act.put, List.setIfInBounds_toArray, List.set_cons_zero, List.set_cons_succ]
              refine wpAnyH_ready (rs := [3]) (by kernel_rfl) (by simp) ?_
              refine AllReadyH.cons rfl (fun Kq hK => ?_) AllReadyH.nil
              refine wp_store_row 36 (.tmp 3) (.tmp 182) rfl B (roomV O).toArray (by rfl) (by rfl) 36 _ HEND.out.2.1.2.2 Tryz.size36 rfl HRV.out ?_
              rw [← hY6]
              refine hK _ _ HEND.out.2.2.1 (fun hHeld => ?_)
              simp only [Act.put, List.setIfInBounds_toArray, List.set_cons_zero, List.set_cons_succ]
              refine wpAnyH_done (by kernel_rfl) ?_ _
              clear hHeld hY5 hY6
              go_wp2
              refine bodyPost_ret (results_two rfl _ _ A B 26 36 _ _ (0, 0) (0, 0) _ _ rfl HEND.out.2.2.2.1 Tryz.underlying26 rfl Tryz.size26 rfl HEND.out.2.2.2.2.1 Tryz.underlying36 rfl Tryz.size36) rfl ?_
              exact HEND.out.2.2.2.2.2
end Go.Proofs.YtjadpbkhfclldaaGreat
