import Derived.Test.YtgookbkaacidpaaGreatDx
import Derived.Test.YtgookbkaacidpaaGreatAo
namespace Go.Proofs.YtgookbkaacidpaaGreat
open Go.RowKit
set_option linter.unusedVariables false
set_option linter.unusedSimpArgs false
set_option maxRecDepth 6000

theorem Tryz.size45 : (Tryz.prog.info? 45).map (·.size) = some 3 := by kernel_rfl
theorem Cfg.Rel.refl (x : Cfg) : x.Rel x := ⟨rfl, rfl, rfl, rfl, rfl, fun j X Y hX hY => by rw [hX] at hY; cases hY; exact List.Perm.refl _, rfl, fun j P Q hP hQ => by rw [hP] at hQ; cases hQ; exact ⟨rfl, rfl, rfl, rfl, rfl, rfl, List.Perm.refl _, rfl⟩, rfl⟩

set_option maxHeartbeats 16000000 in
theorem admitOrder_any (x : Cfg) (one an : Int) (w : World) (N : Nat) (hi : x.In w N) (hN : N ≤ w.heap.size) (hs : Sml x) :
    Calls Tryz.prog 4 #[x.v, .int .i64 one, .int .i64 an] w fun e w' => e = .returned (.bool true) ∧ Keeps (fun _ => False) w w' := by
  have HS : Hid (Sml x) := hs
  have HO1 := One.mk' hi hN
  obtain ⟨W, hW⟩ : ∃ W, W = x.laid w := ⟨_, rfl⟩
  obtain ⟨C, hC⟩ : ∃ C, C = w.heap.size := ⟨_, rfl⟩
  rw [← hW, ← hC] at HO1
  have HO : Hid (One w x C N W) := HO1
  obtain ⟨k0, k1, k2, k3, k4, k5, k6⟩ := HO1.cells
  have HC : Hid (Calls Tryz.prog 7 #[x.v] W (CopD x W)) := CopiedD_any x W N HO1.cin HO1.nn hs
  unfold Cfg.laid at hW
  clear hi hN HO1 hs
  go_enter Tryz.func4, Tryz.ntmps4
  go_upto_region 1 with fail
  rw [← hW, ← hC]
  clear hW hC
  by_cases h1 : one < 0
  · have t1 : decide (one < 0) = true := by rw [decide_eq_true_eq]; exact h1
    go_wp2
    go_ret
    exact ⟨rfl, HO.out.keeps⟩
  have t1 : decide (one < 0) = false := by rw [decide_eq_false_iff_not]; exact h1
  by_cases h2 : an < 0
  · have t2 : decide (an < 0) = true := by rw [decide_eq_true_eq]; exact h2
    go_wp2
    go_ret
    exact ⟨rfl, HO.out.keeps⟩
  have t2 : decide (an < 0) = false := by rw [decide_eq_false_iff_not]; exact h2
  go_wp2_with fail
  refine HC.out.mono ?_
  rintro e w1 ⟨x1, _, _, _, rfl, hE1, hi1, _, _, hK1⟩
  have HCK : Hid (Calls Tryz.prog 6 #[x1.v] w1 (ChkP x1 w1)) := Check_any x1 w1 _ hi1 (Nat.le_refl _)
  have HO2 : Hid (One w x C N w1 ∧ x.Rel x1) := ⟨HO.out.kept hK1, hE1.rel⟩
  clear hE1 hi1 hK1 HC k0 k1 k2 k3 k4 k5 k6 t1 t2
  go_wp2_with fail
  refine HCK.out.mono ?_
  rintro e w2 ⟨rfl, hK2⟩
  obtain ⟨F, hF⟩ : ∃ F, chk x1 = F := ⟨_, rfl⟩
  have HF : Hid (chk x1 = F) := hF
  rw [hF]
  obtain ⟨n1, fa, fb⟩ := F
  dsimp only
  obtain ⟨W3, hW3⟩ : ∃ W3, W3 = w2.alloc (.cells #[.int .i64 fa, .int .i64 fb] 29) := ⟨_, rfl⟩
  obtain ⟨D, hD⟩ : ∃ D, D = w2.heap.size := ⟨_, rfl⟩
  have HO4 : Hid (One w x C N W3) := by rw [hW3]; exact (HO2.out.1.kept hK2).kept ((Keeps.refl _ _).alloc _)
  clear hK2 hF HCK
  go_upto_region 4 with fail
  rw [← hW3, ← hD]
  clear hW3 hD
  obtain ⟨k0, k1, k2, k3, k4, k5, k6⟩ := HO4.out.cells
  have HC : Hid (Calls Tryz.prog 7 #[x.v] W3 (CopD x W3)) := CopiedD_any x W3 N HO4.out.cin HO4.out.nn HS.out
  go_wp2_with fail
  refine HC.out.mono ?_
  rintro e w5 ⟨x2, M, M2, K, rfl, hE2, hi2, hown, hb, hK5⟩
  obtain ⟨W6, hW6⟩ : ∃ W6, W6 = w5.alloc (.cells #[.int .i64 x2.frames, .int .i64 x2.major, .int .i64 x2.kernel, .int .i64 x2.room, .slice x2.ca x2.cs.length x2.cc, .slice x2.pa x2.ps.length x2.pc, .slice x2.ha x2.hs.length x2.hc] 26) := ⟨_, rfl⟩
  obtain ⟨B, hB⟩ : ∃ B, B = w5.heap.size := ⟨_, rfl⟩
  have HST : Hid (St w x x2 C B M M2 K N x2 W6) := by
    have hc := HO4.out.cfg.lt
    have hbx : Blk W6 B x2.vs 26 := by rw [hW6, hB]; exact Blk.new _ _ _
    have ka : Keeps (fun _ => False) w5 W6 := by rw [hW6]; exact (Keeps.refl _ _).alloc _
    have o := hown
    exact ⟨(HO4.out.kept hK5).kept ka, hbx, ⟨o.ca, o.pa, o.cc, o.pc, o.row.kept ka fun h => h, o.row2.kept ka fun h => h, fun X hX => ⟨(o.win X hX).1.kept ka fun _ _ _ h => h, (o.win X hX).2⟩, fun z hz => ⟨(o.reg z hz).1.kept ka fun _ _ _ h => h, (o.reg z hz).2.1.kept ka fun _ _ _ h => h, (o.reg z hz).2.2⟩, o.ord, o.zord, o.zself, o.hb, o.lo, o.kh⟩, hi2.rst, hi2.hseg.kept ka fun _ _ _ h => h, Cfg.Rel.refl x2, by omega, by omega⟩
  have HR2 : Hid (x.Rel x2) := hE2.rel
  obtain ⟨PL, hPL⟩ : ∃ PL, x2.ps.length = PL := ⟨_, rfl⟩
  have HPLn : Hid (x2.ps.length = PL) := hPL
  obtain ⟨CL, hCL⟩ : ∃ CL, x2.cs.length = CL := ⟨_, rfl⟩
  have HCLn : Hid (x2.cs.length = CL) := hCL
  have hPb : (PL : Int) ≤ 9223372036854775807 := by have := hown.pc; have := hi2.plen; unfold maxLen at this; omega
  have hCb : (CL : Int) ≤ 9223372036854775807 := by have := hown.cc; have := hi2.clen; unfold maxLen at this; omega
  obtain ⟨a0, ha0⟩ : ∃ a0 : Nat, one = a0 := ⟨one.toNat, by omega⟩
  obtain ⟨b0, hb0⟩ : ∃ b0 : Nat, an = b0 := ⟨an.toNat, by omega⟩
  subst ha0
  subst hb0
  clear hE2 hi2 hown hb hK5 HC k0 k1 k2 k3 k4 k5 k6 hPL hCL h1 h2
  go_upto_region 5 with fail
  rw [← hW6, ← hB]
  clear hW6 hB
  go_wp2
  go_loopw [10] (fun i wr => ∃ (p : Nat) (y : Cfg), p ≤ PL ∧ i = .int .i64 p ∧ St w x x2 C B M M2 K N y wr) (fun i _ => PL - (intOf i).toNat)
  case atStart => exact ⟨0, x2, by omega, rfl, HST.out⟩
  case round =>
    obtain ⟨p, y, hp, rfl, hI⟩ := hrel
    have HI : Hid (St w x x2 C B M M2 K N y wr) := hI
    have HLN : Hid (y.ps.length = PL) := by refine Hid.mkq ?_; rw [hI.rel.plen]; exact HPLn.out
    obtain ⟨wz, hwz⟩ : ∃ wz, wz = wr := ⟨_, rfl⟩
    subst hwz
    have b5 : wz.cell? ⟨B, 5, none⟩ = some (.slice (some ⟨M2, 0, none⟩) PL PL) := by have := hI.box.cell (i := 5) rfl; rw [hI.own.pa, hI.own.pc, HLN.out] at this; exact this
    by_cases hlt : p < PL
    · obtain ⟨z, hz⟩ : ∃ z, y.ps[p]? = some z := ⟨_, List.getElem?_eq_getElem (by have := HLN.out; omega)⟩
      have HZ : Hid (y.ps[p]? = some z) := hz
      obtain ⟨RL, hRL⟩ : ∃ RL, z.rs.length = RL := ⟨_, rfl⟩
      obtain ⟨rc, hrc⟩ : ∃ rc, z.rc = rc := ⟨_, rfl⟩
      have p6 : wz.cell? ⟨M2, p * 8 + 6, none⟩ = some (.slice z.ra RL rc) := by have := hI.own.row2.cell (flat_get ePar y.ps p z 6 _ hz rfl); rw [hRL, hrc] at this; exact this
      have hrb : (RL : Int) ≤ rc ∧ (rc : Int) ≤ 9223372036854775807 := by have := (hI.rst.rl z (List.mem_of_getElem? hz)).1; rw [hRL, hrc] at this; unfold maxLen at this; omega
      by_cases h0 : RL = 0
      · subst h0
        clear hI hz hRL hrc
        go_wp2
        go_roundw
        case rel => exact ⟨p + 1, y, by omega, by go_num, HI.out⟩
        case measure => simp [intOf]; omega
      · obtain ⟨g, junk, hg, hB⟩ : ∃ g junk, z.ra = some ⟨g, 0, none⟩ ∧ Blk wz g (z.rs.flatMap eRgn.vs ++ junk) 39 := by
          rcases (hI.own.reg z (List.mem_of_getElem? hz)).1 with h | h
          · rw [h] at hRL; simp at hRL; omega
          · exact h
        obtain ⟨ls, hls⟩ : ∃ ls, z.rs = ls := ⟨_, rfl⟩
        have HEQS : Hid (z.rs = ls ∧ z.ra = some ⟨g, 0, none⟩) := ⟨hls, hg⟩
        rw [hls] at hB hRL
        rw [hg] at p6
        obtain ⟨ja, hja⟩ : ∃ ja, a0 % RL = ja := ⟨_, rfl⟩
        obtain ⟨jb, hjb⟩ : ∃ jb, b0 % RL = jb := ⟨_, rfl⟩
        have hja1 : ja < RL := by rw [← hja]; exact Nat.mod_lt _ (by omega)
        have hjb1 : jb < RL := by rw [← hjb]; exact Nat.mod_lt _ (by omega)
        have qa : ((a0 : Int)).tmod (RL : Int) = (ja : Int) := by rw [← hja]; exact (Int.ofNat_tmod a0 RL).symm
        have qb : ((b0 : Int)).tmod (RL : Int) = (jb : Int) := by rw [← hjb]; exact (Int.ofNat_tmod b0 RL).symm
        have q0 : ((RL : Int) == 0) = false := by simp; omega
        obtain ⟨u, hu⟩ : ∃ u, ls[ja]? = some u := ⟨_, List.getElem?_eq_getElem (by omega)⟩
        obtain ⟨v, hv⟩ : ∃ v, ls[jb]? = some v := ⟨_, List.getElem?_eq_getElem (by omega)⟩
        have HUU : Hid (ls[ja]? = some u) := hu
        have HV : Hid (ls[jb]? = some v) := hv
        have HLEN : Hid (ls.length = RL ∧ ja < RL ∧ jb < RL) := ⟨hRL, hja1, hjb1⟩
        have hgetS : ∀ (l : List Rgn) (j : Nat) (t : Rgn), l[j]? = some t → ∀ (i : Nat) (c : Value), (Rgn.vs t)[i]? = some c → (l.flatMap eRgn.vs ++ junk)[j * 4 + i]? = some c := fun l j t ht i c hc => by
          have h5 : (l.flatMap eRgn.vs)[j * 4 + i]? = some c := flat_get eRgn l j t i c ht hc
          rw [List.getElem?_append_left (List.getElem?_eq_some_iff.1 h5).1]
          exact h5
        have hgetS0 : ∀ (l : List Rgn) (j : Nat) (t : Rgn), l[j]? = some t → (l.flatMap eRgn.vs ++ junk)[j * 4]? = some (.int .i64 t.page) := fun l j t ht => hgetS l j t ht 0 _ rfl
        have hget := hgetS ls
        have hget0 := hgetS0 ls
        have u0 : wz.cell? ⟨g, ja * 4, none⟩ = some (.int .i64 u.page) := hB.cell (hget0 ja u HUU.out)
        have u1 : wz.cell? ⟨g, ja * 4 + 1, none⟩ = some (.int .i64 u.pages) := hB.cell (hget ja u HUU.out 1 _ rfl)
        have u2 : wz.cell? ⟨g, ja * 4 + 2, none⟩ = some (.int .i64 u.frame) := hB.cell (hget ja u HUU.out 2 _ rfl)
        have u3 : wz.cell? ⟨g, ja * 4 + 3, none⟩ = some (.int .i64 u.rights) := hB.cell (hget ja u HUU.out 3 _ rfl)
        obtain ⟨U1, hU1⟩ : ∃ U1, U1 = wz.alloc (.cells #[.int .i64 u.page, .int .i64 u.pages, .int .i64 u.frame, .int .i64 u.rights] 39) := ⟨_, rfl⟩
        obtain ⟨Q, hQ⟩ : ∃ Q, Q = wz.heap.size := ⟨_, rfl⟩
        have HU1 : Hid (Keeps (fun _ => False) wz U1 ∧ Blk U1 g (ls.flatMap eRgn.vs ++ junk) 39 ∧ Blk U1 Q [.int .i64 u.page, .int .i64 u.pages, .int .i64 u.frame, .int .i64 u.rights] 39 ∧ g < Q) := by
          rw [hU1, hQ]
          exact ⟨(Keeps.refl _ _).alloc _, hB.alloc _, Blk.new _ _ _, hB.lt⟩
        have HGS : Hid ((∀ (l : List Rgn) (j : Nat) (t : Rgn), l[j]? = some t → ∀ (i : Nat) (c : Value), (Rgn.vs t)[i]? = some c → (l.flatMap eRgn.vs ++ junk)[j * 4 + i]? = some c) ∧ (∀ (l : List Rgn) (j : Nat) (t : Rgn), l[j]? = some t → (l.flatMap eRgn.vs ++ junk)[j * 4]? = some (.int .i64 t.page))) := ⟨hgetS, hgetS0⟩
        have HFS : Hid (∀ (l : List Rgn) (a : Nat) (t : Rgn), a < l.length → (l.flatMap eRgn.vs ++ junk).take (a * 4) ++ Rgn.vs t ++ (l.flatMap eRgn.vs ++ junk).drop (a * 4 + (Rgn.vs t).length) = (l.set a t).flatMap eRgn.vs ++ junk) := fun l a t h => flat_set eRgn l junk a t h
        clear hI hz hRL hrc hg hB hls hja hjb hu hv hgetS hgetS0 hget hget0
        go_upto_region 11 with fail
        rw [← hU1, ← hQ]
        clear hU1 hQ b5 p6 u0 u1 u2 u3
        have hgetS := HGS.out.1
        have hgetS0 := HGS.out.2
        have hget := hgetS ls
        have hget0 := hgetS0 ls
        refine wp_region_held_drew (S := (fun w' => w'.cell? ⟨g, jb * 4, none⟩ = some (.int .i64 v.page) ∧ w'.cell? ⟨g, jb * 4 + 1, none⟩ = some (.int .i64 v.pages) ∧ w'.cell? ⟨g, jb * 4 + 2, none⟩ = some (.int .i64 v.frame) ∧ w'.cell? ⟨g, jb * 4 + 3, none⟩ = some (.int .i64 v.rights))) Tryz.mixd ⟨(HU1.out.2.1.kept ((Keeps.refl (fun _ => False) _).drew) fun h => h).cell (hget0 jb v HV.out), (HU1.out.2.1.kept ((Keeps.refl (fun _ => False) _).drew) fun h => h).cell (hget jb v HV.out 1 _ rfl), (HU1.out.2.1.kept ((Keeps.refl (fun _ => False) _).drew) fun h => h).cell (hget jb v HV.out 2 _ rfl), (HU1.out.2.1.kept ((Keeps.refl (fun _ => False) _).drew) fun h => h).cell (hget jb v HV.out 3 _ rfl)⟩ (fun hHeld => ?_)
        simp only [List.size_toArray, List.length_cons, List.length_nil, Nat.reduceAdd, Array.replicate_succ, Array.replicate_zero, List.push_toArray, List.append_toArray, List.nil_append, List.cons_append]
        refine wpAnyH_take (i := 0) (oi := { dst := some 55, op := Op.move (Operand.tmp 11), type := 34, pos := "law.go:161", after := #[], guard := none }) (v := .slice (some ⟨g, 0, none⟩) RL rc) rfl (by kernel_rfl) (by kernel_rfl) (by kernel_rfl) (fun _ _ _ h => h) (Or.inl ⟨by kernel_rfl, by (intro w hSw; (try dsimp only at hSw); go_simp)⟩) hHeld ?_
        simp only [Act.put, List.setIfInBounds_toArray, List.set_cons_zero, List.set_cons_succ]
        refine wpAnyH_take (i := 1) (oi := { dst := some 56, op := Op.move (Operand.tmp 1), type := 3, pos := "law.go:161", after := #[], guard := none }) (v := .int .i64 (a0 : Int)) rfl (by kernel_rfl) (by kernel_rfl) (by kernel_rfl) (fun _ _ _ h => h) (Or.inl ⟨by kernel_rfl, by (intro w hSw; (try dsimp only at hSw); go_simp)⟩) hHeld ?_
        simp only [Act.put, List.setIfInBounds_toArray, List.set_cons_zero, List.set_cons_succ]
        refine wpAnyH_take (i := 2) (oi := { dst := some 57, op := Op.move (Operand.tmp 11), type := 34, pos := "law.go:161", after := #[], guard := none }) (v := .slice (some ⟨g, 0, none⟩) RL rc) rfl (by kernel_rfl) (by kernel_rfl) (by kernel_rfl) (fun _ _ _ h => h) (Or.inl ⟨by kernel_rfl, by (intro w hSw; (try dsimp only at hSw); go_simp)⟩) hHeld ?_
        simp only [Act.put, List.setIfInBounds_toArray, List.set_cons_zero, List.set_cons_succ]
        refine wpAnyH_take (i := 3) (oi := { dst := some 58, op := Op.call { callee := Callee.builtin Builtin.len, args := #[Operand.tmp 57], argTypes := #[34] }, type := 3, pos := "law.go:161", after := #[{ on := 2, ground := Ground.data }], guard := none }) (v := .int .i64 (RL : Int)) rfl (by kernel_rfl) (by kernel_rfl) (by kernel_rfl) (fun _ _ _ h => h) (Or.inl ⟨by kernel_rfl, by (intro w hSw; (try dsimp only at hSw); go_simp)⟩) hHeld ?_
        simp only [Act.put, List.setIfInBounds_toArray, List.set_cons_zero, List.set_cons_succ]
        refine wpAnyH_take (i := 4) (oi := { dst := some 59, op := Op.binOp BinOp.rem 3 (Operand.tmp 56) (Operand.tmp 58) 3, type := 3, pos := "law.go:161", after := #[{ on := 1, ground := Ground.data }, { on := 3, ground := Ground.data }], guard := none }) (v := .int .i64 (ja : Int)) rfl (by kernel_rfl) (by kernel_rfl) (by kernel_rfl) (fun _ _ _ h => h) (Or.inl ⟨by kernel_rfl, by (intro w hSw; (try dsimp only at hSw); go_simp)⟩) hHeld ?_
        simp only [Act.put, List.setIfInBounds_toArray, List.set_cons_zero, List.set_cons_succ]
        refine wpAnyH_take (i := 5) (oi := { dst := some 60, op := Op.move (Operand.tmp 11), type := 34, pos := "law.go:161", after := #[], guard := none }) (v := .slice (some ⟨g, 0, none⟩) RL rc) rfl (by kernel_rfl) (by kernel_rfl) (by kernel_rfl) (fun _ _ _ h => h) (Or.inl ⟨by kernel_rfl, by (intro w hSw; (try dsimp only at hSw); go_simp)⟩) hHeld ?_
        simp only [Act.put, List.setIfInBounds_toArray, List.set_cons_zero, List.set_cons_succ]
        refine wpAnyH_take (i := 6) (oi := { dst := some 61, op := Op.move (Operand.tmp 2), type := 3, pos := "law.go:161", after := #[], guard := none }) (v := .int .i64 (b0 : Int)) rfl (by kernel_rfl) (by kernel_rfl) (by kernel_rfl) (fun _ _ _ h => h) (Or.inl ⟨by kernel_rfl, by (intro w hSw; (try dsimp only at hSw); go_simp)⟩) hHeld ?_
        simp only [Act.put, List.setIfInBounds_toArray, List.set_cons_zero, List.set_cons_succ]
        refine wpAnyH_take (i := 7) (oi := { dst := some 62, op := Op.move (Operand.tmp 11), type := 34, pos := "law.go:161", after := #[], guard := none }) (v := .slice (some ⟨g, 0, none⟩) RL rc) rfl (by kernel_rfl) (by kernel_rfl) (by kernel_rfl) (fun _ _ _ h => h) (Or.inl ⟨by kernel_rfl, by (intro w hSw; (try dsimp only at hSw); go_simp)⟩) hHeld ?_
        simp only [Act.put, List.setIfInBounds_toArray, List.set_cons_zero, List.set_cons_succ]
        refine wpAnyH_take (i := 8) (oi := { dst := some 63, op := Op.call { callee := Callee.builtin Builtin.len, args := #[Operand.tmp 62], argTypes := #[34] }, type := 3, pos := "law.go:161", after := #[{ on := 7, ground := Ground.data }], guard := none }) (v := .int .i64 (RL : Int)) rfl (by kernel_rfl) (by kernel_rfl) (by kernel_rfl) (fun _ _ _ h => h) (Or.inl ⟨by kernel_rfl, by (intro w hSw; (try dsimp only at hSw); go_simp)⟩) hHeld ?_
        simp only [Act.put, List.setIfInBounds_toArray, List.set_cons_zero, List.set_cons_succ]
        refine wpAnyH_take (i := 9) (oi := { dst := some 64, op := Op.binOp BinOp.rem 3 (Operand.tmp 61) (Operand.tmp 63) 3, type := 3, pos := "law.go:161", after := #[{ on := 6, ground := Ground.data }, { on := 8, ground := Ground.data }], guard := none }) (v := .int .i64 (jb : Int)) rfl (by kernel_rfl) (by kernel_rfl) (by kernel_rfl) (fun _ _ _ h => h) (Or.inl ⟨by kernel_rfl, by (intro w hSw; (try dsimp only at hSw); go_simp)⟩) hHeld ?_
        simp only [Act.put, List.setIfInBounds_toArray, List.set_cons_zero, List.set_cons_succ]
        refine wpAnyH_take (i := 10) (oi := { dst := some 65, op := Op.indexAddr 34 (Operand.tmp 60) (Operand.tmp 64), type := 0, pos := "law.go:161", after := #[{ on := 5, ground := Ground.data }, { on := 9, ground := Ground.data }], guard := none }) (v := .pointer (some ⟨g, jb * 4, none⟩)) rfl (by kernel_rfl) (by kernel_rfl) (by kernel_rfl) (fun _ _ _ h => h) (Or.inl ⟨by kernel_rfl, by (intro w hSw; (try dsimp only at hSw); go_simp)⟩) hHeld ?_
        simp only [Act.put, List.setIfInBounds_toArray, List.set_cons_zero, List.set_cons_succ]
        refine wpAnyH_take (i := 11) (oi := { dst := some 66, op := Op.load 39 (Operand.tmp 65), type := 39, pos := "law.go:161", after := #[{ on := 10, ground := Ground.data }], guard := none }) (v := .agg #[.int .i64 v.page, .int .i64 v.pages, .int .i64 v.frame, .int .i64 v.rights]) rfl (by kernel_rfl) (by kernel_rfl) (by kernel_rfl) (fun _ _ _ h => h) (Or.inl ⟨by kernel_rfl, by (intro w hSw; (try dsimp only at hSw); go_simp)⟩) hHeld ?_
        simp only [Act.put, List.setIfInBounds_toArray, List.set_cons_zero, List.set_cons_succ]
        refine wpAnyH_take (i := 12) (oi := { dst := some 67, op := Op.indexAddr 34 (Operand.tmp 55) (Operand.tmp 59), type := 0, pos := "law.go:161", after := #[{ on := 0, ground := Ground.data }, { on := 4, ground := Ground.data }, { on := 0, ground := Ground.phase }, { on := 1, ground := Ground.phase }, { on := 2, ground := Ground.phase }, { on := 3, ground := Ground.phase }, { on := 4, ground := Ground.phase }, { on := 5, ground := Ground.phase }, { on := 6, ground := Ground.phase }, { on := 7, ground := Ground.phase }, { on := 8, ground := Ground.phase }, { on := 9, ground := Ground.phase }, { on := 10, ground := Ground.phase }, { on := 11, ground := Ground.phase }], guard := none }) (v := .pointer (some ⟨g, ja * 4, none⟩)) rfl (by kernel_rfl) (by kernel_rfl) (by kernel_rfl) (fun _ _ _ h => h) (Or.inl ⟨by kernel_rfl, by (intro w hSw; (try dsimp only at hSw); go_simp)⟩) hHeld ?_
        simp only [Act.put, List.setIfInBounds_toArray, List.set_cons_zero, List.set_cons_succ]
        refine wpAnyH_ready (rs := [13]) (by kernel_rfl) (by simp) ?_
        refine AllReadyH.cons (o := { dst := none, op := Op.store 39 (Operand.tmp 67) (Operand.tmp 66), type := 0, pos := "law.go:161", after := #[{ on := 12, ground := Ground.data }, { on := 11, ground := Ground.data }, { on := 0, ground := Ground.phase }, { on := 1, ground := Ground.phase }, { on := 2, ground := Ground.phase }, { on := 3, ground := Ground.phase }, { on := 4, ground := Ground.phase }, { on := 5, ground := Ground.phase }, { on := 6, ground := Ground.phase }, { on := 7, ground := Ground.phase }, { on := 8, ground := Ground.phase }, { on := 9, ground := Ground.phase }, { on := 10, ground := Ground.phase }, { on := 11, ground := Ground.phase }], guard := none }) rfl (fun Kq hK => ?_) AllReadyH.nil
        refine wp_store_mid 39 _ _ rfl g (ja * 4) (Rgn.vs v) (by rfl) (by rfl) 39 _ (HU1.out.2.1.kept ((Keeps.refl (fun _ => False) _).drew) fun h => h) Tryz.size39 (by rw [List.length_append, flat_len eRgn]; have := HLEN.out; show ja * 4 + 4 ≤ _ * 4 + _; omega) (fun u hu => plainRgn.one v u hu) ?_
        rw [HFS.out ls ja v (by have := HLEN.out; omega)]
        obtain ⟨U2, hU2⟩ : ∃ U2, U2 = U1.drew.setRow g ((ls.set ja v).flatMap eRgn.vs ++ junk).toArray := ⟨_, rfl⟩
        have hB2 : Blk U2 g ((ls.set ja v).flatMap eRgn.vs ++ junk) 39 := by rw [hU2]; exact (HU1.out.2.1.kept ((Keeps.refl (fun _ => False) _).drew) fun h => h).setRow _
        have k2 : Keeps (fun b => b = g) U1 U2 := by rw [hU2]; exact (((Keeps.refl (fun b => b = g) _).drew).trans ((Keeps.refl (fun b => b = g) _).setRow _ _ fun _ => rfl) fun _ _ h => h)
        have hgQ := HU1.out.2.2.2
        have HU2 : Hid (Keeps (fun b => b = g) wz U2 ∧ Blk U2 g ((ls.set ja v).flatMap eRgn.vs ++ junk) 39 ∧ Blk U2 Q [.int .i64 u.page, .int .i64 u.pages, .int .i64 u.frame, .int .i64 u.rights] 39) := ⟨(HU1.out.1.mono fun _ _ h => h.elim).trans k2 fun _ _ h => h, hB2, HU1.out.2.2.1.kept k2 (by omega)⟩
        have hS2 : U2.cell? ⟨g, jb * 4, none⟩ = some (.int .i64 v.page) ∧ U2.cell? ⟨g, jb * 4 + 1, none⟩ = some (.int .i64 v.pages) ∧ U2.cell? ⟨g, jb * 4 + 2, none⟩ = some (.int .i64 v.frame) ∧ U2.cell? ⟨g, jb * 4 + 3, none⟩ = some (.int .i64 v.rights) := by
          have hq : (ls.set ja v)[jb]? = some v := by
            rw [List.getElem?_set]
            split
            · rw [if_pos (by have := HLEN.out; omega)]
            · exact HV.out
          exact ⟨hB2.cell (hgetS0 _ jb v hq), hB2.cell (hgetS _ jb v hq 1 _ rfl), hB2.cell (hgetS _ jb v hq 2 _ rfl), hB2.cell (hgetS _ jb v hq 3 _ rfl)⟩
        rw [← hU2]
        clear hU2 hB2 k2 hgQ
        refine hK.out _ _ hS2 (fun hHeld => ?_)
        simp only [Act.put, List.setIfInBounds_toArray, List.set_cons_zero, List.set_cons_succ]
        refine wpAnyH_done (by kernel_rfl) ?_ _
        clear hHeld hS2 hK
        go_wp2
        refine wp_region_held_drew (S := (fun w' => w'.cell? ⟨Q, 0, none⟩ = some (.int .i64 u.page) ∧ w'.cell? ⟨Q, 1, none⟩ = some (.int .i64 u.pages) ∧ w'.cell? ⟨Q, 2, none⟩ = some (.int .i64 u.frame) ∧ w'.cell? ⟨Q, 3, none⟩ = some (.int .i64 u.rights))) Tryz.mixd ⟨(HU2.out.2.2.kept ((Keeps.refl (fun _ => False) _).drew) fun h => h).cell (i := 0) rfl, (HU2.out.2.2.kept ((Keeps.refl (fun _ => False) _).drew) fun h => h).cell (i := 1) rfl, (HU2.out.2.2.kept ((Keeps.refl (fun _ => False) _).drew) fun h => h).cell (i := 2) rfl, (HU2.out.2.2.kept ((Keeps.refl (fun _ => False) _).drew) fun h => h).cell (i := 3) rfl⟩ (fun hHeld => ?_)
        simp only [List.size_toArray, List.length_cons, List.length_nil, Nat.reduceAdd, Array.replicate_succ, Array.replicate_zero, List.push_toArray, List.append_toArray, List.nil_append, List.cons_append]
        refine wpAnyH_take (i := 0) (oi := { dst := some 68, op := Op.move (Operand.tmp 11), type := 34, pos := "law.go:162", after := #[], guard := none }) (v := .slice (some ⟨g, 0, none⟩) RL rc) rfl (by kernel_rfl) (by kernel_rfl) (by kernel_rfl) (fun _ _ _ h => h) (Or.inl ⟨by kernel_rfl, by (intro w hSw; (try dsimp only at hSw); go_simp)⟩) hHeld ?_
        simp only [Act.put, List.setIfInBounds_toArray, List.set_cons_zero, List.set_cons_succ]
        refine wpAnyH_take (i := 1) (oi := { dst := some 69, op := Op.move (Operand.tmp 2), type := 3, pos := "law.go:162", after := #[], guard := none }) (v := .int .i64 (b0 : Int)) rfl (by kernel_rfl) (by kernel_rfl) (by kernel_rfl) (fun _ _ _ h => h) (Or.inl ⟨by kernel_rfl, by (intro w hSw; (try dsimp only at hSw); go_simp)⟩) hHeld ?_
        simp only [Act.put, List.setIfInBounds_toArray, List.set_cons_zero, List.set_cons_succ]
        refine wpAnyH_take (i := 2) (oi := { dst := some 70, op := Op.move (Operand.tmp 11), type := 34, pos := "law.go:162", after := #[], guard := none }) (v := .slice (some ⟨g, 0, none⟩) RL rc) rfl (by kernel_rfl) (by kernel_rfl) (by kernel_rfl) (fun _ _ _ h => h) (Or.inl ⟨by kernel_rfl, by (intro w hSw; (try dsimp only at hSw); go_simp)⟩) hHeld ?_
        simp only [Act.put, List.setIfInBounds_toArray, List.set_cons_zero, List.set_cons_succ]
        refine wpAnyH_take (i := 3) (oi := { dst := some 71, op := Op.call { callee := Callee.builtin Builtin.len, args := #[Operand.tmp 70], argTypes := #[34] }, type := 3, pos := "law.go:162", after := #[{ on := 2, ground := Ground.data }], guard := none }) (v := .int .i64 (RL : Int)) rfl (by kernel_rfl) (by kernel_rfl) (by kernel_rfl) (fun _ _ _ h => h) (Or.inl ⟨by kernel_rfl, by (intro w hSw; (try dsimp only at hSw); go_simp)⟩) hHeld ?_
        simp only [Act.put, List.setIfInBounds_toArray, List.set_cons_zero, List.set_cons_succ]
        refine wpAnyH_take (i := 4) (oi := { dst := some 72, op := Op.binOp BinOp.rem 3 (Operand.tmp 69) (Operand.tmp 71) 3, type := 3, pos := "law.go:162", after := #[{ on := 1, ground := Ground.data }, { on := 3, ground := Ground.data }], guard := none }) (v := .int .i64 (jb : Int)) rfl (by kernel_rfl) (by kernel_rfl) (by kernel_rfl) (fun _ _ _ h => h) (Or.inl ⟨by kernel_rfl, by (intro w hSw; (try dsimp only at hSw); go_simp)⟩) hHeld ?_
        simp only [Act.put, List.setIfInBounds_toArray, List.set_cons_zero, List.set_cons_succ]
        refine wpAnyH_take (i := 5) (oi := { dst := some 73, op := Op.load 39 (Operand.tmp 12), type := 39, pos := "law.go:162", after := #[], guard := none }) (v := .agg #[.int .i64 u.page, .int .i64 u.pages, .int .i64 u.frame, .int .i64 u.rights]) rfl (by kernel_rfl) (by kernel_rfl) (by kernel_rfl) (fun _ _ _ h => h) (Or.inl ⟨by kernel_rfl, by (intro w hSw; (try dsimp only at hSw); go_simp)⟩) hHeld ?_
        simp only [Act.put, List.setIfInBounds_toArray, List.set_cons_zero, List.set_cons_succ]
        refine wpAnyH_take (i := 6) (oi := { dst := some 74, op := Op.indexAddr 34 (Operand.tmp 68) (Operand.tmp 72), type := 0, pos := "law.go:162", after := #[{ on := 0, ground := Ground.data }, { on := 4, ground := Ground.data }, { on := 0, ground := Ground.phase }, { on := 1, ground := Ground.phase }, { on := 2, ground := Ground.phase }, { on := 3, ground := Ground.phase }, { on := 4, ground := Ground.phase }, { on := 5, ground := Ground.phase }], guard := none }) (v := .pointer (some ⟨g, jb * 4, none⟩)) rfl (by kernel_rfl) (by kernel_rfl) (by kernel_rfl) (fun _ _ _ h => h) (Or.inl ⟨by kernel_rfl, by (intro w hSw; (try dsimp only at hSw); go_simp)⟩) hHeld ?_
        simp only [Act.put, List.setIfInBounds_toArray, List.set_cons_zero, List.set_cons_succ]
        refine wpAnyH_ready (rs := [7]) (by kernel_rfl) (by simp) ?_
        refine AllReadyH.cons (o := { dst := none, op := Op.store 39 (Operand.tmp 74) (Operand.tmp 73), type := 0, pos := "law.go:162", after := #[{ on := 6, ground := Ground.data }, { on := 5, ground := Ground.data }, { on := 0, ground := Ground.phase }, { on := 1, ground := Ground.phase }, { on := 2, ground := Ground.phase }, { on := 3, ground := Ground.phase }, { on := 4, ground := Ground.phase }, { on := 5, ground := Ground.phase }], guard := none }) rfl (fun Kq hK => ?_) AllReadyH.nil
        refine wp_store_mid 39 _ _ rfl g (jb * 4) (Rgn.vs u) (by rfl) (by rfl) 39 _ (HU2.out.2.1.kept ((Keeps.refl (fun _ => False) _).drew) fun h => h) Tryz.size39 (by rw [List.length_append, flat_len eRgn, List.length_set]; have := HLEN.out; show jb * 4 + 4 ≤ _ * 4 + _; omega) (fun u' hu' => plainRgn.one u u' hu') ?_
        rw [HFS.out (ls.set ja v) jb u (by rw [List.length_set]; have := HLEN.out; omega)]
        obtain ⟨U3, hU3⟩ : ∃ U3, U3 = U2.drew.setRow g (((ls.set ja v).set jb u).flatMap eRgn.vs ++ junk).toArray := ⟨_, rfl⟩
        have hB3 : Blk U3 g (((ls.set ja v).set jb u).flatMap eRgn.vs ++ junk) 39 := by rw [hU3]; exact (HU2.out.2.1.kept ((Keeps.refl (fun _ => False) _).drew) fun h => h).setRow _
        have k3 : Keeps (fun b => b = g) U2 U3 := by rw [hU3]; exact (((Keeps.refl (fun b => b = g) _).drew).trans ((Keeps.refl (fun b => b = g) _).setRow _ _ fun _ => rfl) fun _ _ h => h)
        have hQ3 : Blk U3 Q [.int .i64 u.page, .int .i64 u.pages, .int .i64 u.frame, .int .i64 u.rights] 39 := HU2.out.2.2.kept k3 (by have := HU1.out.2.2.2; omega)
        have HFIN : Hid (St w x x2 C B M M2 K N (y.sp p (z.wr ((ls.set ja v).set jb u))) U3) := HI.out.swapR HZ.out (by have := HEQS.out; rw [this.1]; exact swap_perm ls ja jb u v HUU.out HV.out) (by rw [HEQS.out.1]; intro e; have := HLEN.out; rw [e] at this; simp at this; omega) HEQS.out.2 (HU2.out.1.trans k3 fun _ _ h => h) hB3
        rw [← hU3]
        clear hU3 hB3 k3
        refine hK.out _ _ ⟨hQ3.cell (i := 0) rfl, hQ3.cell (i := 1) rfl, hQ3.cell (i := 2) rfl, hQ3.cell (i := 3) rfl⟩ (fun hHeld => ?_)
        simp only [Act.put, List.setIfInBounds_toArray, List.set_cons_zero, List.set_cons_succ]
        refine wpAnyH_done (by kernel_rfl) ?_ _
        clear hHeld hQ3 hK
        clear hgetS hgetS0 hget hget0
        go_wp2
        go_roundw
        case rel => exact ⟨p + 1, _, by omega, by go_num, HFIN.out⟩
        case measure => simp [intOf]; omega
    · have tp : ¬ p < PL := hlt
      clear hI
      go_wp2
      go_loopw [13] (fun i wr => ∃ (p : Nat) (y : Cfg), p ≤ CL ∧ i = .int .i64 p ∧ St w x x2 C B M M2 K N y wr) (fun i _ => CL - (intOf i).toNat)
      case atStart => exact ⟨0, y, by omega, rfl, HI.out⟩
      case round =>
        clear b5
        obtain ⟨p, y, hp, rfl, hI⟩ := hrel
        have HI : Hid (St w x x2 C B M M2 K N y wr) := hI
        have HLN : Hid (y.cs.length = CL) := by refine Hid.mkq ?_; rw [hI.rel.clen]; exact HCLn.out
        obtain ⟨wz, hwz⟩ : ∃ wz, wz = wr := ⟨_, rfl⟩
        subst hwz
        have b5 : wz.cell? ⟨B, 4, none⟩ = some (.slice (some ⟨M, 0, none⟩) CL CL) := by have := hI.box.cell (i := 4) rfl; rw [hI.own.ca, hI.own.cc, HLN.out] at this; exact this
        by_cases hlt : p < CL
        · obtain ⟨z, hz⟩ : ∃ z, y.cs[p]? = some z := ⟨_, List.getElem?_eq_getElem (by have := HLN.out; omega)⟩
          have HZ : Hid (y.cs[p]? = some z) := hz
          obtain ⟨RL, hRL⟩ : ∃ RL, z.ws.length = RL := ⟨_, rfl⟩
          obtain ⟨rc, hrc⟩ : ∃ rc, z.c = rc := ⟨_, rfl⟩
          have p6 : wz.cell? ⟨M, p, none⟩ = some (.slice z.a RL rc) := by have := hI.own.row.cell (i := p) (v := Core.v z) (by rw [List.getElem?_map, hz]; rfl); unfold Core.v at this; rw [hRL, hrc] at this; exact this
          have hrb : (RL : Int) ≤ rc ∧ (rc : Int) ≤ 9223372036854775807 := by have := (hI.rst.cl z (List.mem_of_getElem? hz)).1; rw [hRL, hrc] at this; unfold maxLen at this; omega
          by_cases h0 : RL = 0
          · subst h0
            clear hI hz hRL hrc
            go_wp2
            go_roundw
            case rel => exact ⟨p + 1, y, by omega, by go_num, HI.out⟩
            case measure => simp [intOf]; omega
          · obtain ⟨g, junk, hg, hB⟩ : ∃ g junk, z.a = some ⟨g, 0, none⟩ ∧ Blk wz g (z.ws.flatMap eWin.vs ++ junk) 45 := by
              rcases (hI.own.win z (List.mem_of_getElem? hz)).1 with h | h
              · rw [h] at hRL; simp at hRL; omega
              · exact h
            obtain ⟨ls, hls⟩ : ∃ ls, z.ws = ls := ⟨_, rfl⟩
            have HEQS : Hid (z.ws = ls ∧ z.a = some ⟨g, 0, none⟩) := ⟨hls, hg⟩
            rw [hls] at hB hRL
            rw [hg] at p6
            obtain ⟨ja, hja⟩ : ∃ ja, a0 % RL = ja := ⟨_, rfl⟩
            obtain ⟨jb, hjb⟩ : ∃ jb, b0 % RL = jb := ⟨_, rfl⟩
            have hja1 : ja < RL := by rw [← hja]; exact Nat.mod_lt _ (by omega)
            have hjb1 : jb < RL := by rw [← hjb]; exact Nat.mod_lt _ (by omega)
            have qa : ((a0 : Int)).tmod (RL : Int) = (ja : Int) := by rw [← hja]; exact (Int.ofNat_tmod a0 RL).symm
            have qb : ((b0 : Int)).tmod (RL : Int) = (jb : Int) := by rw [← hjb]; exact (Int.ofNat_tmod b0 RL).symm
            have q0 : ((RL : Int) == 0) = false := by simp; omega
            obtain ⟨u, hu⟩ : ∃ u, ls[ja]? = some u := ⟨_, List.getElem?_eq_getElem (by omega)⟩
            obtain ⟨v, hv⟩ : ∃ v, ls[jb]? = some v := ⟨_, List.getElem?_eq_getElem (by omega)⟩
            have HUU : Hid (ls[ja]? = some u) := hu
            have HV : Hid (ls[jb]? = some v) := hv
            have HLEN : Hid (ls.length = RL ∧ ja < RL ∧ jb < RL) := ⟨hRL, hja1, hjb1⟩
            have hgetS : ∀ (l : List Win) (j : Nat) (t : Win), l[j]? = some t → ∀ (i : Nat) (c : Value), (Win.vs t)[i]? = some c → (l.flatMap eWin.vs ++ junk)[j * 3 + i]? = some c := fun l j t ht i c hc => by
              have h5 : (l.flatMap eWin.vs)[j * 3 + i]? = some c := flat_get eWin l j t i c ht hc
              rw [List.getElem?_append_left (List.getElem?_eq_some_iff.1 h5).1]
              exact h5
            have hgetS0 : ∀ (l : List Win) (j : Nat) (t : Win), l[j]? = some t → (l.flatMap eWin.vs ++ junk)[j * 3]? = some (.int .i64 t.p) := fun l j t ht => hgetS l j t ht 0 _ rfl
            have hget := hgetS ls
            have hget0 := hgetS0 ls
            have u0 : wz.cell? ⟨g, ja * 3, none⟩ = some (.int .i64 u.p) := hB.cell (hget0 ja u HUU.out)
            have u1 : wz.cell? ⟨g, ja * 3 + 1, none⟩ = some (.int .i64 u.u) := hB.cell (hget ja u HUU.out 1 _ rfl)
            have u2 : wz.cell? ⟨g, ja * 3 + 2, none⟩ = some (.int .i64 u.s) := hB.cell (hget ja u HUU.out 2 _ rfl)
            obtain ⟨U1, hU1⟩ : ∃ U1, U1 = wz.alloc (.cells #[.int .i64 u.p, .int .i64 u.u, .int .i64 u.s] 45) := ⟨_, rfl⟩
            obtain ⟨Q, hQ⟩ : ∃ Q, Q = wz.heap.size := ⟨_, rfl⟩
            have HU1 : Hid (Keeps (fun _ => False) wz U1 ∧ Blk U1 g (ls.flatMap eWin.vs ++ junk) 45 ∧ Blk U1 Q [.int .i64 u.p, .int .i64 u.u, .int .i64 u.s] 45 ∧ g < Q) := by
              rw [hU1, hQ]
              exact ⟨(Keeps.refl _ _).alloc _, hB.alloc _, Blk.new _ _ _, hB.lt⟩
            have HGS : Hid ((∀ (l : List Win) (j : Nat) (t : Win), l[j]? = some t → ∀ (i : Nat) (c : Value), (Win.vs t)[i]? = some c → (l.flatMap eWin.vs ++ junk)[j * 3 + i]? = some c) ∧ (∀ (l : List Win) (j : Nat) (t : Win), l[j]? = some t → (l.flatMap eWin.vs ++ junk)[j * 3]? = some (.int .i64 t.p))) := ⟨hgetS, hgetS0⟩
            have HFS : Hid (∀ (l : List Win) (a : Nat) (t : Win), a < l.length → (l.flatMap eWin.vs ++ junk).take (a * 3) ++ Win.vs t ++ (l.flatMap eWin.vs ++ junk).drop (a * 3 + (Win.vs t).length) = (l.set a t).flatMap eWin.vs ++ junk) := fun l a t h => flat_set eWin l junk a t h
            clear hI hz hRL hrc hg hB hls hja hjb hu hv hgetS hgetS0 hget hget0
            go_upto_region 19 with fail
            rw [← hU1, ← hQ]
            clear hU1 hQ b5 p6 u0 u1 u2
            have hgetS := HGS.out.1
            have hgetS0 := HGS.out.2
            have hget := hgetS ls
            have hget0 := hgetS0 ls
            refine wp_region_held_drew (S := (fun w' => w'.cell? ⟨g, jb * 3, none⟩ = some (.int .i64 v.p) ∧ w'.cell? ⟨g, jb * 3 + 1, none⟩ = some (.int .i64 v.u) ∧ w'.cell? ⟨g, jb * 3 + 2, none⟩ = some (.int .i64 v.s))) Tryz.mixd ⟨(HU1.out.2.1.kept ((Keeps.refl (fun _ => False) _).drew) fun h => h).cell (hget0 jb v HV.out), (HU1.out.2.1.kept ((Keeps.refl (fun _ => False) _).drew) fun h => h).cell (hget jb v HV.out 1 _ rfl), (HU1.out.2.1.kept ((Keeps.refl (fun _ => False) _).drew) fun h => h).cell (hget jb v HV.out 2 _ rfl)⟩ (fun hHeld => ?_)
            simp only [List.size_toArray, List.length_cons, List.length_nil, Nat.reduceAdd, Array.replicate_succ, Array.replicate_zero, List.push_toArray, List.append_toArray, List.nil_append, List.cons_append]
            refine wpAnyH_take (i := 0) (oi := { dst := some 97, op := Op.move (Operand.tmp 14), type := 43, pos := "law.go:169", after := #[], guard := none }) (v := .slice (some ⟨g, 0, none⟩) RL rc) rfl (by kernel_rfl) (by kernel_rfl) (by kernel_rfl) (fun _ _ _ h => h) (Or.inl ⟨by kernel_rfl, by (intro w hSw; (try dsimp only at hSw); go_simp)⟩) hHeld ?_
            simp only [Act.put, List.setIfInBounds_toArray, List.set_cons_zero, List.set_cons_succ]
            refine wpAnyH_take (i := 1) (oi := { dst := some 98, op := Op.move (Operand.tmp 1), type := 3, pos := "law.go:169", after := #[], guard := none }) (v := .int .i64 (a0 : Int)) rfl (by kernel_rfl) (by kernel_rfl) (by kernel_rfl) (fun _ _ _ h => h) (Or.inl ⟨by kernel_rfl, by (intro w hSw; (try dsimp only at hSw); go_simp)⟩) hHeld ?_
            simp only [Act.put, List.setIfInBounds_toArray, List.set_cons_zero, List.set_cons_succ]
            refine wpAnyH_take (i := 2) (oi := { dst := some 99, op := Op.move (Operand.tmp 14), type := 43, pos := "law.go:169", after := #[], guard := none }) (v := .slice (some ⟨g, 0, none⟩) RL rc) rfl (by kernel_rfl) (by kernel_rfl) (by kernel_rfl) (fun _ _ _ h => h) (Or.inl ⟨by kernel_rfl, by (intro w hSw; (try dsimp only at hSw); go_simp)⟩) hHeld ?_
            simp only [Act.put, List.setIfInBounds_toArray, List.set_cons_zero, List.set_cons_succ]
            refine wpAnyH_take (i := 3) (oi := { dst := some 100, op := Op.call { callee := Callee.builtin Builtin.len, args := #[Operand.tmp 99], argTypes := #[43] }, type := 3, pos := "law.go:169", after := #[{ on := 2, ground := Ground.data }], guard := none }) (v := .int .i64 (RL : Int)) rfl (by kernel_rfl) (by kernel_rfl) (by kernel_rfl) (fun _ _ _ h => h) (Or.inl ⟨by kernel_rfl, by (intro w hSw; (try dsimp only at hSw); go_simp)⟩) hHeld ?_
            simp only [Act.put, List.setIfInBounds_toArray, List.set_cons_zero, List.set_cons_succ]
            refine wpAnyH_take (i := 4) (oi := { dst := some 101, op := Op.binOp BinOp.rem 3 (Operand.tmp 98) (Operand.tmp 100) 3, type := 3, pos := "law.go:169", after := #[{ on := 1, ground := Ground.data }, { on := 3, ground := Ground.data }], guard := none }) (v := .int .i64 (ja : Int)) rfl (by kernel_rfl) (by kernel_rfl) (by kernel_rfl) (fun _ _ _ h => h) (Or.inl ⟨by kernel_rfl, by (intro w hSw; (try dsimp only at hSw); go_simp)⟩) hHeld ?_
            simp only [Act.put, List.setIfInBounds_toArray, List.set_cons_zero, List.set_cons_succ]
            refine wpAnyH_take (i := 5) (oi := { dst := some 102, op := Op.move (Operand.tmp 14), type := 43, pos := "law.go:169", after := #[], guard := none }) (v := .slice (some ⟨g, 0, none⟩) RL rc) rfl (by kernel_rfl) (by kernel_rfl) (by kernel_rfl) (fun _ _ _ h => h) (Or.inl ⟨by kernel_rfl, by (intro w hSw; (try dsimp only at hSw); go_simp)⟩) hHeld ?_
            simp only [Act.put, List.setIfInBounds_toArray, List.set_cons_zero, List.set_cons_succ]
            refine wpAnyH_take (i := 6) (oi := { dst := some 103, op := Op.move (Operand.tmp 2), type := 3, pos := "law.go:169", after := #[], guard := none }) (v := .int .i64 (b0 : Int)) rfl (by kernel_rfl) (by kernel_rfl) (by kernel_rfl) (fun _ _ _ h => h) (Or.inl ⟨by kernel_rfl, by (intro w hSw; (try dsimp only at hSw); go_simp)⟩) hHeld ?_
            simp only [Act.put, List.setIfInBounds_toArray, List.set_cons_zero, List.set_cons_succ]
            refine wpAnyH_take (i := 7) (oi := { dst := some 104, op := Op.move (Operand.tmp 14), type := 43, pos := "law.go:169", after := #[], guard := none }) (v := .slice (some ⟨g, 0, none⟩) RL rc) rfl (by kernel_rfl) (by kernel_rfl) (by kernel_rfl) (fun _ _ _ h => h) (Or.inl ⟨by kernel_rfl, by (intro w hSw; (try dsimp only at hSw); go_simp)⟩) hHeld ?_
            simp only [Act.put, List.setIfInBounds_toArray, List.set_cons_zero, List.set_cons_succ]
            refine wpAnyH_take (i := 8) (oi := { dst := some 105, op := Op.call { callee := Callee.builtin Builtin.len, args := #[Operand.tmp 104], argTypes := #[43] }, type := 3, pos := "law.go:169", after := #[{ on := 7, ground := Ground.data }], guard := none }) (v := .int .i64 (RL : Int)) rfl (by kernel_rfl) (by kernel_rfl) (by kernel_rfl) (fun _ _ _ h => h) (Or.inl ⟨by kernel_rfl, by (intro w hSw; (try dsimp only at hSw); go_simp)⟩) hHeld ?_
            simp only [Act.put, List.setIfInBounds_toArray, List.set_cons_zero, List.set_cons_succ]
            refine wpAnyH_take (i := 9) (oi := { dst := some 106, op := Op.binOp BinOp.rem 3 (Operand.tmp 103) (Operand.tmp 105) 3, type := 3, pos := "law.go:169", after := #[{ on := 6, ground := Ground.data }, { on := 8, ground := Ground.data }], guard := none }) (v := .int .i64 (jb : Int)) rfl (by kernel_rfl) (by kernel_rfl) (by kernel_rfl) (fun _ _ _ h => h) (Or.inl ⟨by kernel_rfl, by (intro w hSw; (try dsimp only at hSw); go_simp)⟩) hHeld ?_
            simp only [Act.put, List.setIfInBounds_toArray, List.set_cons_zero, List.set_cons_succ]
            refine wpAnyH_take (i := 10) (oi := { dst := some 107, op := Op.indexAddr 43 (Operand.tmp 102) (Operand.tmp 106), type := 0, pos := "law.go:169", after := #[{ on := 5, ground := Ground.data }, { on := 9, ground := Ground.data }], guard := none }) (v := .pointer (some ⟨g, jb * 3, none⟩)) rfl (by kernel_rfl) (by kernel_rfl) (by kernel_rfl) (fun _ _ _ h => h) (Or.inl ⟨by kernel_rfl, by (intro w hSw; (try dsimp only at hSw); go_simp)⟩) hHeld ?_
            simp only [Act.put, List.setIfInBounds_toArray, List.set_cons_zero, List.set_cons_succ]
            refine wpAnyH_take (i := 11) (oi := { dst := some 108, op := Op.load 45 (Operand.tmp 107), type := 45, pos := "law.go:169", after := #[{ on := 10, ground := Ground.data }], guard := none }) (v := .agg #[.int .i64 v.p, .int .i64 v.u, .int .i64 v.s]) rfl (by kernel_rfl) (by kernel_rfl) (by kernel_rfl) (fun _ _ _ h => h) (Or.inl ⟨by kernel_rfl, by (intro w hSw; (try dsimp only at hSw); go_simp)⟩) hHeld ?_
            simp only [Act.put, List.setIfInBounds_toArray, List.set_cons_zero, List.set_cons_succ]
            refine wpAnyH_take (i := 12) (oi := { dst := some 109, op := Op.indexAddr 43 (Operand.tmp 97) (Operand.tmp 101), type := 0, pos := "law.go:169", after := #[{ on := 0, ground := Ground.data }, { on := 4, ground := Ground.data }, { on := 0, ground := Ground.phase }, { on := 1, ground := Ground.phase }, { on := 2, ground := Ground.phase }, { on := 3, ground := Ground.phase }, { on := 4, ground := Ground.phase }, { on := 5, ground := Ground.phase }, { on := 6, ground := Ground.phase }, { on := 7, ground := Ground.phase }, { on := 8, ground := Ground.phase }, { on := 9, ground := Ground.phase }, { on := 10, ground := Ground.phase }, { on := 11, ground := Ground.phase }], guard := none }) (v := .pointer (some ⟨g, ja * 3, none⟩)) rfl (by kernel_rfl) (by kernel_rfl) (by kernel_rfl) (fun _ _ _ h => h) (Or.inl ⟨by kernel_rfl, by (intro w hSw; (try dsimp only at hSw); go_simp)⟩) hHeld ?_
            simp only [Act.put, List.setIfInBounds_toArray, List.set_cons_zero, List.set_cons_succ]
            refine wpAnyH_ready (rs := [13]) (by kernel_rfl) (by simp) ?_
            refine AllReadyH.cons (o := { dst := none, op := Op.store 45 (Operand.tmp 109) (Operand.tmp 108), type := 0, pos := "law.go:169", after := #[{ on := 12, ground := Ground.data }, { on := 11, ground := Ground.data }, { on := 0, ground := Ground.phase }, { on := 1, ground := Ground.phase }, { on := 2, ground := Ground.phase }, { on := 3, ground := Ground.phase }, { on := 4, ground := Ground.phase }, { on := 5, ground := Ground.phase }, { on := 6, ground := Ground.phase }, { on := 7, ground := Ground.phase }, { on := 8, ground := Ground.phase }, { on := 9, ground := Ground.phase }, { on := 10, ground := Ground.phase }, { on := 11, ground := Ground.phase }], guard := none }) rfl (fun Kq hK => ?_) AllReadyH.nil
            refine wp_store_mid 45 _ _ rfl g (ja * 3) (Win.vs v) (by rfl) (by rfl) 45 _ (HU1.out.2.1.kept ((Keeps.refl (fun _ => False) _).drew) fun h => h) Tryz.size45 (by rw [List.length_append, flat_len eWin]; have := HLEN.out; show ja * 3 + 3 ≤ _ * 3 + _; omega) (fun u hu => plainWin.one v u hu) ?_
            rw [HFS.out ls ja v (by have := HLEN.out; omega)]
            obtain ⟨U2, hU2⟩ : ∃ U2, U2 = U1.drew.setRow g ((ls.set ja v).flatMap eWin.vs ++ junk).toArray := ⟨_, rfl⟩
            have hB2 : Blk U2 g ((ls.set ja v).flatMap eWin.vs ++ junk) 45 := by rw [hU2]; exact (HU1.out.2.1.kept ((Keeps.refl (fun _ => False) _).drew) fun h => h).setRow _
            have k2 : Keeps (fun b => b = g) U1 U2 := by rw [hU2]; exact (((Keeps.refl (fun b => b = g) _).drew).trans ((Keeps.refl (fun b => b = g) _).setRow _ _ fun _ => rfl) fun _ _ h => h)
            have hgQ := HU1.out.2.2.2
            have HU2 : Hid (Keeps (fun b => b = g) wz U2 ∧ Blk U2 g ((ls.set ja v).flatMap eWin.vs ++ junk) 45 ∧ Blk U2 Q [.int .i64 u.p, .int .i64 u.u, .int .i64 u.s] 45) := ⟨(HU1.out.1.mono fun _ _ h => h.elim).trans k2 fun _ _ h => h, hB2, HU1.out.2.2.1.kept k2 (by omega)⟩
            have hS2 : U2.cell? ⟨g, jb * 3, none⟩ = some (.int .i64 v.p) ∧ U2.cell? ⟨g, jb * 3 + 1, none⟩ = some (.int .i64 v.u) ∧ U2.cell? ⟨g, jb * 3 + 2, none⟩ = some (.int .i64 v.s) := by
              have hq : (ls.set ja v)[jb]? = some v := by
                rw [List.getElem?_set]
                split
                · rw [if_pos (by have := HLEN.out; omega)]
                · exact HV.out
              exact ⟨hB2.cell (hgetS0 _ jb v hq), hB2.cell (hgetS _ jb v hq 1 _ rfl), hB2.cell (hgetS _ jb v hq 2 _ rfl)⟩
            rw [← hU2]
            clear hU2 hB2 k2 hgQ
            refine hK.out _ _ hS2 (fun hHeld => ?_)
            simp only [Act.put, List.setIfInBounds_toArray, List.set_cons_zero, List.set_cons_succ]
            refine wpAnyH_done (by kernel_rfl) ?_ _
            clear hHeld hS2 hK
            go_wp2
            refine wp_region_held_drew (S := (fun w' => w'.cell? ⟨Q, 0, none⟩ = some (.int .i64 u.p) ∧ w'.cell? ⟨Q, 1, none⟩ = some (.int .i64 u.u) ∧ w'.cell? ⟨Q, 2, none⟩ = some (.int .i64 u.s))) Tryz.mixd ⟨(HU2.out.2.2.kept ((Keeps.refl (fun _ => False) _).drew) fun h => h).cell (i := 0) rfl, (HU2.out.2.2.kept ((Keeps.refl (fun _ => False) _).drew) fun h => h).cell (i := 1) rfl, (HU2.out.2.2.kept ((Keeps.refl (fun _ => False) _).drew) fun h => h).cell (i := 2) rfl⟩ (fun hHeld => ?_)
            simp only [List.size_toArray, List.length_cons, List.length_nil, Nat.reduceAdd, Array.replicate_succ, Array.replicate_zero, List.push_toArray, List.append_toArray, List.nil_append, List.cons_append]
            refine wpAnyH_take (i := 0) (oi := { dst := some 110, op := Op.move (Operand.tmp 14), type := 43, pos := "law.go:170", after := #[], guard := none }) (v := .slice (some ⟨g, 0, none⟩) RL rc) rfl (by kernel_rfl) (by kernel_rfl) (by kernel_rfl) (fun _ _ _ h => h) (Or.inl ⟨by kernel_rfl, by (intro w hSw; (try dsimp only at hSw); go_simp)⟩) hHeld ?_
            simp only [Act.put, List.setIfInBounds_toArray, List.set_cons_zero, List.set_cons_succ]
            refine wpAnyH_take (i := 1) (oi := { dst := some 111, op := Op.move (Operand.tmp 2), type := 3, pos := "law.go:170", after := #[], guard := none }) (v := .int .i64 (b0 : Int)) rfl (by kernel_rfl) (by kernel_rfl) (by kernel_rfl) (fun _ _ _ h => h) (Or.inl ⟨by kernel_rfl, by (intro w hSw; (try dsimp only at hSw); go_simp)⟩) hHeld ?_
            simp only [Act.put, List.setIfInBounds_toArray, List.set_cons_zero, List.set_cons_succ]
            refine wpAnyH_take (i := 2) (oi := { dst := some 112, op := Op.move (Operand.tmp 14), type := 43, pos := "law.go:170", after := #[], guard := none }) (v := .slice (some ⟨g, 0, none⟩) RL rc) rfl (by kernel_rfl) (by kernel_rfl) (by kernel_rfl) (fun _ _ _ h => h) (Or.inl ⟨by kernel_rfl, by (intro w hSw; (try dsimp only at hSw); go_simp)⟩) hHeld ?_
            simp only [Act.put, List.setIfInBounds_toArray, List.set_cons_zero, List.set_cons_succ]
            refine wpAnyH_take (i := 3) (oi := { dst := some 113, op := Op.call { callee := Callee.builtin Builtin.len, args := #[Operand.tmp 112], argTypes := #[43] }, type := 3, pos := "law.go:170", after := #[{ on := 2, ground := Ground.data }], guard := none }) (v := .int .i64 (RL : Int)) rfl (by kernel_rfl) (by kernel_rfl) (by kernel_rfl) (fun _ _ _ h => h) (Or.inl ⟨by kernel_rfl, by (intro w hSw; (try dsimp only at hSw); go_simp)⟩) hHeld ?_
            simp only [Act.put, List.setIfInBounds_toArray, List.set_cons_zero, List.set_cons_succ]
            refine wpAnyH_take (i := 4) (oi := { dst := some 114, op := Op.binOp BinOp.rem 3 (Operand.tmp 111) (Operand.tmp 113) 3, type := 3, pos := "law.go:170", after := #[{ on := 1, ground := Ground.data }, { on := 3, ground := Ground.data }], guard := none }) (v := .int .i64 (jb : Int)) rfl (by kernel_rfl) (by kernel_rfl) (by kernel_rfl) (fun _ _ _ h => h) (Or.inl ⟨by kernel_rfl, by (intro w hSw; (try dsimp only at hSw); go_simp)⟩) hHeld ?_
            simp only [Act.put, List.setIfInBounds_toArray, List.set_cons_zero, List.set_cons_succ]
            refine wpAnyH_take (i := 5) (oi := { dst := some 115, op := Op.load 45 (Operand.tmp 15), type := 45, pos := "law.go:170", after := #[], guard := none }) (v := .agg #[.int .i64 u.p, .int .i64 u.u, .int .i64 u.s]) rfl (by kernel_rfl) (by kernel_rfl) (by kernel_rfl) (fun _ _ _ h => h) (Or.inl ⟨by kernel_rfl, by (intro w hSw; (try dsimp only at hSw); go_simp)⟩) hHeld ?_
            simp only [Act.put, List.setIfInBounds_toArray, List.set_cons_zero, List.set_cons_succ]
            refine wpAnyH_take (i := 6) (oi := { dst := some 116, op := Op.indexAddr 43 (Operand.tmp 110) (Operand.tmp 114), type := 0, pos := "law.go:170", after := #[{ on := 0, ground := Ground.data }, { on := 4, ground := Ground.data }, { on := 0, ground := Ground.phase }, { on := 1, ground := Ground.phase }, { on := 2, ground := Ground.phase }, { on := 3, ground := Ground.phase }, { on := 4, ground := Ground.phase }, { on := 5, ground := Ground.phase }], guard := none }) (v := .pointer (some ⟨g, jb * 3, none⟩)) rfl (by kernel_rfl) (by kernel_rfl) (by kernel_rfl) (fun _ _ _ h => h) (Or.inl ⟨by kernel_rfl, by (intro w hSw; (try dsimp only at hSw); go_simp)⟩) hHeld ?_
            simp only [Act.put, List.setIfInBounds_toArray, List.set_cons_zero, List.set_cons_succ]
            refine wpAnyH_ready (rs := [7]) (by kernel_rfl) (by simp) ?_
            refine AllReadyH.cons (o := { dst := none, op := Op.store 45 (Operand.tmp 116) (Operand.tmp 115), type := 0, pos := "law.go:170", after := #[{ on := 6, ground := Ground.data }, { on := 5, ground := Ground.data }, { on := 0, ground := Ground.phase }, { on := 1, ground := Ground.phase }, { on := 2, ground := Ground.phase }, { on := 3, ground := Ground.phase }, { on := 4, ground := Ground.phase }, { on := 5, ground := Ground.phase }], guard := none }) rfl (fun Kq hK => ?_) AllReadyH.nil
            refine wp_store_mid 45 _ _ rfl g (jb * 3) (Win.vs u) (by rfl) (by rfl) 45 _ (HU2.out.2.1.kept ((Keeps.refl (fun _ => False) _).drew) fun h => h) Tryz.size45 (by rw [List.length_append, flat_len eWin, List.length_set]; have := HLEN.out; show jb * 3 + 3 ≤ _ * 3 + _; omega) (fun u' hu' => plainWin.one u u' hu') ?_
            rw [HFS.out (ls.set ja v) jb u (by rw [List.length_set]; have := HLEN.out; omega)]
            obtain ⟨U3, hU3⟩ : ∃ U3, U3 = U2.drew.setRow g (((ls.set ja v).set jb u).flatMap eWin.vs ++ junk).toArray := ⟨_, rfl⟩
            have hB3 : Blk U3 g (((ls.set ja v).set jb u).flatMap eWin.vs ++ junk) 45 := by rw [hU3]; exact (HU2.out.2.1.kept ((Keeps.refl (fun _ => False) _).drew) fun h => h).setRow _
            have k3 : Keeps (fun b => b = g) U2 U3 := by rw [hU3]; exact (((Keeps.refl (fun b => b = g) _).drew).trans ((Keeps.refl (fun b => b = g) _).setRow _ _ fun _ => rfl) fun _ _ h => h)
            have hQ3 : Blk U3 Q [.int .i64 u.p, .int .i64 u.u, .int .i64 u.s] 45 := HU2.out.2.2.kept k3 (by have := HU1.out.2.2.2; omega)
            have HFIN : Hid (St w x x2 C B M M2 K N (y.sc p (z.ww ((ls.set ja v).set jb u))) U3) := HI.out.swapW HZ.out (by have := HEQS.out; rw [this.1]; exact swap_perm ls ja jb u v HUU.out HV.out) (by rw [HEQS.out.1]; intro e; have := HLEN.out; rw [e] at this; simp at this; omega) HEQS.out.2 (HU2.out.1.trans k3 fun _ _ h => h) hB3
            rw [← hU3]
            clear hU3 hB3 k3
            refine hK.out _ _ ⟨hQ3.cell (i := 0) rfl, hQ3.cell (i := 1) rfl, hQ3.cell (i := 2) rfl⟩ (fun hHeld => ?_)
            simp only [Act.put, List.setIfInBounds_toArray, List.set_cons_zero, List.set_cons_succ]
            refine wpAnyH_done (by kernel_rfl) ?_ _
            clear hHeld hQ3 hK
            clear hgetS hgetS0 hget hget0
            go_wp2
            go_roundw
            case rel => exact ⟨p + 1, _, by omega, by go_num, HFIN.out⟩
            case measure => simp [intOf]; omega
        · have tp : ¬ p < CL := hlt
          clear b5
          have hin := hI.nn
          have HCK : Hid (Calls Tryz.prog 6 #[y.v] wz (ChkP y wz)) := Check_any y wz _ hin (Nat.le_refl _)
          have hiff : (chk x1).n = 0 ↔ (chk y).n = 0 := by
            have r1 := HO2.out.2
            have r2 := HR2.out
            have r3 := hI.rel
            rw [chk_n, chk_n]
            exact ⟨fun g => r3.gd (r2.gd (r1.symm.gd g)), fun g => r1.gd (r2.symm.gd (r3.symm.gd g))⟩
          have e0 := hI.box.cell (i := 0) rfl
          have e1 := hI.box.cell (i := 1) rfl
          have e2 := hI.box.cell (i := 2) rfl
          have e3 := hI.box.cell (i := 3) rfl
          have e4 := hI.box.cell (i := 4) rfl
          have e5 := hI.box.cell (i := 5) rfl
          have e6 := hI.box.cell (i := 6) rfl
          have tq : ¬ p < y.cs.length := by rw [HLN.out]; exact tp
          obtain ⟨c, hc⟩ : ∃ c, (n1 == 0) = c := ⟨_, rfl⟩
          obtain ⟨n2, hn2⟩ : ∃ n2, (chk y).n = n2 := ⟨_, rfl⟩
          have hc2 : (n2 == 0) = c := by
            rw [← hc, Bool.eq_iff_iff, beq_iff_eq, beq_iff_eq, ← hn2, ← hiff, HF.out]
          have HA : Hid (∀ n w, Calls Tryz.prog 5 #[.int .i64 n] w fun e w' => e = .returned (.bool true) ∧ Keeps (fun _ => False) w w') := admitOne_any
          have HN2 : Hid ((chk y).n = n2) := hn2
          clear hI hin hiff hn2
          go_wp2_with fail
          refine HCK.out.mono ?_
          rintro e w7 ⟨rfl, hK7⟩
          rw [HN2.out]
          have HK7 : Hid (Keeps (fun _ => False) w w7) := HI.out.one.keeps.trans hK7 fun _ _ h => h
          clear hK7 e0 e1 e2 e3 e4 e5 e6 HCK
          obtain ⟨f2, hf2⟩ : ∃ f2, (chk y).a = f2 := ⟨_, rfl⟩
          obtain ⟨f3, hf3⟩ : ∃ f3, (chk y).b = f3 := ⟨_, rfl⟩
          rw [hf2, hf3]
          clear hf2 hf3
          cases c with
          | false =>
            go_wp2_with fail
            refine (HA.out _ _).mono ?_
            rintro e w8 ⟨rfl, hK8⟩
            have HK8 : Hid (Keeps (fun _ => False) w w8) := (HK7.out.trans ((Keeps.refl (fun _ => False) _).alloc _) fun _ _ h => h).trans hK8 fun _ _ h => h
            clear hK8
            go_wp2_with fail
            refine (HA.out _ _).mono ?_
            rintro e w9 ⟨rfl, hK9⟩
            have HK9 : Hid (Keeps (fun _ => False) w w9) := HK8.out.trans hK9 fun _ _ h => h
            clear hK9
            go_wp2
            go_ret
            exact ⟨rfl, HK9.out⟩
          | true =>
            go_wp2_with fail
            refine (HA.out _ _).mono ?_
            rintro e w8 ⟨rfl, hK8⟩
            have HK8 : Hid (Keeps (fun _ => False) w w8) := (HK7.out.trans ((Keeps.refl (fun _ => False) _).alloc _) fun _ _ h => h).trans hK8 fun _ _ h => h
            clear hK8
            go_wp2_with fail
            refine (HA.out _ _).mono ?_
            rintro e w9 ⟨rfl, hK9⟩
            have HK9 : Hid (Keeps (fun _ => False) w w9) := HK8.out.trans hK9 fun _ _ h => h
            clear hK9
            go_wp2
            go_ret
            exact ⟨rfl, HK9.out⟩
end Go.Proofs.YtgookbkaacidpaaGreat
