import Derived.Test.YtajhkilclmicjaaLp
namespace Go.Proofs.Ytajhkilclmicjaa
open Go.RowKit Go.Shelf
set_option linter.unusedVariables false

/-- Behind Restore. -/
structure IV (w wo W : World) (c : Nat) (F : Nat → Prop) (G : Nat) (vs : Nat → Value) (ls : Nat → List Int) (D : Nat → Prop) (Gh ch Gm cm : Nat) (Bs : Nat → Nat) : Prop where
  ca : ∃ F', Ca W c ls F' ∧ ∀ b, F' b → F b ∨ wo.heap.size ≤ b
  lp : LP w W (.slice (some ⟨Gh, 0, none⟩) 4 ch) (.slice (some ⟨Gm, 0, none⟩) 4 cm) Bs ls 4
  ld : LD W G vs ls D
  keeps : Keeps F w W

/-- While the lists are written over: those before j are. -/
structure IW (w wo W : World) (c : Nat) (F : Nat → Prop) (ls : Nat → List Int) (Gm : Nat) (Bs : Nat → Nat) (j : Nat) : Prop where
  ca : ∃ F', Ca W c ls F' ∧ ∀ b, F' b → F b ∨ wo.heap.size ≤ b
  cells : ∀ i, i < 4 → W.cell? ⟨Gm, i, none⟩ = some (hrow Bs ls i)
  b : ∀ i, j ≤ i → i < 4 → Blk W (Bs i) (fl ((ls i).length + 70) (spareF (ls i))) 3
  lo : ∀ i, i < 4 → w.heap.size ≤ Bs i ∧ Bs i ≠ Gm ∧ Bs i < wo.heap.size ∧ ¬ F (Bs i)
  ap : ∀ i, i < 4 → ∀ k, k < 4 → i ≠ k → Bs i ≠ Bs k
  keeps : Keeps F w W

theorem LP.lt4 {w W : World} {hv mv : Value} {Bs : Nat → Nat} {ls : Nat → List Int} (h : LP w W hv mv Bs ls 4) : ∀ i, i < 4 → Bs i < W.heap.size := fun i hi => (h.b i hi).1.lt

section
variable {w wo W W' : World} {c : Nat} {F : Nat → Prop} {G : Nat} {vs : Nat → Value} {ls : Nat → List Int} {D : Nat → Prop} {Gh ch Gm cm : Nat} {Bs : Nat → Nat} {j : Nat}
theorem IV.kept (h : IV w wo W c F G vs ls D Gh ch Gm cm Bs) (hK : Keeps (fun _ => False) W W') : IV w wo W' c F G vs ls D Gh ch Gm cm Bs := by
  obtain ⟨F', g1, g2⟩ := h.ca
  exact ⟨⟨F', g1.kept hK fun _ _ h => h, g2⟩, h.lp.kept hK fun _ _ _ h => h, h.ld.kept hK fun _ _ h => h, h.keeps.trans hK fun _ _ h => h.elim⟩
theorem IV.cells (h : IV w wo W c F G vs ls D Gh ch Gm cm Bs) (i : Nat) (hi : i < 4) : W.cell? ⟨Gm, i, none⟩ = some (hrow Bs ls i) := by
  obtain ⟨Gh', ch', e, hc'⟩ := row_lst h.lp.m
  injection e with e1 e2 e3
  injection e1 with e1
  injection e1 with e1
  subst e1
  exact hc' i hi
theorem IV.iw (h : IV w wo W c F G vs ls D Gh ch Gm cm Bs) (hB : ∀ i, i < 4 → Bs i < wo.heap.size) (hF : ∀ b, F b → b < w.heap.size) : IW w wo W c F ls Gm Bs 0 :=
  ⟨h.ca, h.cells, fun i _ hi => (h.lp.b i hi).1, fun i hi => ⟨(h.lp.b i hi).2.1, fun e => (h.lp.b i hi).2.2.2 (by rw [e]; rfl), hB i hi, fun hf => by have := hF _ hf; have := (h.lp.b i hi).2.1; omega⟩, h.lp.ap, h.keeps⟩
theorem IW.step (h : IW w wo W c F ls Gm Bs j) (hj : j < 4) (hK : Keeps (· = Bs j) W W') : IW w wo W' c F ls Gm Bs (j + 1) := by
  obtain ⟨F', g1, g2⟩ := h.ca
  refine ⟨⟨F', g1.kept hK fun b hb he => ?_, g2⟩, fun i hi => cell_kept (h.cells i hi) hK fun he => (h.lo j hj).2.1 he.symm, fun i hi hi4 => (h.b i (by omega) hi4).kept hK fun he => h.ap i hi4 j hj (by omega) he, h.lo, h.ap, h.keeps.trans hK fun b hb he => ?_⟩
  · rcases g2 b hb with h1 | h1
    · exact (h.lo j hj).2.2.2 (he ▸ h1)
    · have := (h.lo j hj).2.2.1; omega
  · have := (h.lo j hj).1; omega
theorem IW.now (h : IW w wo W c F ls Gm Bs j) (hz : w.heap.size ≤ wo.heap.size) : NowC w W c ls F := by
  obtain ⟨F', g1, g2⟩ := h.ca
  refine ⟨⟨F', g1, fun b hb => ?_⟩, h.keeps⟩
  rcases g2 b hb with h1 | h1
  · exact .inl h1
  · exact .inr (by omega)
end

set_option maxRecDepth 20000 in
set_option maxHeartbeats 4000000 in
theorem laid_any (c : Nat) (st : Nat → List Int) (F : Nat → Prop) (G : Nat) (vs : Nat → Value) (ls : Nat → List Int) (D : Nat → Prop) (cap : Nat) (mark : Int) (w : World) (h : Ca w c st F) (hw : LD w G vs ls D) (hD : ∀ b, D b → b < w.heap.size ∧ ¬ F b)
    (h2 : ∀ i, i < 4 → (ls i).length ≤ 2 ∧ (ls i).Nodup) (hg : Good ls) :
    Calls Try.prog 21 #[ptr c, .slice (some ⟨G, 0, none⟩) 4 cap, .int .i64 mark] w fun e w' => e = .returned (.bool true) ∧ NowC w w' c ls F := by
  have HS : Hid (Ca w c st F ∧ LD w G vs ls D ∧ (∀ b, D b → b < w.heap.size ∧ ¬ F b) ∧ (∀ i, i < 4 → (ls i).length ≤ 2 ∧ (ls i).Nodup) ∧ Good ls) := ⟨h, hw, hD, h2, hg⟩
  have H0 : Hid (LP w w (.slice none 0 0) (.slice none 0 0) (fun _ => 0) ls 0) :=
    ⟨by simpa using World.ownsRow_nil w 0 59 1, by simpa using World.ownsRow_nil w 0 59 1, fun i hi => by omega, fun i hi => by omega, fun g hg => by simp [Value.ownBlock] at hg, fun g hg => by simp [Value.ownBlock] at hg⟩
  clear h hw hD h2 hg
  go_enter Try.func21, Try.ntmps21
  go_wp2
  go_loopw [7, 8, 16] (fun hv mv i wr => ∃ (j : Nat) (Bs : Nat → Nat), j ≤ 4 ∧ i = .int .i64 j ∧ LP w wr hv mv Bs ls j ∧ Keeps (fun _ => False) w wr) (fun _ _ i _ => 4 - (intOf i).toNat)
  case atStart => exact ⟨0, _, by omega, rfl, H0.out, Keeps.refl _ _⟩
  case round =>
    obtain ⟨j, Bs, hj, rfl, hP, hK⟩ := hrel
    clear H0
    by_cases hlt : j < 4
    · have hl := HS.out.2.1.lst.kept hK
      have cu := hl.cell j hlt
      obtain ⟨a, c', hv, hs, _⟩ := hl.seg j hlt
      rw [hv] at cu
      have hn2 := (HS.out.2.2.2.1 j hlt).1
      have H1 : Hid (Calls _ _ _ _ _) := ints_any a (ls j).length c' (ls j) wr hs rfl hn2
      obtain ⟨n, hn⟩ : ∃ n, n = (ls j).length := ⟨_, rfl⟩
      rw [← hn] at cu H1
      have hjz : (j : Int) < 4 := by omega
      obtain ⟨ha, hc, rfl⟩ := owns_form hP.h
      obtain ⟨ma, mc, rfl⟩ := owns_form hP.m
      have HJ : Hid (LP w wr (.slice ha j hc) (.slice ma j mc) Bs ls j ∧ Keeps (fun _ => False) w wr ∧ j < 4 ∧ n = (ls j).length) := ⟨hP, hK, hlt, hn⟩
      clear hP hK hl hv hs hn hlt hj hn2
      go_wp2_with fail
      refine H1.out.mono ?_
      rintro e w1 ⟨rfl, hB1, hK1⟩
      obtain ⟨b1, b2, b3, b4⟩ := HJ.out
      obtain ⟨hv', W2, happ, hown', hgr⟩ := append_row (some ⟨wr.heap.size, 0, none⟩) n (n + 70) (.slice ha j hc) j _ (owns_kept b1.h hK1 fun _ _ h => h) (by omega)
      have hm2 : W2.ownsRow 0 59 1 (.slice ma j mc) j _ := owns_kept (owns_kept b1.m hK1 fun _ _ h => h) hgr.keeps fun g hg he => (b1.hf g he.symm).2 hg
      obtain ⟨mv', W3, mapp, mown', mgr⟩ := append_row (some ⟨wr.heap.size, 0, none⟩) n (n + 70) (.slice ma j mc) j _ hm2 (by omega)
      have HR : Hid ((∃ Bs', LP w W3 hv' mv' Bs' ls (j + 1)) ∧ Keeps (fun _ => False) w W3 ∧ j < 4) := by
        rw [b4] at hown' mown' hB1
        refine ⟨⟨_, b1.more b2.size hK1 hB1 hown' hgr mown' mgr⟩, ((b2.trans hK1 fun _ _ h => h).trans hgr.keeps fun b hb he => ?_).trans mgr.keeps fun b hb he => ?_, b3⟩
        · have := (b1.hf b he.symm).1; omega
        · have := b1.mf b he.symm; omega
      have HA1 : Hid (∀ ty, (Builtin.append_ #[27, 27] ty #[.slice ha j hc, .slice (some ⟨w1.heap.size, 0, none⟩) 1 1]).run Try.prog (w1.alloc (.cells #[.slice (some ⟨wr.heap.size, 0, none⟩) n (n + 70)] 59)) = .ok hv' W2) := happ
      have HA2 : Hid (∀ ty, (Builtin.append_ #[27, 27] ty #[.slice ma j mc, .slice (some ⟨W2.heap.size, 0, none⟩) 1 1]).run Try.prog (W2.alloc (.cells #[.slice (some ⟨wr.heap.size, 0, none⟩) n (n + 70)] 59)) = .ok mv' W3) := mapp
      clear H1 hB1 hK1 b1 b2 b3 b4 happ hown' hgr hm2 mapp mown' mgr cu
      go_wp2_with (at_builtin; go_must (refine wpList_append_run rfl (.tmp 24) (.tmp 26) 27 27 rfl (.slice ha j hc) (.slice (some ⟨w1.heap.size, 0, none⟩) 1 1) hv' W2 rfl rfl HA1.out ?_; refine Hid.out ?_))
      unfold Hid
      go_wp2_with (at_builtin; go_must (refine wpList_append_run rfl (.tmp 28) (.tmp 30) 27 27 rfl (.slice ma j mc) (.slice (some ⟨W2.heap.size, 0, none⟩) 1 1) mv' W3 rfl rfl HA2.out ?_; refine Hid.out ?_))
      unfold Hid
      go_wp2
      go_roundw
      case rel =>
        obtain ⟨⟨Bs', g1⟩, g2, g3⟩ := HR.out
        exact ⟨j + 1, Bs', by omega, by go_num, g1, g2⟩
      case measure => have := HR.out.2.2; simp [intOf]; omega
    · obtain rfl : j = 4 := by omega
      obtain ⟨Gh, ch, rfl, hch⟩ := row_lst hP.h
      obtain ⟨Gm, cm, rfl, hcm⟩ := row_lst hP.m
      obtain ⟨s1, s2, s3, s4, s5⟩ := HS.out
      have hlt1 := s1.lt
      have hzw := hK.size
      have hPl : ∀ w', Keeps F wr w' → LP w w' (.slice (some ⟨Gh, 0, none⟩) 4 ch) (.slice (some ⟨Gm, 0, none⟩) 4 cm) Bs ls 4 := fun w' hk => hP.kept hk fun b hb _ hf => by have := hlt1 b hf; omega
      have hLst : ∀ w', LP w w' (.slice (some ⟨Gh, 0, none⟩) 4 ch) (.slice (some ⟨Gm, 0, none⟩) 4 cm) Bs ls 4 → Lst w' Gh (hrow Bs ls) ls := fun w' hp => by
        obtain ⟨Gh', ch', e, hc'⟩ := row_lst hp.h
        injection e with e1 e2 e3
        injection e1 with e1
        injection e1 with e1
        subst e1
        exact ⟨hc', fun i hi => ⟨_, _, rfl, fl_seg (hp.b i hi).1, by omega⟩⟩
      have H1 : Hid (Calls _ _ _ _ _) := restore_any c st F Gh (hrow Bs ls) ls ch wr (s1.kept hK fun _ _ h => h) (fun w' hk => hLst w' (hPl w' hk)) s4 s5
      have HR : Hid (LP w wr (.slice (some ⟨Gh, 0, none⟩) 4 ch) (.slice (some ⟨Gm, 0, none⟩) 4 cm) Bs ls 4 ∧ (∀ w', LP w w' (.slice (some ⟨Gh, 0, none⟩) 4 ch) (.slice (some ⟨Gm, 0, none⟩) 4 cm) Bs ls 4 → Lst w' Gh (hrow Bs ls) ls) ∧ Keeps (fun _ => False) w wr) := ⟨hP, hLst, hK⟩
      clear hP hch hcm s1 s2 s3 s4 s5 hlt1 hzw hPl hLst hK hj hlt
      obtain ⟨wo, hwo⟩ : ∃ wo, wo = wr := ⟨_, rfl⟩
      subst hwo
      go_wp2_with fail
      refine H1.out.mono ?_
      rintro e w5 ⟨rfl, hN⟩
      have H5 : Hid (IV w wo w5 c F G vs ls D Gh ch Gm cm Bs) := by
        obtain ⟨s1, s2, s3, s4, s5⟩ := HS.out
        obtain ⟨p1, p2, p3⟩ := HR.out
        have hlt1 := s1.lt
        refine ⟨hN.1, p1.kept hN.2 fun b hb _ hf => by have := hlt1 b hf; omega, (s2.kept p3 fun _ _ h => h).kept hN.2 fun b hb hf => (s3 b hb).2 hf, (p3.mono fun _ _ h => h.elim).trans hN.2 fun _ _ h => h⟩
      have H6 : Hid (Calls _ _ _ _ _) := same_any Gh G (hrow Bs ls) vs ls ch cap w5 (HR.out.2.1 w5 H5.out.lp) H5.out.ld.lst (fun i hi => (HS.out.2.2.2.1 i hi).1)
      clear H1 hN
      go_wp2_with fail
      refine H6.out.mono ?_
      rintro e w6 ⟨rfl, hK6⟩
      have HI : Hid (IV w wo w6 c F G vs ls D Gh ch Gm cm Bs) := H5.out.kept hK6
      clear H5 H6 hK6
      go_wp2
      go_loopw [46] (fun i wr => ∃ j : Nat, j ≤ 4 ∧ i = .int .i64 j ∧ IV w wo wr c F G vs ls D Gh ch Gm cm Bs) (fun i _ => 4 - (intOf i).toNat)
      case atStart => exact ⟨0, by omega, rfl, HI.out⟩
      case round =>
        obtain ⟨j, hj, rfl, hI⟩ := hrel
        clear HI
        by_cases hlt : j < 4
        · have cu := hI.cells j hlt
          have cv := hI.ld.lst.cell j hlt
          obtain ⟨a, c', hv, hs, _⟩ := hI.ld.lst.seg j hlt
          rw [hv] at cv
          have hn2 := (HS.out.2.2.2.1 j hlt).1
          have H7 : Hid (∀ q, Calls Try.prog 40 #[.slice (some ⟨Bs j, 0, none⟩) (ls j).length ((ls j).length + 70), .slice a (ls j).length c'] (wr.drewN q) _) := fun q => kept_any (Bs j) a (ls j).length c' (ls j) (wr.drewN q) ((hI.lp.b j hlt).1.drewN q) (hs.kept ((Keeps.refl (fun _ => False) wr).drewN q) fun _ _ h => h) rfl hn2
          unfold hrow at cu
          obtain ⟨n, hn⟩ : ∃ n, n = (ls j).length := ⟨_, rfl⟩
          obtain ⟨Bj, hBj⟩ : ∃ b, b = Bs j := ⟨_, rfl⟩
          rw [← hn, ← hBj] at cu H7
          rw [← hn] at cv
          have hjz : (j : Int) < 4 := by omega
          have HJ : Hid (IV w wo wr c F G vs ls D Gh ch Gm cm Bs ∧ j < 4) := ⟨hI, hlt⟩
          clear hI hv hs hn hBj hlt hj hn2
          go_wp2_with fail
          go_quiet ((go_at_call 40; exact (H7.out _).mono fun e w2 h2 => ⟨h2.1, _, h2.2⟩))
          have HJ2 : Hid (IV w wo (wr.drewN nq) c F G vs ls D Gh ch Gm cm Bs) := HJ.out.1.kept ((Keeps.refl _ wr).drewN nq)
          clear cu cv H7
          go_wp2
          go_roundw
          case rel => exact ⟨j + 1, by have := HJ.out.2; omega, by go_num, HJ2.out⟩
          case measure => have := HJ.out.2; simp [intOf]; omega
        · obtain rfl : j = 4 := by omega
          have HI : Hid (IV w wo wr c F G vs ls D Gh ch Gm cm Bs) := hI
          clear hI hj hlt
          go_wp2
          go_loopw [62] (fun i wr => ∃ j : Nat, j ≤ 4 ∧ i = .int .i64 j ∧ IW w wo wr c F ls Gm Bs j) (fun i _ => 4 - (intOf i).toNat)
          case atStart => exact ⟨0, by omega, rfl, HI.out.iw HR.out.1.lt4 HS.out.1.lt⟩
          case round =>
            obtain ⟨j, hj, rfl, hW⟩ := hrel
            by_cases hlt : j < 4
            · have cu := hW.cells j hlt
              have hn2 := (HS.out.2.2.2.1 j hlt).1
              have H7 : Hid (∀ mk, Calls Try.prog 41 #[.slice (some ⟨Bs j, 0, none⟩) (ls j).length ((ls j).length + 70), .int .i64 mk] wr _) := fun mk => spoilInts_any (Bs j) (ls j).length (spareF (ls j)) mk wr (hW.b j (Nat.le_refl _) hlt) hn2
              unfold hrow at cu
              obtain ⟨n, hn⟩ : ∃ n, n = (ls j).length := ⟨_, rfl⟩
              obtain ⟨Bj, hBj⟩ : ∃ b, b = Bs j := ⟨_, rfl⟩
              rw [← hn, ← hBj] at cu H7
              have hjz : (j : Int) < 4 := by omega
              have HJ : Hid (IW w wo wr c F ls Gm Bs j ∧ j < 4 ∧ Bj = Bs j) := ⟨hW, hlt, hBj⟩
              clear hW hn hBj hlt hj hn2
              go_wp2_with fail
              refine (H7.out _).mono ?_
              rintro e w7 ⟨rfl, hK7⟩
              have HJ2 : Hid (IW w wo w7 c F ls Gm Bs (j + 1)) := HJ.out.1.step HJ.out.2.1 (by rw [← HJ.out.2.2]; exact hK7)
              clear cu H7 hK7
              go_wp2
              go_roundw
              case rel =>
                refine ⟨_, _, _, _, _, _, _, _, _, _, _, _, _, _, ⟨j + 1, by have := HJ.out.2.1; omega, ?_, HJ2.out⟩, rfl⟩
                go_num
              case measure => have := HJ.out.2.1; simp [intOf]; omega
            · obtain rfl : j = 4 := by omega
              have HF : Hid (NowC w wr c ls F) := hW.now HR.out.2.2.size
              clear hW hj hlt
              go_wp2
              go_ret
              exact ⟨rfl, HF.out⟩

end Go.Proofs.Ytajhkilclmicjaa
