import Derived.Test.YtekijhhpldnmnaaTq
import Derived.Test.YtekijhhpldnmnaaU
namespace Go.Proofs.Ytekijhhpldnmnaa
open Go.RowKit
set_option linter.unusedVariables false
set_option linter.unusedSimpArgs false

theorem MsS.grown {S : Nat → Prop} {w wr : World} {v : Value} {ms : List (List UInt32)} (h : MsS S w v ms) (k : Keeps (fun _ => False) w wr) : MsS S wr v ms := by
  obtain ⟨vals, h1, h3, h4⟩ := h
  exact ⟨vals, h1.kept k fun _ _ e => e, h3, fun j m hj => by obtain ⟨B, q1, q2, q3⟩ := h4 j m hj; exact ⟨B, q1, q2, q3.kept k fun e => e⟩⟩
theorem Blk.segw {w : World} {D : Nat} {xs : List UInt32} (h : Blk w D (wvs xs) 52) : SegW w (some ⟨D, 0, none⟩) xs := by
  exact segW_of_blk h
/-- What a call that changes the document's memory answers. -/
def NxP (w : World) (D M : Nat) (X : List UInt32) (B : Bool) (E : Int) (e : Ending) (w' : World) : Prop :=
  ∃ D' c', e = .returned (.tuple #[.slice (some ⟨D', 0, none⟩) M c', .bool B, .int .i64 E]) ∧ (D' = D ∨ w.heap.size ≤ D') ∧ Blk w' D' (wvs X) 52 ∧ Keeps (fun _ => False) w w'

set_option maxRecDepth 20000 in
set_option maxHeartbeats 2000000 in
theorem rtake_any (D M c : Nat) (p n d : Int) (xs : List UInt32) (w : World) (hB : Blk w D (wvs xs) 52) (hM : M = xs.length) (hm : M ≤ 256) :
    Calls Try.prog 36 #[.slice (some ⟨D, 0, none⟩) M c, .int .i64 p, .int .i64 n, .int .i64 d] w fun e w' => NxP w D M (tkX false xs p n d) (hdB false xs p n d) (lkE false xs p 3 n d) e w' := by
  have hbn := bounds_any n d w
  by_cases hf : fitE false n d = 0
  · rw [bnd_yes hf] at hbn
    have HBn : Hid (Calls _ _ _ _ _) := hbn
    obtain ⟨_, f1, f2, f3, f4⟩ := fit_ok hf
    obtain ⟨n', rfl⟩ : ∃ k : Nat, n = k := ⟨n.toNat, by omega⟩
    obtain ⟨d', rfl⟩ : ∃ k : Nat, d = k := ⟨d.toNat, by omega⟩
    have HC : Hid (Calls _ _ _ _ _) := port_any D M c n' d' p xs w hB hM hm hf
    obtain ⟨E, hE⟩ : ∃ E, E = lkE false xs p 3 n' d' := ⟨_, rfl⟩
    obtain ⟨r, hr⟩ : ∃ r, r = rdA xs p 3 n' d' := ⟨_, rfl⟩
    rw [← hE] at HC ⊢
    rw [← hr] at HC
    have HR : Hid (r = rdA xs p 3 n' d' ∧ E = lkE false xs p 3 n' d') := ⟨hr, hE⟩
    obtain ⟨TX, hTX⟩ : ∃ TX, TX = tkX false xs p n' d' := ⟨_, rfl⟩
    obtain ⟨HBl, hHB⟩ : ∃ HBl, HBl = hdB false xs p n' d' := ⟨_, rfl⟩
    rw [← hTX, ← hHB]
    have HLt : Hid (TX = tkX false xs p n' d' ∧ HBl = hdB false xs p n' d') := ⟨hTX, hHB⟩
    have HBD : Hid (Blk w D (wvs xs) 52 ∧ M = xs.length ∧ M ≤ 256) := ⟨hB, hM, hm⟩
    clear hTX hHB
    clear hbn hf hB hM hm hE hr
    go_enter Try.func36, Try.ntmps36
    go_wp2_with fail
    refine HBn.out.mono ?_
    rintro e w1 ⟨rfl, rfl⟩
    go_wp2_with fail
    refine HC.out.mono ?_
    intro e w2 hpp
    rcases hpp with ⟨hE, v, rfl, hms, hk⟩ | ⟨hE, rfl, hk⟩
    · obtain ⟨a, cc, hv, hcc, hlc⟩ := hms.form
      obtain ⟨LL, hLL⟩ : ∃ LL, LL = r.ms.length := ⟨_, rfl⟩
      rw [← hLL] at hv hlc
      subst hv
      obtain ⟨F, hF⟩ : ∃ F, F = r.f := ⟨_, rfl⟩
      obtain ⟨X, hX⟩ : ∃ X, X = r.lost.toNat := ⟨_, rfl⟩
      rw [← hF, ← hX]
      have hE0 : lkE false xs p 3 n' d' = 0 := by rw [← HR.out.2]; exact hE
      obtain ⟨_, p', n9, d9, rfl, en, ed, LI⟩ := lkE_ok (.inr rfl) hE0
      obtain rfl : n' = n9 := by omega
      obtain rfl : d' = d9 := by omega
      rw [← HR.out.1] at LI
      cases hmm : r.ms with
      | nil =>
        have hL0 : LL = 0 := by rw [hLL, hmm]; rfl
        have HQ : Hid (E = 0 ∧ HBl = false ∧ TX = xs ∧ Keeps (fun _ => False) w1 w2 ∧ Blk w2 D (wvs xs) 52) := by
          have q : hdB false xs p' n' d' = false := by unfold hdB; rw [← HR.out.1, hmm]; simp
          exact ⟨hE, by rw [HLt.out.2]; exact q, by rw [HLt.out.1]; exact if_neg (by rw [q]; decide), hk, HBD.out.1.kept hk fun e => e⟩
        subst hL0
        clear hE hms hk hLL hF hX HC hE0 hmm LI en ed
        go_wp2
        go_returns
        refine ⟨D, c, ?_, .inl rfl, ?_, HQ.out.2.2.2.1.alloc _⟩
        · rw [HQ.out.1, HQ.out.2.1]; rfl
        · rw [HQ.out.2.2.1]; exact HQ.out.2.2.2.2.alloc _
      | cons m ms =>
        have hL0 : LL = ms.length + 1 := by rw [hLL, hmm]; rfl
        have h0 : 0 < (LL : Int) := by omega
        have h0' : ¬ LL = 0 := by omega
        have h0'' : ¬ (LL : Int) = 0 := by omega
        have h9 : ((LL : Int) == 0) = false := beq_eq_false_iff_ne.2 (by omega)
        rw [hmm] at hms
        have hpo := LI.ok.pop
        have hFd : F < d' := by rw [hF]; exact LI.ok.f
        have hpm : (r.pop d').ms = ms := by show r.ms.tail = ms; rw [hmm]; rfl
        obtain ⟨K, hK⟩ : ∃ K, K = nxt d' F := ⟨_, rfl⟩
        have hKm := nxt_mod hFd
        have x1 : Int.tmod ((F : Int) + 1) (d' : Int) = (K : Int) := by rw [Int.tmod_eq_emod_of_nonneg (by omega), hK, ← hKm]; simp
        have hK8 : K < d' := by rw [hK]; exact nxt_lt hFd
        have x0 : ¬ (d' : Int) = 0 := by omega
        have x2 : (F : Int) < (d' : Int) := by omega
        have x3 : (d' : Int) ≤ 8 := by omega
        have HP : Hid (X = (r.pop d').lost.toNat ∧ (K = (r.pop d').f ∨ (r.pop d').ms = []) ∧ ((r.pop d').ms = [] → (r.pop d').f = 0) ∧ K < d' ∧ (∀ m ∈ (r.pop d').ms, m.length ≤ n') ∧ p' + rsz 3 n' d' ≤ M ∧ (r.pop d').ms.length ≤ d') := by
          refine ⟨hX, ?_, hpo.z, hK8, fun m hm => (hpo.l m hm).2, by rw [HBD.out.2.1]; exact LI.fit, hpo.m⟩
          by_cases e : r.ms.tail = []
          · exact .inr e
          · exact .inl (by show K = if r.ms.tail = [] then 0 else nxt d' r.f; rw [if_neg e, hK, hF])
        have q : hdB false xs p' n' d' = true := by unfold hdB; rw [← HR.out.1, hmm, hE0]; rfl
        have HQ : Hid (E = 0 ∧ HBl = true ∧ TX = tkX false xs p' n' d') := ⟨hE, by rw [HLt.out.2]; exact q, HLt.out.1⟩
        have HTX : Hid (tkX false xs p' n' d' = lay xs p' (enc 3 n' d' (r.pop d'))) := by
          show _ = _
          unfold tkX; rw [if_pos q, ← HR.out.1]; rfl
        obtain ⟨vals, q1, q2, q3, q4⟩ := hms
        obtain ⟨B, s1, s2, s3⟩ := q4 0 m rfl
        obtain ⟨g, o, hgo, hcell⟩ := q1.at s2
        subst hgo
        cases vals with
        | nil => simp at q3
        | cons u vals =>
          have q1' := q1.tail
          have q3' : vals.length = ms.length := by simpa using q3
          have HTL : Hid (∀ G, w2.heap.size ≤ G → MsS (· ≠ G) w2 (.slice (some ⟨g, if cc = 1 then o else o + 1, none⟩) (LL - 1) (cc - 1)) ms) := fun G hG => by
            rw [q3', show ms.length = LL - 1 by omega] at q1'
            refine ⟨vals, q1', q3', fun j x hj => ?_⟩
            obtain ⟨B2, r1, r2, r3⟩ := q4 (j + 1) x (by rw [List.getElem?_cons_succ]; exact hj)
            exact ⟨B2, by have := r3.lt; omega, by rw [List.getElem?_cons_succ] at r2; exact r2, r3⟩
          have HMN : Hid ((r.pop d').ms = ms) := hpm
          clear hL0 hE hLL hF hX HC hE0 hmm q1 q2 q3 q4 s1 s2 s3 hcell q1' q3' hpo hpm hK hKm q LI en ed
          by_cases hc1 : cc = 1
          · rw [if_pos hc1] at HTL
            have hL1 : LL = 1 := by omega
            subst hc1 hL1
            clear h0 h0' h0'' h9 hlc hcc
            obtain ⟨T, hT⟩ : ∃ T, T = w2.heap.size := ⟨_, rfl⟩
            obtain ⟨G, hG⟩ : ∃ G, G = (w2.alloc (.cells #[.int .i64 F, .slice (some ⟨g, o, none⟩) 1 1, .int .u32 X] 92)).heap.size := ⟨_, rfl⟩
            have hGT : G = T + 1 := by rw [hG, hT]; simp
            have hk3 : Keeps (fun _ => False) w2 (w2.alloc (.cells #[.int .i64 F, .slice (some ⟨g, o, none⟩) 1 1, .int .u32 X] 92)) := (Keeps.refl _ w2).alloc _
            have hT3 : Blk (w2.alloc (.cells #[.int .i64 F, .slice (some ⟨g, o, none⟩) 1 1, .int .u32 X] 92)) T [.int .i64 F, .slice (some ⟨g, o, none⟩) 1 1, .int .u32 X] 92 := by rw [hT]; exact Blk.new w2 _ 92
            have hcp := rcopied_any (some ⟨D, 0, none⟩) c xs (w2.alloc (.cells #[.int .i64 F, .slice (some ⟨g, o, none⟩) 1 1, .int .u32 X] 92)) (Blk.segw ((HBD.out.1.kept hk fun e => e).kept hk3 fun e => e)) (by have := HBD.out.2; omega)
            rw [← HBD.out.2.1, ← hG] at hcp
            have HCP : Hid (Calls _ _ _ _ _) := hcp
            have HAF : Hid (∀ w4, Blk w4 G (wvs xs) 52 → Keeps (fun _ => False) (w2.alloc (.cells #[.int .i64 F, .slice (some ⟨g, o, none⟩) 1 1, .int .u32 X] 92)) w4 →
                (w4.cell? ⟨T, 1, none⟩ = some (.slice (some ⟨g, o, none⟩) 1 1) ∧ w4.frozen? ⟨T, 1, none⟩ = false ∧ (w4.setCell ⟨T, 1, none⟩ (.slice (some ⟨g, o, none⟩) 0 0)).cell? ⟨T, 0, none⟩ = some (.int .i64 F) ∧ (w4.setCell ⟨T, 1, none⟩ (.slice (some ⟨g, o, none⟩) 0 0)).frozen? ⟨T, 0, none⟩ = false) ∧
                (((w4.setCell ⟨T, 1, none⟩ (.slice (some ⟨g, o, none⟩) 0 0)).setCell ⟨T, 0, none⟩ (.int .i64 K)).cell? ⟨T, 0, none⟩ = some (.int .i64 K) ∧ ((w4.setCell ⟨T, 1, none⟩ (.slice (some ⟨g, o, none⟩) 0 0)).setCell ⟨T, 0, none⟩ (.int .i64 K)).cell? ⟨T, 1, none⟩ = some (.slice (some ⟨g, o, none⟩) 0 0) ∧ ((w4.setCell ⟨T, 1, none⟩ (.slice (some ⟨g, o, none⟩) 0 0)).setCell ⟨T, 0, none⟩ (.int .i64 K)).cell? ⟨T, 2, none⟩ = some (.int .u32 X)) ∧
                Keeps (fun _ => False) w1 ((w4.setCell ⟨T, 1, none⟩ (.slice (some ⟨g, o, none⟩) 0 0)).setCell ⟨T, 0, none⟩ (.int .i64 K)) ∧ w1.heap.size ≤ G ∧
                Calls Try.prog 59 #[.slice (some ⟨G, 0, none⟩) M M, .int .i64 p', .int .i64 n', .int .i64 d', rv3 K (.slice (some ⟨g, o, none⟩) 0 0) X] ((w4.setCell ⟨T, 1, none⟩ (.slice (some ⟨g, o, none⟩) 0 0)).setCell ⟨T, 0, none⟩ (.int .i64 K)) fun e w' => e = .returned (.tuple #[]) ∧ Blk w' G (wvs (tkX false xs p' n' d')) 52 ∧ Keeps (· = G) ((w4.setCell ⟨T, 1, none⟩ (.slice (some ⟨g, o, none⟩) 0 0)).setCell ⟨T, 0, none⟩ (.int .i64 K)) w') := fun w4 hb4 hk4 => by
              have b4 := hT3.kept hk4 fun e => e
              have b5 := b4.setCell 1 (.slice (some ⟨g, o, none⟩) 0 0)
              have b6 := b5.setCell 0 (.int .i64 K)
              have k24 : Keeps (fun _ => False) w2 w4 := hk3.trans hk4 fun _ _ e => e
              have k25 := k24.setCell ⟨T, 1, none⟩ (.slice (some ⟨g, o, none⟩) 0 0) (fun h => by have : T < w2.heap.size := h; omega)
              have k26 := k25.setCell ⟨T, 0, none⟩ (.int .i64 K) (fun h => by have : T < w2.heap.size := h; omega)
              have k46 : Keeps (· = T) w4 ((w4.setCell ⟨T, 1, none⟩ (.slice (some ⟨g, o, none⟩) 0 0)).setCell ⟨T, 0, none⟩ (.int .i64 K)) := ((Keeps.refl (· = T) w4).setCell _ _ fun _ => rfl).setCell _ _ fun _ => rfl
              refine ⟨⟨b4.cell rfl, b4.frozen 1, b5.cell rfl, b5.frozen 0⟩, ⟨b6.cell rfl, b6.cell rfl, b6.cell rfl⟩, hk.trans k26 fun _ _ e => e, by have := hk.size; omega, ?_⟩
              have hgb : Blk ((w4.setCell ⟨T, 1, none⟩ (.slice (some ⟨g, o, none⟩) 0 0)).setCell ⟨T, 0, none⟩ (.int .i64 K)) G (wvs xs) 52 := hb4.kept k46 (fun e => by omega)
              have hvs : MsS (· ≠ G) ((w4.setCell ⟨T, 1, none⟩ (.slice (some ⟨g, o, none⟩) 0 0)).setCell ⟨T, 0, none⟩ (.int .i64 K)) (.slice (some ⟨g, o, none⟩) 0 0) ms := (HTL.out G (by omega)).grown k26
              have := layPort_any G M M p' n' d' K X xs (.slice (some ⟨g, o, none⟩) 0 0) (r.pop d') _ HP.out.1 HP.out.2.1 HP.out.2.2.1 HP.out.2.2.2.1 hgb HBD.out.2.1 (by have := HBD.out.2; omega) (by rw [HMN.out]; exact hvs) HP.out.2.2.2.2.1 ⟨by omega, by omega⟩ (by omega) HP.out.2.2.2.2.2.1 HP.out.2.2.2.2.2.2
              rw [HTX.out]
              exact this
            clear hcp hT3 hk3 hk
            go_wp2_with fail
            refine HCP.out.mono ?_
            rintro e w4 ⟨rfl, hb4, hk4⟩
            obtain ⟨⟨t1, t2, t3, t4⟩, ⟨s0, s1, s2⟩, hkw, hGl, hlp⟩ := HAF.out w4 hb4 hk4
            have HLP : Hid (Calls _ _ _ _ _) := hlp
            have HKW : Hid (Keeps _ _ _ ∧ w1.heap.size ≤ G) := ⟨hkw, hGl⟩
            rw [hT] at t1 t2 t3 t4 s0 s1 s2 HLP HKW
            clear hlp hkw hGl hb4 hk4 HAF HCP hGT hG hT
            go_wp2_with fail
            refine HLP.out.mono ?_
            rintro e w7 ⟨rfl, hb7, hk7⟩
            have HF : Hid (Blk w7 G (wvs (tkX false xs p' n' d')) 52 ∧ Keeps (fun _ => False) w1 w7 ∧ w1.heap.size ≤ G) := ⟨hb7, (HKW.out.1.trans hk7 fun b hb e => by have := HKW.out.2; omega), HKW.out.2⟩
            clear hb7 hk7 HLP HKW
            go_wp2
            go_returns
            refine ⟨G, M, ?_, .inr HF.out.2.2, ?_, HF.out.2.1⟩
            · rw [HQ.out.1, HQ.out.2.1]; rfl
            · rw [HQ.out.2.2]; exact HF.out.1
          · rw [if_neg hc1] at HTL
            obtain ⟨T, hT⟩ : ∃ T, T = w2.heap.size := ⟨_, rfl⟩
            obtain ⟨G, hG⟩ : ∃ G, G = (w2.alloc (.cells #[.int .i64 F, .slice (some ⟨g, o, none⟩) LL cc, .int .u32 X] 92)).heap.size := ⟨_, rfl⟩
            have hGT : G = T + 1 := by rw [hG, hT]; simp
            have hk3 : Keeps (fun _ => False) w2 (w2.alloc (.cells #[.int .i64 F, .slice (some ⟨g, o, none⟩) LL cc, .int .u32 X] 92)) := (Keeps.refl _ w2).alloc _
            have hT3 : Blk (w2.alloc (.cells #[.int .i64 F, .slice (some ⟨g, o, none⟩) LL cc, .int .u32 X] 92)) T [.int .i64 F, .slice (some ⟨g, o, none⟩) LL cc, .int .u32 X] 92 := by rw [hT]; exact Blk.new w2 _ 92
            have hcp := rcopied_any (some ⟨D, 0, none⟩) c xs (w2.alloc (.cells #[.int .i64 F, .slice (some ⟨g, o, none⟩) LL cc, .int .u32 X] 92)) (Blk.segw ((HBD.out.1.kept hk fun e => e).kept hk3 fun e => e)) (by have := HBD.out.2; omega)
            rw [← HBD.out.2.1, ← hG] at hcp
            have HCP : Hid (Calls _ _ _ _ _) := hcp
            have HAF : Hid (∀ w4, Blk w4 G (wvs xs) 52 → Keeps (fun _ => False) (w2.alloc (.cells #[.int .i64 F, .slice (some ⟨g, o, none⟩) LL cc, .int .u32 X] 92)) w4 →
                (w4.cell? ⟨T, 1, none⟩ = some (.slice (some ⟨g, o, none⟩) LL cc) ∧ w4.frozen? ⟨T, 1, none⟩ = false ∧ (w4.setCell ⟨T, 1, none⟩ (.slice (some ⟨g, o + 1, none⟩) (LL - 1) (cc - 1))).cell? ⟨T, 0, none⟩ = some (.int .i64 F) ∧ (w4.setCell ⟨T, 1, none⟩ (.slice (some ⟨g, o + 1, none⟩) (LL - 1) (cc - 1))).frozen? ⟨T, 0, none⟩ = false) ∧
                (((w4.setCell ⟨T, 1, none⟩ (.slice (some ⟨g, o + 1, none⟩) (LL - 1) (cc - 1))).setCell ⟨T, 0, none⟩ (.int .i64 K)).cell? ⟨T, 0, none⟩ = some (.int .i64 K) ∧ ((w4.setCell ⟨T, 1, none⟩ (.slice (some ⟨g, o + 1, none⟩) (LL - 1) (cc - 1))).setCell ⟨T, 0, none⟩ (.int .i64 K)).cell? ⟨T, 1, none⟩ = some (.slice (some ⟨g, o + 1, none⟩) (LL - 1) (cc - 1)) ∧ ((w4.setCell ⟨T, 1, none⟩ (.slice (some ⟨g, o + 1, none⟩) (LL - 1) (cc - 1))).setCell ⟨T, 0, none⟩ (.int .i64 K)).cell? ⟨T, 2, none⟩ = some (.int .u32 X)) ∧
                Keeps (fun _ => False) w1 ((w4.setCell ⟨T, 1, none⟩ (.slice (some ⟨g, o + 1, none⟩) (LL - 1) (cc - 1))).setCell ⟨T, 0, none⟩ (.int .i64 K)) ∧ w1.heap.size ≤ G ∧
                Calls Try.prog 59 #[.slice (some ⟨G, 0, none⟩) M M, .int .i64 p', .int .i64 n', .int .i64 d', rv3 K (.slice (some ⟨g, o + 1, none⟩) (LL - 1) (cc - 1)) X] ((w4.setCell ⟨T, 1, none⟩ (.slice (some ⟨g, o + 1, none⟩) (LL - 1) (cc - 1))).setCell ⟨T, 0, none⟩ (.int .i64 K)) fun e w' => e = .returned (.tuple #[]) ∧ Blk w' G (wvs (tkX false xs p' n' d')) 52 ∧ Keeps (· = G) ((w4.setCell ⟨T, 1, none⟩ (.slice (some ⟨g, o + 1, none⟩) (LL - 1) (cc - 1))).setCell ⟨T, 0, none⟩ (.int .i64 K)) w') := fun w4 hb4 hk4 => by
              have b4 := hT3.kept hk4 fun e => e
              have b5 := b4.setCell 1 (.slice (some ⟨g, o + 1, none⟩) (LL - 1) (cc - 1))
              have b6 := b5.setCell 0 (.int .i64 K)
              have k24 : Keeps (fun _ => False) w2 w4 := hk3.trans hk4 fun _ _ e => e
              have k25 := k24.setCell ⟨T, 1, none⟩ (.slice (some ⟨g, o + 1, none⟩) (LL - 1) (cc - 1)) (fun h => by have : T < w2.heap.size := h; omega)
              have k26 := k25.setCell ⟨T, 0, none⟩ (.int .i64 K) (fun h => by have : T < w2.heap.size := h; omega)
              have k46 : Keeps (· = T) w4 ((w4.setCell ⟨T, 1, none⟩ (.slice (some ⟨g, o + 1, none⟩) (LL - 1) (cc - 1))).setCell ⟨T, 0, none⟩ (.int .i64 K)) := ((Keeps.refl (· = T) w4).setCell _ _ fun _ => rfl).setCell _ _ fun _ => rfl
              refine ⟨⟨b4.cell rfl, b4.frozen 1, b5.cell rfl, b5.frozen 0⟩, ⟨b6.cell rfl, b6.cell rfl, b6.cell rfl⟩, hk.trans k26 fun _ _ e => e, by have := hk.size; omega, ?_⟩
              have hgb : Blk ((w4.setCell ⟨T, 1, none⟩ (.slice (some ⟨g, o + 1, none⟩) (LL - 1) (cc - 1))).setCell ⟨T, 0, none⟩ (.int .i64 K)) G (wvs xs) 52 := hb4.kept k46 (fun e => by omega)
              have hvs : MsS (· ≠ G) ((w4.setCell ⟨T, 1, none⟩ (.slice (some ⟨g, o + 1, none⟩) (LL - 1) (cc - 1))).setCell ⟨T, 0, none⟩ (.int .i64 K)) (.slice (some ⟨g, o + 1, none⟩) (LL - 1) (cc - 1)) ms := (HTL.out G (by omega)).grown k26
              have := layPort_any G M M p' n' d' K X xs (.slice (some ⟨g, o + 1, none⟩) (LL - 1) (cc - 1)) (r.pop d') _ HP.out.1 HP.out.2.1 HP.out.2.2.1 HP.out.2.2.2.1 hgb HBD.out.2.1 (by have := HBD.out.2; omega) (by rw [HMN.out]; exact hvs) HP.out.2.2.2.2.1 ⟨by omega, by omega⟩ (by omega) HP.out.2.2.2.2.2.1 HP.out.2.2.2.2.2.2
              rw [HTX.out]
              exact this
            clear hcp hT3 hk3 hk
            go_wp2_with fail
            refine HCP.out.mono ?_
            rintro e w4 ⟨rfl, hb4, hk4⟩
            obtain ⟨⟨t1, t2, t3, t4⟩, ⟨s0, s1, s2⟩, hkw, hGl, hlp⟩ := HAF.out w4 hb4 hk4
            have HLP : Hid (Calls _ _ _ _ _) := hlp
            have HKW : Hid (Keeps _ _ _ ∧ w1.heap.size ≤ G) := ⟨hkw, hGl⟩
            rw [hT] at t1 t2 t3 t4 s0 s1 s2 HLP HKW
            clear hlp hkw hGl hb4 hk4 HAF HCP hGT hG hT
            go_wp2_with fail
            refine HLP.out.mono ?_
            rintro e w7 ⟨rfl, hb7, hk7⟩
            have HF : Hid (Blk w7 G (wvs (tkX false xs p' n' d')) 52 ∧ Keeps (fun _ => False) w1 w7 ∧ w1.heap.size ≤ G) := ⟨hb7, (HKW.out.1.trans hk7 fun b hb e => by have := HKW.out.2; omega), HKW.out.2⟩
            clear hb7 hk7 HLP HKW
            go_wp2
            go_returns
            refine ⟨G, M, ?_, .inr HF.out.2.2, ?_, HF.out.2.1⟩
            · rw [HQ.out.1, HQ.out.2.1]; rfl
            · rw [HQ.out.2.2]; exact HF.out.1
    · have HQ : Hid (HBl = false ∧ TX = xs ∧ Keeps (fun _ => False) w1 w2 ∧ Blk w2 D (wvs xs) 52) := by
        have q : hdB false xs p n' d' = false := by unfold hdB; rw [decide_eq_false (by rw [← HR.out.2]; exact hE)]; rfl
        exact ⟨by rw [HLt.out.2]; exact q, by rw [HLt.out.1]; exact if_neg (by rw [q]; decide), hk, HBD.out.1.kept hk fun e => e⟩
      have hE9 : (E != 0) = true := bne_iff_ne.2 hE
      clear hE hk HC
      go_wp2
      go_returns
      refine ⟨D, c, ?_, .inl rfl, ?_, HQ.out.2.2.1.alloc _⟩
      · rw [HQ.out.1]; rfl
      · rw [HQ.out.2.1]; exact HQ.out.2.2.2.alloc _
  · rw [bnd_no hf] at hbn
    have HBn : Hid (Calls _ _ _ _ _) := hbn
    have hE := lkE_arg (xs := xs) (p := p) (h := 3) hf
    have hN : hdB false xs p n d = false := by unfold hdB; rw [hE]; rfl
    have hO : tkX false xs p n d = xs := if_neg (by rw [hN]; decide)
    rw [hE, hN, hO]
    have HB9 : Hid (Blk w D (wvs xs) 52) := hB
    clear hE hN hO hf hbn hB hM hm
    go_enter Try.func36, Try.ntmps36
    go_wp2_with fail
    refine HBn.out.mono ?_
    rintro e w1 ⟨rfl, rfl⟩
    go_wp2
    go_returns
    exact ⟨D, c, rfl, .inl rfl, HB9.out, Keeps.refl _ _⟩

end Go.Proofs.Ytekijhhpldnmnaa
