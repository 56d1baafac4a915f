import Derived.Test.YtfcgpjojjehkiaaT
namespace Go.Proofs.Ytfcgpjojjehkiaa
open Go.RowKit
set_option linter.unusedVariables false
set_option linter.unusedSimpArgs false

theorem laE_ok {xs : List UInt32} {bs : List Bx} (h : laE xs bs = 0) : (∀ b ∈ bs, b.tk xs.length = 0) ∧ ∀ i, i < bs.length → okAt xs bs i = true := by
  unfold laE at h
  by_cases h1 : takesE xs.length bs = 0
  · rw [if_neg (by simpa using h1)] at h
    by_cases h2 : formB xs bs = true
    · refine ⟨takesE_zero h1, fun i hi => ?_⟩
      unfold formB at h2
      rw [List.all_eq_true] at h2
      exact h2 i (by rw [List.mem_range]; exact hi)
    · rw [if_neg h2] at h; omega
  · rw [if_pos h1] at h; exact absurd h h1

theorem boxes_ok {xs : List UInt32} {p n : Int} {ports : List Int} (h : laE xs (boxes p n ports) = 0) :
    (1 ≤ n ∧ n ≤ 16 ∧ 0 ≤ p ∧ p + (2 + n) ≤ xs.length) ∧ (∀ q ∈ ports, 0 ≤ q ∧ q + (3 + n) ≤ xs.length) ∧ rightB 2 n.toNat (win xs p.toNat (2 + n.toNat)) = true := by
  obtain ⟨h1, h2⟩ := laE_ok h
  obtain ⟨-, s1, s2, s3, s4⟩ := tkE_ok (h1 ⟨p, 2, n⟩ (by simp [boxes]))
  refine ⟨⟨s1, s2, s3, by simp at s4; omega⟩, fun q hq => ?_, ?_⟩
  · obtain ⟨-, t1, t2, t3, t4⟩ := tkE_ok (h1 ⟨q, 3, n⟩ (by simp [boxes, pbx]; exact hq))
    exact ⟨t3, by simp at t4; omega⟩
  · have := h2 0 (by rw [boxes_length]; omega)
    unfold okAt at this
    rw [Bool.and_eq_true] at this
    exact this.1

theorem Dl.form {w wr : World} {v : Value} {p n : Int} {ports : List Int} {j : Nat} (h : Dl w wr v p n ports j) (hj : j ≤ ports.length) : ∃ g c, v = .slice (some ⟨g, 0, none⟩) (j + 1) c ∧ (j + 1 ≤ c ∧ c ≤ maxLen) ∧ g < wr.heap.size ∧ w.heap.size ≤ g ∧ SegB wr (some ⟨g, 0, none⟩) (boxes p n (ports.take j)) := by
  have hl : (boxes p n (ports.take j)).length = j + 1 := by rw [boxes_length, List.length_take]; omega
  have ho := h.own
  rw [← hl] at ho
  obtain ⟨g, c, h1, h2, h3, h4⟩ := segB_of_owns ho (by omega)
  rw [hl] at h1 h2
  obtain ⟨k, hk, hk2⟩ := h.new
  rw [h1] at hk
  cases hk
  exact ⟨g, c, h1, h2, h3, hk2, h4⟩

set_option maxRecDepth 20000 in
set_option maxHeartbeats 4000000 in
theorem deliver_in (b g : Nat) (xs : List UInt32) (p n : Int) (a : Option Addr) (cp : Nat) (ports : List Int) (w : World) (hm : Mm w b g xs) (hs : SegI w a ports) (hN1 : 1 ≤ ports.length) (hN2 : ports.length ≤ 4) (hp : p ≤ 9223372036854775807) (hps : ∀ q ∈ ports, q ≤ 9223372036854775807) :
    Calls Try.prog 15 #[.pointer (some ⟨b, 0, none⟩), .int .i64 p, .int .i64 n, .slice a ports.length cp] w (PutP w b g xs (dlE false xs p n ports) (dlX false xs p n ports)) := by
  have eE : dlE false xs p n ports = laE xs (boxes p n ports) := by unfold dlE; rw [if_neg (by simp), if_neg (by omega)]
  have HA : Hid (Calls _ _ _ _ _) := stageAt_any p n w
  have HA3 : Hid (∀ q W, Calls Try.prog 35 #[.int .i64 q, .int .i64 n] W fun e w' => e = .returned (bxv q 3 n) ∧ Keeps (fun _ => False) W w') := fun q W => portAt_any q n W
  have HPv : Hid (Mm w b g xs ∧ SegI w a ports ∧ p ≤ 9223372036854775807 ∧ (∀ q ∈ ports, q ≤ 9223372036854775807) ∧ dlE false xs p n ports = laE xs (boxes p n ports)) := ⟨hm, hs, hp, hps, eE⟩
  obtain ⟨N, hNN⟩ : ∃ N, N = ports.length := ⟨_, rfl⟩
  have HN : Hid (N = ports.length ∧ 1 ≤ N ∧ N ≤ 4) := ⟨hNN, by omega, by omega⟩
  rw [← hNN]
  have n1 : ¬ (N : Int) < 1 := by omega
  have n2 : ¬ 4 < (N : Int) := by omega
  clear hm hs hN1 hN2 hp hps hNN eE
  go_enter Try.func15, Try.ntmps15
  go_wp2_with fail
  refine HA.out.mono ?_
  rintro e w1 ⟨rfl, hk⟩
  have HD0 : Hid (Dl w (w1.alloc (.cells #[.int .i64 p, .int .i64 2, .int .i64 n] 69)) (.slice (some ⟨w1.heap.size, 0, none⟩) 1 1) p n ports 0) := by
    have hB := Blk.new w1 #[.int .i64 p, .int .i64 2, .int .i64 n] 69
    refine ⟨⟨by simp [flatB, boxes, pbx, Bx.vs], .inr ⟨w1.heap.size, 1, #[.int .i64 p, .int .i64 2, .int .i64 n], rfl, Nat.zero_le _, hB, by omega, by unfold maxLen; omega, rfl, rfl⟩⟩, ⟨w1.heap.size, rfl, hk.size⟩, hk.alloc _⟩
  clear hk HA
  go_wp2
  go_loopw [9, 30] (fun v i wr => ∃ j : Nat, j ≤ N ∧ i = .int .i64 j ∧ Dl w wr v p n ports j) (fun _ i _ => N - (intOf i).toNat)
  case atStart => exact ⟨0, by omega, rfl, HD0.out⟩
  case round =>
    clear HD0
    obtain ⟨j, hj, rfl, hD⟩ := hrel
    by_cases hlt : j < N
    · have hlt' : (j : Int) < N := by omega
      have hjp : j < ports.length := by have := HN.out.1; omega
      rcases HPv.out.2.1.kept hD.k (fun _ _ e => e) with h0 | ⟨gp, op, rfl, hcp⟩
      · rw [h0] at hjp; simp at hjp
      have cq := hcp j hjp
      obtain ⟨q, hq⟩ : ∃ q, q = ports[j]'hjp := ⟨_, rfl⟩
      rw [← hq] at cq
      have HQ : Hid (Calls _ _ _ _ _) := HA3.out q wr
      obtain ⟨gv, cv, rfl, fv, _⟩ := hD.form (by omega)
      have HDs : Hid (∀ w1, Keeps (fun _ => False) wr w1 → ∃ v' W', (∀ ty, (Builtin.append_ #[71, 71] ty #[.slice (some ⟨gv, 0, none⟩) (j + 1) cv, .slice (some ⟨w1.heap.size, 0, none⟩) 1 1]).run Try.prog (w1.alloc (.cells #[.int .i64 q, .int .i64 3, .int .i64 n] 69)) = .ok v' W') ∧ Dl w W' v' p n ports (j + 1)) := fun w1 kk => by
        have := hD.step hjp (by have := HN.out; omega) kk
        rw [← hq] at this
        exact this
      clear hj hD hjp hcp hq fv
      go_wp2_with fail
      refine HQ.out.mono ?_
      rintro e w2 ⟨rfl, hk⟩
      obtain ⟨v', W', hap, hD'⟩ := HDs.out w2 hk
      have HAP : Hid (∀ ty, (Builtin.append_ #[71, 71] ty #[.slice (some ⟨gv, 0, none⟩) (j + 1) cv, .slice (some ⟨w2.heap.size, 0, none⟩) 1 1]).run Try.prog (w2.alloc (.cells #[.int .i64 q, .int .i64 3, .int .i64 n] 69)) = .ok v' W') := hap
      have HD' : Hid (Dl w W' v' p n ports (j + 1)) := hD'
      clear hap hD' hk HQ HDs cq
      go_wp2_with (at_builtin; go_must (refine wpList_append_run rfl (.tmp 34) (.tmp 38) 71 71 rfl (.slice (some ⟨gv, 0, none⟩) (j + 1) cv) (.slice (some ⟨w2.heap.size, 0, none⟩) 1 1) v' W' rfl rfl HAP.out ?_; refine Hid.out ?_))
      unfold Hid
      go_wp2
      go_roundw
      case rel => exact ⟨j + 1, by omega, by go_num, HD'.out⟩
      case measure => simp [intOf]; omega
    · obtain rfl : j = N := by omega
      obtain ⟨gb, c, rfl, fc, fg, fl, fs⟩ := hD.form (by have := HN.out; omega)
      rw [List.take_of_length_le (by have := HN.out; omega)] at fs
      have hMm := HPv.out.1.kept hD.k (fun e => e) (fun e => e)
      have hlb : (boxes p n ports).length = j + 1 := by rw [boxes_length, ← HN.out.1]
      have HLk := lookAll_any b g xs gb c (boxes p n ports) wr hMm fs fg (by omega) (by have := HN.out; omega) (by rw [hlb]; exact fc) (by
        intro y hy
        rcases List.mem_cons.1 hy with rfl | hy
        · exact ⟨.inl rfl, HPv.out.2.2.1⟩
        · obtain ⟨q, hq, rfl⟩ := List.mem_map.1 hy
          exact ⟨.inr rfl, HPv.out.2.2.2.1 q hq⟩)
      rw [hlb] at HLk
      obtain ⟨M, hM⟩ : ∃ M, M = j + 1 := ⟨_, rfl⟩
      rw [← hM] at HLk ⊢
      have HLk : Hid (Calls _ _ _ _ _) := HLk
      have HZ : Hid (Mm wr b g xs ∧ SegB wr (some ⟨gb, 0, none⟩) (boxes p n ports) ∧ (j + 1 ≤ c ∧ c ≤ maxLen) ∧ gb < wr.heap.size ∧ w.heap.size ≤ gb ∧ Keeps (fun _ => False) w wr ∧ M = j + 1) := ⟨hMm, fs, fc, fg, fl, hD.k, hM⟩
      have m1 : 1 ≤ (M : Int) := by omega
      have m2 : (M : Int) ≤ c := by omega
      have m3 : (c : Int) ≤ 9223372036854775807 := by have := fc.2; unfold maxLen at this; omega
      have m4 : ¬ c = 1 := by have := HN.out; omega
      clear hD hj hlt fc fg fl fs hMm hlb hM
      go_wp2_with fail
      refine HLk.out.mono ?_
      rintro e w2 (⟨hE, rfl, hk⟩ | ⟨hE, y, hy, B, hBs, rfl, hB, hk⟩)
      · have HF : Hid (dlE false xs p n ports = laE xs (boxes p n ports) ∧ laE xs (boxes p n ports) ≠ 0 ∧ Keeps (fun _ => False) w w2) := ⟨HPv.out.2.2.2.2, hE, HZ.out.2.2.2.2.2.1.trans hk fun _ _ e => e⟩
        obtain ⟨E, hEE⟩ : ∃ E, E = laE xs (boxes p n ports) := ⟨_, rfl⟩
        rw [← hEE] at HF hE ⊢
        have hE2 : (E != 0) = true := bne_iff_ne.2 hE
        clear hE hk hEE HLk
        go_wp2
        go_ret
        refine ⟨by rw [HF.out.1]; rfl, ?_, HF.out.2.2.mono fun _ _ e => e.elim⟩
        unfold dlX
        rw [HF.out.1, if_neg HF.out.2.1]
        exact HPv.out.1.kept HF.out.2.2 (fun e => e) (fun e => e)
      · obtain rfl : (⟨p, 2, n⟩ : Bx) = y := by simpa [boxes] using hy
        have HBk := boxes_ok hE
        have e1 : wn xs ⟨p, 2, n⟩ = win xs p.toNat (2 + n.toNat) := rfl
        rw [e1] at hB ⊢
        have hwl : (win xs p.toNat (2 + n.toNat)).length = 2 + n.toNat := win_length _ _ _ (by omega)
        have hw0 : wd (win xs p.toNat (2 + n.toNat)) 0 = wd xs p.toNat := by rw [win_wd _ _ _ _ (by omega), Nat.add_zero]
        have c0 := hB.cell (wvs_wd (i := 0) (by omega))
        rw [hw0] at c0
        have hM2 : Mm w2 b g xs := HZ.out.1.kept hk (fun e => e) (fun e => e)
        have hk2 : Keeps (fun _ => False) w w2 := HZ.out.2.2.2.2.2.1.trans hk fun _ _ e => e
        have fs2 := HZ.out.2.1.grown hk
        have hgne : gb ≠ g := by have := HPv.out.1.row.lt; have := HZ.out.2.2.2.2.1; omega
        have HDE : Hid (dlE false xs p n ports = 0) := by show dlE false xs p n ports = 0; rw [HPv.out.2.2.2.2]; exact hE
        obtain ⟨L, hL⟩ : ∃ L, L = (win xs p.toNat (2 + n.toNat)).length := ⟨_, rfl⟩
        by_cases h0 : wd xs p.toNat = 0
        · have hX : dlX false xs p n ports = ageX xs (pbx n ports) := by unfold dlX; rw [if_pos HDE.out, if_pos h0]
          have HAg := age_any b g xs gb 3 (c - 1) (pbx n ports) w2 hM2 fs2.tail hgne (by rw [pbx_length]; have := HN.out; omega) (by rw [pbx_length]; have := HN.out; have := HZ.out.2.2.1; omega) (by
            intro y hy
            obtain ⟨q, hq, rfl⟩ := List.mem_map.1 hy
            have := HBk.2.1 q hq
            exact ⟨this.1, by show q + 1 < _; omega⟩)
          rw [pbx_length, ← HN.out.1, show j = M - 1 by have := HZ.out.2.2.2.2.2.2; omega, ← hX] at HAg
          have HAg : Hid (Calls _ _ _ _ _) := HAg
          have HK2 : Hid (Keeps (fun _ => False) w w2) := hk2
          rw [h0, show ((0 : UInt32).toNat : Int) = 0 from rfl] at c0
          rw [← hL]
          have l1 : 0 < (L : Int) := by omega
          clear hE hy hBs hB hk HBk e1 hwl hw0 hM2 hk2 fs2 hgne hL h0 hX HLk
          go_wp2_with fail
          refine HAg.out.mono ?_
          rintro e w3 ⟨rfl, hM3, hk3⟩
          have HY : Hid (Mm w3 b g (dlX false xs p n ports) ∧ Keeps (· = g) w w3) := ⟨hM3, (HK2.out.mono (T := (· = g)) fun _ _ e => e.elim).trans hk3 fun _ _ e => e⟩
          clear hM3 hk3 HAg c0
          go_wp2
          go_ret
          exact ⟨by rw [HDE.out]; rfl, HY.out⟩
        · have hX : dlX false xs p n ports = lay (briX xs n.toNat (win xs (p.toNat + 2) (wd xs (p.toNat + 1)).toNat) (pbx n ports)) p.toNat (List.replicate (2 + n.toNat) 0) := by unfold dlX; rw [if_pos HDE.out, if_neg h0]
          obtain ⟨⟨b1, b2, b3, b4⟩, b5, b6⟩ := HBk
          have h0' : wd (win xs p.toNat (2 + n.toNat)) 0 ≠ 0 := by rw [hw0]; exact h0
          obtain ⟨-, k1, k2⟩ := right_len b6 h0'
          have hw1 : wd (win xs p.toNat (2 + n.toNat)) (2 - 1) = wd xs (p.toNat + 1) := win_wd _ _ _ _ (by omega)
          have HMs := message_any p 2 n.toNat (wd xs (p.toNat + 1)).toNat B (win xs p.toNat (2 + n.toNat)) w2 (segW_of_blk hB) hwl (.inl rfl) (by rw [hw1]) (by rw [← hw1]; exact k1) (by rw [← hw1]; exact k2) (by omega)
          rw [hw1] at k1 k2
          have em : ((win xs p.toNat (2 + n.toNat)).drop 2).take (wd xs (p.toNat + 1)).toNat = win xs (p.toNat + 2) (wd xs (p.toNat + 1)).toNat := by
            unfold win
            rw [List.drop_take, List.drop_drop, List.take_take, show 2 + n.toNat - 2 = n.toNat by omega, Nat.min_eq_left k2]
          obtain ⟨k, hkk⟩ : ∃ k, k = (wd xs (p.toNat + 1)).toNat := ⟨_, rfl⟩
          rw [← hkk] at HMs k1 k2 em hX
          obtain ⟨ms, hms⟩ : ∃ ms, ms = win xs (p.toNat + 2) k := ⟨_, rfl⟩
          have hml : ms.length = k := by rw [hms]; exact win_length _ _ _ (by omega)
          rw [em, ← hms, show ((n.toNat : Nat) : Int) = n by omega] at HMs
          rw [← hms] at hX
          have hBr : ∀ W G, Keeps (fun _ => False) w2 W → w2.heap.size ≤ G → Blk W G (wvs ms) 34 → Calls Try.prog 38 #[.pointer (some ⟨b, 0, none⟩), .slice (some ⟨G, 0, none⟩) k k, .slice (some ⟨gb, 0, none⟩) M c] W fun e w' => e = .returned (.int .i64 0) ∧ Mm w' b g (dlX false xs p n ports) ∧ Keeps (· = g) W w' := by
            intro W G kk hG hGB
            have := bring_any b g xs (some ⟨G, 0, none⟩) k ms gb c ⟨p, 2, n⟩ (pbx n ports) n.toNat W (hM2.kept kk (fun e => e) (fun e => e)) (segW_of_blk hGB) (fs2.grown kk) hgne (by intro x e; cases e; have := hM2.row.lt; show G ≠ g; omega) (by rw [pbx_length]; have := HN.out; omega) (by rw [pbx_length]; have := HN.out; omega) (by rw [pbx_length]; have := HN.out; have := HZ.out.2.2.1; omega)
              (by omega) (by omega) (by omega) ⟨rfl, by show n = _; omega, b3, by show p + _ ≤ _; omega⟩ (by
                intro y hy
                obtain ⟨q, hq, rfl⟩ := List.mem_map.1 hy
                have := b5 q hq
                exact ⟨rfl, by show n = _; omega, this.1, by show q + _ ≤ _; omega⟩)
            rw [hml, pbx_length, ← HN.out.1, ← HZ.out.2.2.2.2.2.2, ← hX] at this
            exact this
          have HBr : Hid (∀ W G, Keeps (fun _ => False) w2 W → w2.heap.size ≤ G → Blk W G (wvs ms) 34 → Calls Try.prog 38 #[.pointer (some ⟨b, 0, none⟩), .slice (some ⟨G, 0, none⟩) k k, .slice (some ⟨gb, 0, none⟩) M c] W fun e w' => e = .returned (.int .i64 0) ∧ Mm w' b g (dlX false xs p n ports) ∧ Keeps (· = g) W w') := hBr
          have HK2 : Hid (Keeps (fun _ => False) w w2) := hk2
          have hb0 : BxAt w2 gb 0 ⟨p, 2, n⟩ := by
            rcases fs2 with h | ⟨g', o', ha, hc⟩
            · cases h
            · simp at ha
              obtain ⟨rfl, rfl⟩ := ha
              exact hc 0 _ rfl
          obtain ⟨d0, d1, d2⟩ := hb0
          simp only [Nat.zero_add] at d0 d1 d2
          have e2 : ((2 : Nat) : Int) = 2 := rfl
          rw [e2] at d1
          have hv0 : (((wd xs p.toNat).toNat : Int) == 0) = false := by
            have : (wd xs p.toNat).toNat ≠ 0 := fun e => h0 (UInt32.toNat_inj.1 (by simpa using e))
            exact beq_eq_false_iff_ne.2 (by omega)
          obtain ⟨v0, hv⟩ : ∃ v : Nat, v = (wd xs p.toNat).toNat := ⟨_, rfl⟩
          rw [← hv] at c0 hv0
          rw [← hL] at HMs ⊢
          have HMs : Hid (Calls _ _ _ _ _) := HMs
          have l1 : 0 < (L : Int) := by omega
          clear hE hy hBs hB hk b1 b2 b3 b4 b5 b6 e1 hwl hw0 hM2 hk2 fs2 hgne hL h0 hX HLk h0' k1 k2 hw1 em hkk hms hml hBr e2 hv
          go_wp2_with fail
          refine HMs.out.mono ?_
          rintro e w3 ⟨G, hG, rfl, hGB, hk3⟩
          have HBr2 : Hid (Calls _ _ _ _ _) := HBr.out w3 G hk3 hG hGB
          have HK3 : Hid (Keeps (fun _ => False) w w3) := HK2.out.trans hk3 fun _ _ e => e
          clear hG hGB hk3 HMs HBr c0 d0 d1 d2
          go_wp2_with fail
          refine HBr2.out.mono ?_
          rintro e w4 ⟨rfl, hM4, hk4⟩
          have HY : Hid (Mm w4 b g (dlX false xs p n ports) ∧ Keeps (· = g) w w4) := ⟨hM4, (HK3.out.mono (T := (· = g)) fun _ _ e => e.elim).trans hk4 fun _ _ e => e⟩
          clear hM4 hk4 HBr2
          go_wp2
          go_ret
          exact ⟨by rw [HDE.out]; rfl, HY.out⟩

theorem deliver_any (nil : Bool) (b g : Nat) (xs : List UInt32) (p n : Int) (a : Option Addr) (cp : Nat) (ports : List Int) (w : World) (hm : Mm w b g xs) (hs : SegI w a ports) (hp : p ≤ 9223372036854775807) (hps : ∀ q ∈ ports, q ≤ 9223372036854775807) :
    Calls Try.prog 15 #[mpv nil b, .int .i64 p, .int .i64 n, .slice a ports.length cp] w (PutP w b g xs (dlE nil xs p n ports) (dlX nil xs p n ports)) := by
  have fin : ∀ E : Int, E ≠ 0 → dlE nil xs p n ports = E → (Calls Try.prog 15 #[mpv nil b, .int .i64 p, .int .i64 n, .slice a ports.length cp] w fun e w' => e = .returned (.int .i64 E) ∧ w' = w) → Calls Try.prog 15 #[mpv nil b, .int .i64 p, .int .i64 n, .slice a ports.length cp] w (PutP w b g xs (dlE nil xs p n ports) (dlX nil xs p n ports)) := by
    intro E h0 hE hC
    unfold dlX
    rw [hE, if_neg h0]
    refine hC.mono ?_
    rintro e w' ⟨rfl, rfl⟩
    exact ⟨rfl, hm, Keeps.refl _ _⟩
  cases nil
  · by_cases h1 : ports.length < 1 ∨ 4 < ports.length
    · exact fin 1 (by omega) (by unfold dlE; rw [if_neg (by simp), if_pos h1]) (deliver_arg b p n a ports.length cp w h1)
    · exact deliver_in b g xs p n a cp ports w hm hs (by omega) (by omega) hp hps
  · exact fin 3 (by omega) (by unfold dlE; rw [if_pos rfl]) (deliver_nil p n _ w)

end Go.Proofs.Ytfcgpjojjehkiaa
