import Derived.Test.YtekijhhpldnmnaaTt
import Derived.Test.YtekijhhpldnmnaaYb
namespace Go.Proofs.Ytekijhhpldnmnaa
open Go.RowKit
set_option linter.unusedVariables false
set_option linter.unusedSimpArgs false

set_option maxHeartbeats 2000000 in
theorem spoilNil (mark : Int) (w : World) :
    Calls Try.prog 29 #[.slice none 0 0, .int .u32 mark] w fun e w' => e = .returned (.tuple #[]) ∧ Keeps (fun _ => False) w w' := by
  go_enter Try.func29, Try.ntmps29
  go_wp2
  go_loopw [4] (fun i wr => i = .int .i64 0 ∧ wr = w) (fun i _ => 0)
  case atStart => exact ⟨rfl, rfl⟩
  case round =>
    obtain ⟨rfl, rfl⟩ := hrel
    have HR : Hid (wr.ownsRow 0 52 1 (.slice none 0 0) 0 []) := ⟨rfl, .inl ⟨rfl, rfl⟩⟩
    obtain ⟨wo, hwo⟩ : ∃ wo, wo = wr := ⟨_, rfl⟩
    subst hwo
    go_wp2
    go_loopw [0, 5] (fun v i wr => ∃ (j : Nat) (vs : List Value), j ≤ 72 ∧ i = .int .i64 j ∧ wr.ownsRow 0 52 1 v j vs ∧ Grew wo (.slice none 0 0) wr v) (fun _ i _ => 72 - (intOf i).toNat)
    case atStart => exact ⟨0, _, by omega, rfl, HR.out, Grew.refl _ _⟩
    case round =>
      obtain ⟨j, vs, hj, rfl, hO, hG⟩ := hrel
      by_cases hlt : j < 72
      · obtain ⟨a, c, rfl⟩ := owns_form hO
        have hjz : (j : Int) < 72 := by omega
        have HAP : Hid (∀ z : Int, ∃ v' W', (∀ ty, (Builtin.append_ #[22, 22] ty #[.slice a j c, .slice (some ⟨wr.heap.size, 0, none⟩) 1 1]).run Try.prog (wr.alloc (.cells #[.int .u32 z] 52)) = .ok v' W') ∧ ((∃ vs', W'.ownsRow 0 52 1 v' (j + 1) vs') ∧ Grew wo (.slice none 0 0) W' v')) := fun z => by
          obtain ⟨v', W', h1, h2, h3, h4⟩ := append_word z (.slice a j c) _ _ hO (by omega)
          exact ⟨v', W', h1, ⟨_, h2⟩, hG.trans ⟨h3, h4⟩⟩
        have HJ : Hid (j < 72) := hlt
        clear hO hG hj hlt
        go_wp2_with (at_builtin; go_must (refine wpList_append_ex rfl _ _ 22 22 rfl (.slice a j c) wr rfl rfl (fun v' W' => (∃ vs', W'.ownsRow 0 52 1 v' (j + 1) vs') ∧ Grew wo (.slice none 0 0) W' v') HAP.out _ ?_); intro v' W' hR2; refine Hid.out ?_)
        unfold Hid
        have HR2 : Hid ((∃ vs', W'.ownsRow 0 52 1 v' (j + 1) vs') ∧ Grew wo (.slice none 0 0) W' v') := hR2
        clear hR2
        go_wp2
        go_roundw
        case rel =>
          obtain ⟨⟨vs', h1⟩, h2⟩ := HR2.out
          exact ⟨j + 1, vs', by have := HJ.out; omega, by go_num, h1, h2⟩
        case measure => have := HJ.out; simp [intOf]; omega
      · obtain rfl : j = 72 := by omega
        have HR2 : Hid (Keeps (fun _ => False) wo wr) := hG.keeps.mono (T := fun _ => False) fun b hb he => by
          simp [Value.ownBlock] at he
        clear hO hG hj hlt
        go_wp2
        go_end0
        exact ⟨rfl, HR2.out⟩

end Go.Proofs.Ytekijhhpldnmnaa
namespace Go.Proofs.Ytekijhhpldnmnaa
open Go.RowKit
set_option linter.unusedVariables false
set_option linter.unusedSimpArgs false

theorem hdM_len (xs : List UInt32) (p n d : Int) : (hdM false xs p n d).length ≤ 16 := by
  unfold hdM
  by_cases h : hdB false xs p n d = true
  · rw [if_pos h]
    unfold hdB at h
    rw [Bool.and_eq_true, decide_eq_true_iff] at h
    obtain ⟨_, p', n', d', rfl, rfl, rfl, LI⟩ := lkE_ok (.inr rfl) h.1
    cases hms : (rdA xs p' 3 n' d').ms with
    | nil => simp
    | cons m ms =>
      have := LI.ok.le m (by rw [hms]; exact List.mem_cons_self)
      have := LI.n2
      show m.length ≤ 16
      omega
  · rw [if_neg h]; simp

/-- A message that was looked at: where it lies. -/
def LkA (lo : Nat) (w : World) (a : Option Addr) (m : List UInt32) : Prop := (a = none ∧ m = []) ∨ ∃ G, lo ≤ G ∧ a = some ⟨G, 0, none⟩ ∧ Blk w G (wvs m) 52
theorem LkA.seg {lo : Nat} {w : World} {a : Option Addr} {m : List UInt32} (h : LkA lo w a m) : SegW w a m := by
  rcases h with ⟨_, h⟩ | ⟨G, _, rfl, hb⟩
  · exact .inl h
  · exact segW_of_blk hb
theorem LkA.kept {S : Nat → Prop} {lo : Nat} {w w' : World} {a : Option Addr} {m : List UInt32} (h : LkA lo w a m) (k : Keeps S w w') (hn : ∀ b, lo ≤ b → ¬ S b) : LkA lo w' a m := by
  rcases h with h | ⟨G, h1, h2, hb⟩
  · exact .inl h
  · exact .inr ⟨G, h1, h2, hb.kept k (hn G h1)⟩
theorem LkA.spoil {lo : Nat} {w : World} {a : Option Addr} {m : List UInt32} (h : LkA lo w a m) (hl : m.length ≤ 16) (mark : Int) :
    ∃ K : Nat → Prop, (∀ b, K b → lo ≤ b ∧ b < w.heap.size) ∧ ∀ w', Keeps (fun _ => False) w w' → Calls Try.prog 29 #[.slice a m.length m.length, .int .u32 mark] w' fun e w'' => e = .returned (.tuple #[]) ∧ Keeps K w' w'' := by
  rcases h with ⟨rfl, rfl⟩ | ⟨G, h1, rfl, hb⟩
  · exact ⟨fun _ => False, fun _ e => e.elim, fun w' _ => spoilNil mark w'⟩
  · refine ⟨(· = G), fun b e => by subst e; exact ⟨h1, hb.lt⟩, fun w' k => ?_⟩
    have hb' := hb.kept k fun e => e
    rw [wvs_fU] at hb'
    exact spoilWords_any G m.length m.length _ mark w' hb' hl (Nat.le_refl _) (by omega)

set_option maxRecDepth 20000 in
set_option maxHeartbeats 4000000 in
theorem told_any (b g : Nat) (xs : List UInt32) (kd p n d : Int) (pa ma wa : Option Addr) (pl pc ml mc wc : Nat) (w : World) (hm : Mm w b g xs) (hp : p ≤ 9223372036854775807) (hw : SegW w wa (hdM false xs p n d)) :
    Calls Try.prog 35 #[.pointer (some ⟨b, 0, none⟩), .agg #[.int .i64 kd, .int .i64 p, .int .i64 n, .int .i64 d, .slice pa pl pc, .slice ma ml mc], .slice wa (hdM false xs p n d).length wc, .bool (hdB false xs p n d), .int .i64 (lkE false xs p 3 n d)] w fun e w' => e = .returned (.bool true) ∧ Keeps (fun _ => False) w w' := by
  have hl16 := hdM_len xs p n d
  have HLK : Hid (∀ w', Mm w' b g xs → Calls Try.prog 18 #[.pointer (some ⟨b, 0, none⟩), .int .i64 p, .int .i64 n, .int .i64 d] w' fun e w'' => ∃ a, e = .returned (.tuple #[.slice a (hdM false xs p n d).length (hdM false xs p n d).length, .bool (hdB false xs p n d), .int .i64 (lkE false xs p 3 n d)]) ∧ LkA w'.heap.size w'' a (hdM false xs p n d) ∧ Keeps (fun _ => False) w' w'') := fun w' hm' =>
    look3_any false b g xs p n d w' hm' hp
  obtain ⟨m, hmm⟩ : ∃ m, m = hdM false xs p n d := ⟨_, rfl⟩
  obtain ⟨B, hBB⟩ : ∃ B, B = hdB false xs p n d := ⟨_, rfl⟩
  obtain ⟨E, hEE⟩ : ∃ E, E = lkE false xs p 3 n d := ⟨_, rfl⟩
  rw [← hmm, ← hBB, ← hEE] at HLK
  rw [← hmm] at hl16 hw
  rw [← hmm, ← hBB, ← hEE]
  obtain ⟨L, hL⟩ : ∃ L, L = m.length := ⟨_, rfl⟩
  have HSM : Hid (∀ w' a c, SegW w' a m → SegW w' wa m → Calls Try.prog 13 #[.slice a L c, .slice wa L wc] w' fun e w'' => e = .returned (.bool true) ∧ Keeps (fun _ => False) w' w'') := fun w' a c h1 h2 => by
    rw [hL]; exact same_any a wa c wc m w' h1 h2 (by omega)
  have HSP : Hid (∀ lo w' a, LkA lo w' a m → ∃ K : Nat → Prop, (∀ b, K b → lo ≤ b ∧ b < w'.heap.size) ∧ ∀ w'', Keeps (fun _ => False) w' w'' → Calls Try.prog 29 #[.slice a L L, .int .u32 36864] w'' fun e w3 => e = .returned (.tuple #[]) ∧ Keeps K w'' w3) := fun lo w' a h => by
    rw [hL]; exact h.spoil hl16 36864
  rw [← hL] at HLK
  rw [← hL]
  have HM : Hid (Mm w b g xs ∧ SegW w wa m) := ⟨hm, hw⟩
  obtain ⟨W1, hW1⟩ : ∃ W1, W1 = w.alloc (.cells #[.int .i64 kd, .int .i64 p, .int .i64 n, .int .i64 d, .slice pa pl pc, .slice ma ml mc] 35) := ⟨_, rfl⟩
  obtain ⟨O, hO⟩ : ∃ O, O = w.heap.size := ⟨_, rfl⟩
  have hk1 : Keeps (fun _ => False) w W1 := by rw [hW1]; exact (Keeps.refl _ w).alloc _
  have hO1 : Blk W1 O [.int .i64 kd, .int .i64 p, .int .i64 n, .int .i64 d, .slice pa pl pc, .slice ma ml mc] 35 := by rw [hO, hW1]; exact Blk.new w _ 35
  have HW : Hid (W1 = w.alloc (.cells #[.int .i64 kd, .int .i64 p, .int .i64 n, .int .i64 d, .slice pa pl pc, .slice ma ml mc] 35) ∧ O = w.heap.size ∧ Keeps (fun _ => False) w W1 ∧ Blk W1 O [.int .i64 kd, .int .i64 p, .int .i64 n, .int .i64 d, .slice pa pl pc, .slice ma ml mc] 35) := ⟨hW1, hO, hk1, hO1⟩
  have t1 := hO1.cell (i := 1) rfl
  have t2 := hO1.cell (i := 2) rfl
  have t3 := hO1.cell (i := 3) rfl
  rw [hW1, hO] at t1 t2 t3
  clear hm hw hmm hBB hEE hL hW1 hO hk1 hO1 hl16
  go_enter Try.func35, Try.ntmps35
  go_wp2_with fail
  rw [← HW.out.1, ← HW.out.2.1]
  refine (HLK.out W1 (HM.out.1.kept HW.out.2.2.1 (fun e => e) (fun e => e))).mono ?_
  rintro e w2 ⟨a2, rfl, hA2, hk2⟩
  have H2 : Hid (LkA W1.heap.size w2 a2 m ∧ Keeps (fun _ => False) W1 w2) := ⟨hA2, hk2⟩
  have hO2 := HW.out.2.2.2.kept hk2 fun e => e
  have s1 := hO2.cell (i := 1) rfl
  have s2 := hO2.cell (i := 2) rfl
  have s3 := hO2.cell (i := 3) rfl
  clear hA2 hk2 hO2 t1 t2 t3
  go_wp2_with fail
  refine (HLK.out w2 ((HM.out.1.kept HW.out.2.2.1 (fun e => e) (fun e => e)).kept H2.out.2 (fun e => e) (fun e => e))).mono ?_
  rintro e w3 ⟨a3, rfl, hA3, hk3⟩
  have H3 : Hid (LkA w2.heap.size w3 a3 m ∧ Keeps (fun _ => False) w2 w3) := ⟨hA3, hk3⟩
  clear hA3 hk3 s1 s2 s3
  go_wp2_with fail
  have hwk : ∀ w', Keeps (fun _ => False) w w' → SegW w' wa m := fun w' k => HM.out.2.kept k fun _ _ e => e
  have HWK : Hid (∀ w', Keeps (fun _ => False) w w' → SegW w' wa m) := hwk
  have k13 : Keeps (fun _ => False) w w3 := (HW.out.2.2.1.trans H2.out.2 fun _ _ e => e).trans H3.out.2 fun _ _ e => e
  have HK3 : Hid (Keeps (fun _ => False) w w3) := k13
  clear hwk k13
  refine (HSM.out w3 a2 L (H2.out.1.kept H3.out.2 fun _ _ e => e).seg (HWK.out w3 HK3.out)).mono ?_
  rintro e w4 ⟨rfl, hk4⟩
  have HK4 : Hid (Keeps (fun _ => False) w3 w4) := hk4
  clear hk4
  go_wp2_with fail
  refine (HSM.out w4 a3 L (H3.out.1.kept HK4.out fun _ _ e => e).seg (HWK.out w4 (HK3.out.trans HK4.out fun _ _ e => e))).mono ?_
  rintro e w5 ⟨rfl, hk5⟩
  have HK5 : Hid (Keeps (fun _ => False) w3 w5) := HK4.out.trans hk5 fun _ _ e => e
  clear hk5
  go_wp2_with fail
  obtain ⟨K, hKb, hKc⟩ := HSP.out W1.heap.size w2 a2 H2.out.1
  refine (hKc w5 (H3.out.2.trans HK5.out fun _ _ e => e)).mono ?_
  rintro e w6 ⟨rfl, hk6⟩
  have HK6 : Hid ((∀ b, K b → W1.heap.size ≤ b ∧ b < w2.heap.size) ∧ Keeps K w5 w6) := ⟨hKb, hk6⟩
  have hk16 : Keeps (fun _ => False) w w6 := (HK3.out.trans HK5.out fun _ _ e => e).trans hk6 fun x hx e => by
    have := (hKb x e).1
    have := HW.out.2.2.1.size
    omega
  have HK16 : Hid (Keeps (fun _ => False) w w6) := hk16
  have hA6 : LkA w2.heap.size w6 a3 m := (H3.out.1.kept HK5.out fun _ _ e => e).kept hk6 fun x hx e => by have := (hKb x e).2; omega
  have hO6 : Blk w6 O [.int .i64 kd, .int .i64 p, .int .i64 n, .int .i64 d, .slice pa pl pc, .slice ma ml mc] 35 := ((HW.out.2.2.2.kept H2.out.2 fun e => e).kept (H3.out.2.trans HK5.out fun _ _ e => e) fun e => e).kept hk6 fun e => by
    have := (hKb _ e).1
    have := HW.out.2.2.2.lt
    omega
  have HO6 : Hid (Blk w6 O [.int .i64 kd, .int .i64 p, .int .i64 n, .int .i64 d, .slice pa pl pc, .slice ma ml mc] 35 ∧ LkA w2.heap.size w6 a3 m) := ⟨hO6, hA6⟩
  clear hKb hKc hk6 hk16 hA6 hO6 HK6 HSP
  go_wp2_with fail
  refine (HSM.out w6 a3 L HO6.out.2.seg (HWK.out w6 HK16.out)).mono ?_
  rintro e w7 ⟨rfl, hk7⟩
  have HK7 : Hid (Keeps (fun _ => False) w6 w7) := hk7
  have hO7 := HO6.out.1.kept hk7 fun e => e
  have s1 := hO7.cell (i := 1) rfl
  have s2 := hO7.cell (i := 2) rfl
  have s3 := hO7.cell (i := 3) rfl
  clear hO7 hk7
  go_wp2_with fail
  refine (HLK.out w7 (HM.out.1.kept (HK16.out.trans HK7.out fun _ _ e => e) (fun e => e) (fun e => e))).mono ?_
  rintro e w8 ⟨a8, rfl, hA8, hk8⟩
  have H8 : Hid (LkA w7.heap.size w8 a8 m ∧ Keeps (fun _ => False) w6 w8) := ⟨hA8, HK7.out.trans hk8 fun _ _ e => e⟩
  clear hA8 hk8 s1 s2 s3
  go_wp2_with fail
  refine (HSM.out w8 a8 L H8.out.1.seg (HWK.out w8 (HK16.out.trans H8.out.2 fun _ _ e => e))).mono ?_
  rintro e w9 ⟨rfl, hk9⟩
  have HK9 : Hid (Keeps (fun _ => False) w6 w9) := H8.out.2.trans hk9 fun _ _ e => e
  clear hk9
  go_wp2_with fail
  refine (HSM.out w9 a3 L (HO6.out.2.kept HK9.out fun _ _ e => e).seg (HWK.out w9 (HK16.out.trans HK9.out fun _ _ e => e))).mono ?_
  rintro e w10 ⟨rfl, hk10⟩
  have HK10 : Hid (Keeps (fun _ => False) w w10) := (HK16.out.trans HK9.out fun _ _ e => e).trans hk10 fun _ _ e => e
  clear hk10
  go_wp2
  go_ret
  exact ⟨rfl, HK10.out⟩

end Go.Proofs.Ytekijhhpldnmnaa
