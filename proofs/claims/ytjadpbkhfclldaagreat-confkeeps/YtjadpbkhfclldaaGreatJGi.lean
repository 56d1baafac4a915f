import Derived.Test.YtjadpbkhfclldaaGreatJGh
namespace Go.Proofs.YtjadpbkhfclldaaGreat
open Go.RowKit
set_option linter.unusedVariables false
set_option maxRecDepth 6000
set_option linter.unusedSimpArgs false

/-- What the bytes say, by what the cursor read. -/
theorem decC_of {B : List UInt8} {P : PCfg} {q q2 V : Nat} {bad bad2 : Bool} (hm : rdMark B 0 = .ok ((), 4)) (hc : cCfg B (4, false) = (P, q, bad)) (hn : cNum B 4 (q, bad) = (V, q2, bad2)) :
    (bad2 = true → dec B = .error (q2, 110)) ∧ (bad2 = false → q2 = q + 4 ∧ q2 ≤ B.length ∧ (q2 < B.length → dec B = .error (q2, 110)) ∧ (q2 = B.length → (V = sumN (B.take q) → dec B = .ok P) ∧ (V ≠ sumN (B.take q) → dec B = .error (q, 111)))) := by
  rcases (It.cfg B).2 4 with ⟨x, r, h1, h2⟩ | ⟨r, h1, h2⟩
  · rw [h2] at hc
    injection hc with e1 e2
    injection e2 with e2 e3
    subst e1 e2 e3
    have hd : dec B = (match rdEnd B r with | .error e => .error e | .ok _ => .ok x) := by unfold dec; rw [hm]; simp only; rw [h1]; rfl
    by_cases hl : B.length < r + 4
    · have : cNum B 4 (r, false) = (0, r, true) := by unfold cNum cuV cuP cuB; simp [hl]
      rw [this] at hn
      injection hn with e1 e2
      injection e2 with e2 e3
      subst e1 e2 e3
      exact ⟨fun _ => by rw [hd, rdEnd_short hl], fun e => by cases e⟩
    · have : cNum B 4 (r, false) = (highN ((B.drop r).take 4), r + 4, false) := by unfold cNum cuV cuP cuB; simp [hl]
      rw [this] at hn
      injection hn with e1 e2
      injection e2 with e2 e3
      subst e1 e2 e3
      refine ⟨fun e => (by cases e), fun _ => ⟨rfl, by omega, fun h => ?_, fun h => ⟨fun hs => ?_, fun hs => ?_⟩⟩⟩
      · rw [hd]; unfold rdEnd; rw [if_neg hl, if_pos h]
      · rw [hd]; unfold rdEnd; rw [if_neg hl, if_neg (by omega), if_pos hs]
      · rw [hd]; unfold rdEnd; rw [if_neg hl, if_neg (by omega), if_neg hs]
  · rw [hc] at h2
    injection h2 with e2 e3
    subst e2 e3
    have : cNum B 4 (q, true) = (0, q, true) := rfl
    rw [this] at hn
    injection hn with e1 e2
    injection e2 with e2 e3
    subst e1 e2 e3
    exact ⟨fun _ => by unfold dec; rw [hm]; simp only; rw [h1], fun e => by cases e⟩
theorem mark_of {B : List UInt8} (h4 : 4 ≤ B.length) : ((B.drop 0).take 4 = [66, 75, 67, 49] → rdMark B 0 = .ok ((), 4)) ∧ ((B.drop 0).take 4 ≠ [66, 75, 67, 49] → dec B = .error (0, 110)) := by
  have hr : rdNum B 0 = .ok (((highN ((B.drop 0).take 4) : Nat) : Int), 4) := by unfold rdNum; rw [if_neg (by omega)]
  refine ⟨fun h => ?_, fun h => ?_⟩
  · unfold rdMark; rw [hr, h]; rfl
  · have hm : rdMark B 0 = .error 0 := by
      unfold rdMark; rw [hr]
      show (if ((highN ((B.drop 0).take 4) : Nat) : Int) = 826493762 then _ else _) = _
      rw [if_neg]
      intro e
      apply h
      refine highN_inj _ _ (by rw [List.length_take, List.length_drop]; simp; omega) ?_
      have : highN [66, 75, 67, 49] = 826493762 := by decide
      omega
    unfold dec; rw [hm]
theorem dec_tiny {B : List UInt8} (h : B.length < 4) : dec B = .error (0, 110) := by
  have hm : rdMark B 0 = .error 0 := by unfold rdMark rdNum; rw [if_pos (by omega)]; rfl
  unfold dec; rw [hm]

set_option maxHeartbeats 1000000 in
theorem refDecode_long (L : Nat) (a : Option Addr) (cap : Nat) (w : World) (hl : 16384 < L) (hL : L ≤ maxLen) :
    Calls Tryz.prog 29 #[.slice a L cap] w fun e w' => Keeps (fun _ => False) w w' ∧ e = .returned (.tuple #[.agg zCfgR.toArray, .int .i64 0, .int .i64 2]) := by
  have hl' : (16384 : Int) < L := by omega
  have HL : Hid (L ≤ maxLen) := hL
  clear hL
  have HB1 : Hid (Blk (w.alloc (.cells #[.int .i64 0, .int .i64 0, .int .i64 0, .int .i64 0, .slice none 0 0, .slice none 0 0, .slice none 0 0] 26)) w.heap.size zCfgR 26) := Blk.new w _ _
  go_enter Tryz.func29, Tryz.ntmps29
  go_wp2_with (refine wpList_store_row rfl 26 (.tmp 2) (.tmp 12) rfl w.heap.size #[.int .i64 0, .int .i64 0, .int .i64 0, .int .i64 0, .slice none 0 0, .slice none 0 0, .slice none 0 0] rfl rfl 26 _ HB1.out Tryz.size26 rfl (all26 ..) ?_)
  refine bodyPost_ret (results_cell_three rfl _ _ w.heap.size 26 _ (0, 0) _ rfl (HB1.out.setRow zCfgR) Tryz.underlying26 rfl Tryz.size26) rfl ?_
  exact ⟨((Keeps.refl _ w).alloc _).setRow _ _ (fun h => by omega), rfl⟩

/-- The beginning: the answer's block and the cursor's. -/
theorem begun (L : Nat) (a : Option Addr) (cap : Nat) (w W1 : World) (hW1 : W1 = (w.alloc (.cells #[.int .i64 0, .int .i64 0, .int .i64 0, .int .i64 0, .slice none 0 0, .slice none 0 0, .slice none 0 0] 26)).alloc (.cells #[.slice a L cap, .int .i64 0, .bool false] 103)) (C : Nat) (hC : C = w.heap.size) :
    Blk W1 C zCfgR 26 ∧ Blk W1 (C + 1) [.slice a L cap, .int .i64 0, .bool false] 103 ∧ Keeps (fun _ => False) w W1 := by
  subst hW1 hC
  refine ⟨(Blk.new w _ _).alloc _, ?_, ((Keeps.refl _ w).alloc _).alloc _⟩
  have := Blk.new (w.alloc (.cells #[.int .i64 0, .int .i64 0, .int .i64 0, .int .i64 0, .slice none 0 0, .slice none 0 0, .slice none 0 0] 26)) #[.slice a L cap, .int .i64 0, .bool false] 103
  simpa using this

set_option maxHeartbeats 1000000 in
theorem refDecode_tiny (B : List UInt8) (a : Option Addr) (cap : Nat) (w : World) (h4 : B.length < 4) :
    Calls Tryz.prog 29 #[.slice a B.length cap] w (DecP w B) := by
  have HD : Hid (dec B = .error (0, 110) ∧ B.length < 4) := ⟨dec_tiny h4, h4⟩
  obtain ⟨L, hL⟩ : ∃ L, B.length = L := ⟨_, rfl⟩
  rw [hL] at h4 ⊢
  have hl' : ¬ (16384 : Int) < L := by omega
  obtain ⟨C, hC⟩ : ∃ C, C = w.heap.size := ⟨_, rfl⟩
  obtain ⟨W1, hW1⟩ : ∃ W1, W1 = (w.alloc (.cells #[.int .i64 0, .int .i64 0, .int .i64 0, .int .i64 0, .slice none 0 0, .slice none 0 0, .slice none 0 0] 26)).alloc (.cells #[.slice a L cap, .int .i64 0, .bool false] 103) := ⟨_, rfl⟩
  have H1 : Hid (_ ∧ _ ∧ _) := begun L a cap w W1 hW1 C hC
  have HC : Hid (C = w.heap.size) := hC
  have HT : Hid (Calls _ _ _ _ _) := take_short0 (C + 1) 0 4 L cap a W1 H1.out.2.1 (by omega) (by omega)
  clear hL h4
  go_enter Tryz.func29, Tryz.ntmps29
  go_wp2_with fail
  rw [← hC, ← hW1]
  clear hW1 hC
  refine HT.out.mono ?_
  rintro e w2 ⟨rfl, hK2⟩
  have HCV : Hid ((convert 28 9 (.slice none 0 0)).run Tryz.prog w2 = .ok (.string ⟨#[]⟩) w2) := run_text_seg none 0 [] (.inl rfl)
  have H2 : Hid (Blk w2 C zCfgR 26 ∧ Keeps (fun _ => False) w w2) := ⟨H1.out.1.kept hK2 (by omega), H1.out.2.2.trans hK2 fun k hk e => by have := HC.out; omega⟩
  clear HT hK2 H1
  go_wp2_with (first | (refine wpList_convert_run rfl (.tmp 17) 28 9 rfl (.slice none 0 0) _ w2 rfl HCV.out ?_) | (refine wpList_store_row rfl 26 (.tmp 2) (.tmp 20) rfl C #[.int .i64 0, .int .i64 0, .int .i64 0, .int .i64 0, .slice none 0 0, .slice none 0 0, .slice none 0 0] rfl rfl 26 _ H2.out.1 Tryz.size26 rfl (all26 ..) ?_))
  refine bodyPost_ret (results_cell_three rfl _ _ C 26 _ (0, 0) _ rfl (H2.out.1.setRow zCfgR) Tryz.underlying26 rfl Tryz.size26) rfl ?_
  exact ⟨H2.out.2.setRow _ _ (fun h => by have := HC.out; omega), .inr ⟨by have := HD.out.2; omega, .inr ⟨0, 110, HD.out.1, rfl⟩⟩⟩

theorem tl4 (a b c d : UInt8) : (⟨#[a, b, c, d]⟩ : ByteArray).toList = [a, b, c, d] := by
  simp [ByteArray.toList, ByteArray.toList.loop, ByteArray.size, ByteArray.get!]
set_option maxHeartbeats 1000000 in
theorem refDecode_mark (B : List UInt8) (g o cap : Nat) (w : World) (hs : Seg w (some ⟨g, o, none⟩) B) (hcap : B.length ≤ cap ∧ cap ≤ maxLen) (hB : B.length ≤ 16384) (h4 : 4 ≤ B.length) (hg : g < w.heap.size) (hm : (B.drop 0).take 4 ≠ [66, 75, 67, 49]) :
    Calls Tryz.prog 29 #[.slice (some ⟨g, o, none⟩) B.length cap] w (DecP w B) := by
  have HD : Hid (dec B = .error (0, 110) ∧ B.length ≤ 16384) := ⟨(mark_of h4).2 hm, hB⟩
  obtain ⟨C, hC⟩ : ∃ C, C = w.heap.size := ⟨_, rfl⟩
  obtain ⟨W1, hW1⟩ : ∃ W1, W1 = (w.alloc (.cells #[.int .i64 0, .int .i64 0, .int .i64 0, .int .i64 0, .slice none 0 0, .slice none 0 0, .slice none 0 0] 26)).alloc (.cells #[.slice (some ⟨g, o, none⟩) B.length cap, .int .i64 0, .bool false] 103) := ⟨_, rfl⟩
  have h1 := begun B.length (some ⟨g, o, none⟩) cap w W1 hW1 C hC
  have hcu : Cu W1 (C + 1) g o cap B 0 false := ⟨h1.2.1, hs.keptB h1.2.2 fun _ _ _ e => e, fun _ => by omega, hcap, by omega⟩
  have ht := take_any' (C + 1) g o cap 0 4 false B W1 hcu (by omega)
  have e1 : cuB B 0 false 4 = false := by unfold cuB; simp; omega
  rw [e1] at ht
  simp only [Bool.false_eq_true, if_false] at ht
  obtain ⟨M, hM⟩ : ∃ M, (B.drop 0).take 4 = M := ⟨_, rfl⟩
  have hMl : M.length = 4 := by rw [← hM, List.length_take, List.length_drop]; omega
  rw [hM] at ht hm
  have HT : Hid (Calls _ _ _ _ _) := ht
  obtain ⟨L, hL⟩ : ∃ L, B.length = L := ⟨_, rfl⟩
  rw [hL] at hB hW1 h1 ⊢
  have hl' : ¬ (16384 : Int) < L := by omega
  have H1 : Hid (_ ∧ _ ∧ _) := h1
  have HC : Hid (C = w.heap.size) := hC
  have HM : Hid (M.length = 4) := hMl
  obtain ⟨N, hN⟩ : ∃ N : ByteArray, (⟨M.toArray⟩ : ByteArray) = N := ⟨_, rfl⟩
  have hne : (N.toList == [66, 75, 67, 49]) = false := by
    rw [← hN]
    match M, hMl, hm with
    | [b0, b1, b2, b3], _, hm =>
      rw [tl4]
      simpa using hm
  have HN : Hid ((⟨M.toArray⟩ : ByteArray) = N) := hN
  clear hs hcap hB h4 hg hm hcu ht e1 hM hMl hL h1 hN
  go_enter Tryz.func29, Tryz.ntmps29
  go_wp2_with fail
  rw [← hC, ← hW1]
  clear hW1 hC
  refine HT.out.mono ?_
  rintro e w2 ⟨⟨a, c, rfl, hs2, _, _⟩, hC2, hK2⟩
  have hcv := run_text_seg (w := w2) a c M hs2
  rw [HM.out, HN.out] at hcv
  have HCV : Hid ((convert 28 9 (.slice a 4 c)).run Tryz.prog w2 = .ok (.string N) w2) := hcv
  have H2 : Hid (Blk w2 C zCfgR 26 ∧ Keeps (fun _ => False) w w2) := ⟨H1.out.1.kept hK2 (by omega), H1.out.2.2.trans hK2 fun k hk e => by have := HC.out; omega⟩
  clear HT hK2 H1 hcv hs2 hC2
  go_wp2_with (first | (refine wpList_convert_run rfl (.tmp 17) 28 9 rfl (.slice a 4 c) _ w2 rfl HCV.out ?_) | (refine wpList_store_row rfl 26 (.tmp 2) (.tmp 20) rfl C #[.int .i64 0, .int .i64 0, .int .i64 0, .int .i64 0, .slice none 0 0, .slice none 0 0, .slice none 0 0] rfl rfl 26 _ H2.out.1 Tryz.size26 rfl (all26 ..) ?_))
  refine bodyPost_ret (results_cell_three rfl _ _ C 26 _ (0, 0) _ rfl (H2.out.1.setRow zCfgR) Tryz.underlying26 rfl Tryz.size26) rfl ?_
  exact ⟨H2.out.2.setRow _ _ (fun h => by have := HC.out; omega), .inr ⟨HD.out.2, .inr ⟨0, 110, HD.out.1, rfl⟩⟩⟩
end Go.Proofs.YtjadpbkhfclldaaGreat
