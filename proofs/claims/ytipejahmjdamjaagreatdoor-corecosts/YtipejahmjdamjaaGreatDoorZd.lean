import Derived.Test.YtipejahmjdamjaaGreatDoorZc
namespace Go.Proofs.YtipejahmjdamjaaGreatDoor
open Go.RowKit Go.Shelf
set_option linter.unusedVariables false
set_option linter.unusedSimpArgs false
set_option maxRecDepth 6000

/-- The loop's state: the core somewhere above Z, the memories. -/
def Ld (w wr : World) (Z X b g b0 g0 c tb cb n : Nat) (rg : List UInt32) (pc : Nat) (xs : List UInt32) (rg' : List UInt32) (pc' : Nat) (xs' : List UInt32) (ls : List Tl.Lf) (st : Nat → List Int) (FT FC : Nat → Prop) : Prop :=
  CoreAt wr c tb cb rg' pc' ls st FT FC ∧ (∀ k, (k = c ∨ FT k ∨ FC k) → Z ≤ k) ∧ Bd w wr X b g b0 g0 n rg pc xs' xs

theorem len16 {rg : List UInt32} (h : rg.length = 16) : ∃ r0 r1 r2 r3 r4 r5 r6 r7 r8 r9 r10 r11 r12 r13 r14 r15, rg = [r0, r1, r2, r3, r4, r5, r6, r7, r8, r9, r10, r11, r12, r13, r14, r15] := by
  match rg, h with
  | [r0, r1, r2, r3, r4, r5, r6, r7, r8, r9, r10, r11, r12, r13, r14, r15], _ => exact ⟨r0, r1, r2, r3, r4, r5, r6, r7, r8, r9, r10, r11, r12, r13, r14, r15, rfl⟩
theorem heldL_lit (r0 r1 r2 r3 r4 r5 r6 r7 r8 r9 r10 r11 r12 r13 r14 r15 : UInt32) (pc : Nat) (l v : Value) : heldL [r0, r1, r2, r3, r4, r5, r6, r7, r8, r9, r10, r11, r12, r13, r14, r15] pc l v =
    [.int .u32 r0.toNat, .int .u32 r1.toNat, .int .u32 r2.toNat, .int .u32 r3.toNat, .int .u32 r4.toNat, .int .u32 r5.toNat, .int .u32 r6.toNat, .int .u32 r7.toNat, .int .u32 r8.toNat, .int .u32 r9.toNat, .int .u32 r10.toNat, .int .u32 r11.toNat, .int .u32 r12.toNat, .int .u32 r13.toNat, .int .u32 r14.toNat, .int .u32 r15.toNat, .int .u32 pc, l, v] := rfl

theorem flatL_get : ∀ (ls : List Tl.Lf) (j : Nat) (l : Tl.Lf), ls[j]? = some l → ∀ i, i < 3 → (Tl.flatL ls)[j * 3 + i]? = l.vs[i]?
  | [], j, l, h, _, _ => by simp at h
  | x :: r, 0, l, h, i, hi => by
    simp at h; subst h
    show (x.vs ++ Tl.flatL r)[0 * 3 + i]? = _
    rw [List.getElem?_append_left (by show 0 * 3 + i < 3; omega)]
    congr 1; omega
  | x :: r, j + 1, l, h, i, hi => by
    have h' : r[j]? = some l := by simpa using h
    show (x.vs ++ Tl.flatL r)[(j + 1) * 3 + i]? = _
    rw [List.getElem?_append_right (by show 3 ≤ (j + 1) * 3 + i; omega), show (j + 1) * 3 + i - x.vs.length = j * 3 + i by show (j + 1) * 3 + i - 3 = _; omega]
    exact flatL_get r j l h' i hi

/-- The leaves can be read there. -/
def LvR (w : World) (gv : Nat) (ls : List Tl.Lf) : Prop := ∀ j l, ls[j]? = some l → w.cell? ⟨gv, j * 3, none⟩ = some (.int .i64 l.p) ∧ w.cell? ⟨gv, j * 3 + 1, none⟩ = some (.int .i64 l.f) ∧ w.cell? ⟨gv, j * 3 + 2, none⟩ = some (.int .i64 l.r)
theorem LvR.of {w : World} {gv cap : Nat} {ls : List Tl.Lf} (h : w.ownsRow 0 64 3 (.slice (some ⟨gv, 0, none⟩) ls.length cap) ls.length (Tl.flatL ls)) : LvR w gv ls := fun j l hl => by
  have hj : j < ls.length := (List.getElem?_eq_some_iff.1 hl).1
  refine ⟨?_, ?_, ?_⟩
  · have := h.cellAt (j * 3 + 0) (by omega)
    rw [flatL_get ls j l hl 0 (by omega)] at this
    exact this
  · have := h.cellAt (j * 3 + 1) (by omega)
    rw [flatL_get ls j l hl 1 (by omega)] at this
    exact this
  · have := h.cellAt (j * 3 + 2) (by omega)
    rw [flatL_get ls j l hl 2 (by omega)] at this
    exact this
theorem LvR.kept {w w' : World} {gv : Nat} {ls : List Tl.Lf} (h : LvR w gv ls) (hK : Keeps (fun _ => False) w w') : LvR w' gv ls := fun j l hl =>
  ⟨Ch.cell_kept (h j l hl).1 hK fun h => h, Ch.cell_kept (h j l hl).2.1 hK fun h => h, Ch.cell_kept (h j l hl).2.2 hK fun h => h⟩

/-- A leaf that the tables tell so still. -/
def Tells1 (n : Nat) (xs : List UInt32) (root : Int) (l : Tl.Lf) : Prop := walkE n xs root l.p = 0 ∧ toT (walkL n xs root l.p) = l
theorem fresh_of {n : Nat} {xs : List UInt32} {ls : List Tl.Lf} {r : Nat} (h : ∀ l ∈ ls, Tells1 n xs r l) (hm : ∀ l ∈ ls, Tl.mayB l = true) : Fresh n xs r ls := fun l hl => by
  have hp : 0 ≤ l.p := by
    have := hm l hl
    simp [Tl.mayB, Tl.inB] at this
    omega
  obtain ⟨p, e⟩ := Int.eq_ofNat_of_zero_le hp
  obtain ⟨h1, h2⟩ := h l hl
  rw [e] at h1 h2
  exact ⟨p, h1, h2.symm⟩

set_option maxHeartbeats 16000000 in
theorem costs_go (a : Option Addr) (cp n : Nat) (root : Int) (ah bh : Nat) (xs rg : List UInt32) (pc : Nat) (w : World) (hx : SegW w a xs) (hn : xs.length = n * 16) (h1 : 1 ≤ n) (h2 : n ≤ 1024) (hg : rg.length = 16) (hp : pc < 4294967296) (hA : ah < 256) (hB : bh < 256) (hT : Is.Tabs w) :
    Calls Tryz.prog 5 #[.slice a xs.length cp, .int .i64 root, .agg (ctx rg pc).toArray, .int .u8 ah, .int .u8 bh] w fun e w' => e = .returned (.bool true) ∧ Keeps (fun _ => False) w w' := by
  obtain ⟨W, hW⟩ : ∃ W, W = w.alloc (.cells (ctx rg pc).toArray 40) := ⟨_, rfl⟩
  have hK0 : Keeps (fun _ => False) w W := by rw [hW]; exact (Keeps.refl _ w).alloc _
  have hBX : Blk W w.heap.size (ctx rg pc) 40 := by rw [hW]; exact Blk.new w _ 40
  obtain ⟨X, eX⟩ : ∃ X, X = w.heap.size := ⟨_, rfl⟩
  rw [← eX] at hBX
  have hxW := hx.kept hK0 fun _ _ h => h
  have H1 : Hid (Calls _ _ _ _ _) := of_yes a cp xs n W hxW hn h1 h2
  have HW : Hid (W = w.alloc (.cells (ctx rg pc).toArray 40)) := hW
  have H0 : Hid (Keeps (fun _ => False) w W ∧ Blk W X (ctx rg pc) 40 ∧ X = w.heap.size ∧ Is.Tabs w ∧ X < W.heap.size) := ⟨hK0, hBX, eX, hT, hBX.lt⟩
  have HQ : Hid (xs.length = n * 16 ∧ 1 ≤ n ∧ n ≤ 1024 ∧ rg.length = 16 ∧ pc < 4294967296) := ⟨hn, h1, h2, hg, hp⟩
  obtain ⟨L, eL⟩ : ∃ L, L = xs.length := ⟨_, rfl⟩
  rw [← eL] at H1 ⊢
  have HL : Hid (L = xs.length) := eL
  have HX : Hid (w.heap.size = X) := eX.symm
  have hab : (ah : Int) < 256 := by omega
  have hbb : (bh : Int) < 256 := by omega
  have hnb : (n : Int) ≤ 1024 := by omega
  clear hx hn h1 h2 hg hp hT hW hK0 hBX hxW eL eX hA hB
  go_enter Tryz.func5, Tryz.ntmps5
  go_upto_region 1 with fail
  rw [← HW.out, HX.out]
  go_wp2_with fail
  refine H1.out.mono ?_
  rintro e w1 ⟨b, rfl, hM1, hb1, hK1⟩
  obtain ⟨g, eg⟩ : ∃ g, g = W.heap.size := ⟨_, rfl⟩
  rw [← eg] at hM1
  have H2 : Hid (Calls _ _ _ _ _) := clone_any b g n xs w1 hM1
  have H3 : Hid (Mn w1 b g n xs ∧ g = W.heap.size ∧ W.heap.size ≤ b ∧ Keeps (fun _ => False) W w1) := ⟨hM1, eg, hb1, hK1⟩
  have HK1 : Hid (Keeps (fun _ => False) w w1) := H0.out.1.trans hK1 fun _ _ h => h
  clear hM1 eg hb1 hK1 H1
  go_wp2_with fail
  refine H2.out.mono ?_
  rintro e w2 ⟨b0, rfl, hM2, hb2, hK2⟩
  obtain ⟨g0, eg2⟩ : ∃ g0, g0 = w1.heap.size := ⟨_, rfl⟩
  rw [← eg2] at hM2
  have HB2 : Hid (Bd w w2 X b g b0 g0 n rg pc xs xs ∧ (X = w.heap.size ∧ w.heap.size < g ∧ w.heap.size < b ∧ b ≠ g ∧ g < g0 ∧ b < g0 ∧ g0 ≤ b0 ∧ b0 ≠ g0 ∧ 2 ≤ w.heap.size) ∧ b0 < w2.heap.size ∧ g0 < w2.heap.size) := by
    have l1 : b < w1.heap.size ∧ g < w1.heap.size := ⟨H3.out.1.mm.blk.lt, H3.out.1.mm.row.lt⟩
    have l2 : b0 < w2.heap.size ∧ g0 < w2.heap.size := ⟨hM2.mm.blk.lt, hM2.mm.row.lt⟩
    have s0 := H0.out.2.2.2.2
    have s1 := H3.out.2.2.2.size
    have e1 := H3.out.2.1
    have e2 := H3.out.2.2.1
    have e5 := H0.out.2.2.1
    have t2 := tabs_two H0.out.2.2.2.1
    have n1 := H3.out.1.mm.ne
    have n2 := hM2.mm.ne
    have hk2 : Keeps (fun _ => False) w w2 := HK1.out.trans hK2 fun _ _ h => h
    refine ⟨⟨(H0.out.2.1.kept H3.out.2.2.2 fun h => h).kept hK2 fun h => h, H3.out.1.grown hK2, hM2, tabs_kept H0.out.2.2.2.1 hk2 fun _ h => h.elim, hk2⟩, ⟨e5, by omega, by omega, fun e => n1 e, by omega, by omega, by omega, fun e => n2 e, t2⟩, by omega, by omega⟩
  have HN1 : Hid (Calls _ _ _ _ _) := new_core w2 (by have h0 := HB2.out.2.1; have h1 := HB2.out.2.2.2; omega)
  clear hM2 hb2 hK2 eg2 HW H3 HK1 H0 H2
  go_wp2_with fail
  refine HN1.out.mono ?_
  rintro e w3 ⟨c, tb, cb, FT, FC, rfl, hC3, hn3, hK3⟩
  have HB3 : Hid (Bd w w3 X b g b0 g0 n rg pc xs xs) := HB2.out.1.grown hK3
  have HRa : Hid (w3.rangeAt X 0 (ctx rg pc) ∧ (Tryz.prog.info? 40).map (·.size) = some (ctx rg pc).length) := ⟨fun j v hv => by rw [Nat.zero_add]; exact HB3.out.x.cell hv, by rw [ctx_len HQ.out.2.2.2.1]; kernel_rfl⟩
  have HS1 : Hid (Calls _ _ _ _ _) := set_any c tb cb (List.replicate 16 0) rg 0 pc [] (fun _ => []) FT FC w3 hC3 HQ.out.2.2.2.1 HQ.out.2.2.2.2
  have HF : Hid ((∀ k, (k = c ∨ FT k ∨ FC k) → w2.heap.size ≤ k) ∧ w2.heap.size ≤ w3.heap.size) := ⟨hn3, hK3.size⟩
  clear hC3 hn3 hK3 HN1
  go_wp2_with (refine wpList_load_mid rfl 40 (.tmp 7) rfl X 0 rfl (ctx rg pc) _ HRa.out.1 Tryz.underlying40 rfl HRa.out.2 ?_; refine Hid.out ?_)
  unfold Hid
  go_wp2_with fail
  refine HS1.out.mono ?_
  rintro e w4 ⟨rfl, hC4, hK4⟩
  have HD4 : Hid (Ld w w4 w2.heap.size X b g b0 g0 c tb cb n rg pc xs rg pc xs [] (fun _ => []) FT FC) := ⟨hC4, HF.out.1, HB3.out.kept hK4 fun k e => by
    have h1 := HF.out.1 k (.inl e)
    have h2 := HB2.out.2.1
    have h3 := HB2.out.2.2
    exact ⟨by omega, by omega, by omega, by omega, by omega, by omega, by omega⟩⟩
  obtain ⟨Z, eZ⟩ : ∃ Z, Z = w2.heap.size := ⟨_, rfl⟩
  rw [← eZ] at HD4
  have HZ : Hid ((X = w.heap.size ∧ w.heap.size < g ∧ w.heap.size < b ∧ b ≠ g ∧ g < g0 ∧ b < g0 ∧ g0 ≤ b0 ∧ b0 ≠ g0 ∧ 2 ≤ w.heap.size) ∧ b0 < Z ∧ g0 < Z) := by rw [eZ]; exact HB2.out.2
  clear hC4 hK4 HS1 HRa HB3 HB2 HF eZ
  go_wp2
  go_loopw [15] (fun i wr => ∃ j : Nat, j ≤ ah % 32 ∧ i = .int .i64 j ∧ ∃ rg' pc' xs' ls st FT FC, Ld w wr Z X b g b0 g0 c tb cb n rg pc xs rg' pc' xs' ls st FT FC)
    (fun i _ => 32 - (Ch.intOf i).toNat)
  case atStart => exact ⟨0, by omega, rfl, _, _, _, _, _, _, _, HD4.out⟩
  case round =>
    obtain ⟨j, hj, rfl, rg', pc', xs', ls, st, FT', FC', hD⟩ := hrel
    by_cases hlt : j < ah % 32
    · have HD : Hid (Ld w wr Z X b g b0 g0 c tb cb n rg pc xs rg' pc' xs' ls st FT' FC') := hD
      have HS : Hid (Calls _ _ _ _ _) := step_all c tb cb b g n root j rg' pc' ls st FT' FC' xs' wr hD.1 hD.2.2.m (fun k hk => by
        have h1 := hD.2.1 k hk
        have h2 := HZ.out.1
        have h3 := HZ.out.2
        exact ⟨by omega, by omega⟩) hD.2.2.t (by have h2 := HZ.out.1; omega) (by omega)
      have hji : (j : Int) < (ah : Int) % 32 := by omega
      have hjt : (j : Int) < (ah : Int).tmod 32 := by rw [Int.tmod_eq_emod_of_nonneg (by omega)]; exact hji
      have hj3 : (j : Int) < 32 := by omega
      clear hD
      go_wp2_with fail
      refine HS.out.mono ?_
      rintro e wn ⟨v, rg2, pc2, xs2, ls2, st2, rfl, hS⟩
      have HE : Hid (∃ rg' pc' xs' ls st FT FC, Ld w wn Z X b g b0 g0 c tb cb n rg pc xs rg' pc' xs' ls st FT FC) := by
        obtain ⟨F1, F2, z1, z2, z3, z4⟩ := hS.ex
        have hsz : Z ≤ wr.heap.size := by
          have := HD.out.2.1 c (.inl rfl)
          have := HD.out.1.blk.lt
          omega
        refine ⟨_, _, _, _, _, F1, F2, z1, fun k e => ?_, HD.out.2.2.first hS fun k e => ?_⟩
        · rcases e with e | e | e
          · exact HD.out.2.1 k (.inl e)
          · rcases z2 k e with e | e
            · exact HD.out.2.1 k (.inr (.inl e))
            · omega
          · rcases z3 k e with e | e
            · exact HD.out.2.1 k (.inr (.inr e))
            · omega
        · have h2 := HZ.out.1
          have h3 := HZ.out.2
          have h4 : Z ≤ k ∨ k = g := by
            rcases e with e | e | e | e
            · exact .inl (HD.out.2.1 k (.inl e))
            · exact .inl (HD.out.2.1 k (.inr (.inl e)))
            · exact .inl (HD.out.2.1 k (.inr (.inr e)))
            · exact .inr e
          exact ⟨by omega, by omega, by omega, by omega, by omega⟩
      clear hS HS HD
      go_wp2
      go_roundw
      case rel => exact ⟨j + 1, by omega, by go_num, HE.out⟩
      case measure => simp [Ch.intOf]; omega
    · obtain rfl : j = ah % 32 := by omega
      have HD : Hid (Ld w wr Z X b g b0 g0 c tb cb n rg pc xs rg' pc' xs' ls st FT' FC') := hD
      have hji : ¬ ((ah % 32 : Nat) : Int) < (ah : Int) % 32 := by omega
      have hjt : ¬ ((ah % 32 : Nat) : Int) < (ah : Int).tmod 32 := by rw [Int.tmod_eq_emod_of_nonneg (by omega)]; exact hji
      have HH : Hid (Calls _ _ _ _ _) := held_any c tb cb rg' pc' ls st FT' FC' wr hD.1
      clear hD hlt hj HD4
      go_wp2_with fail
      refine HH.out.mono ?_
      rintro e w5 ⟨G, gv, cap, rfl, hO, hgv, hK5⟩
      obtain ⟨r0, r1, r2, r3, r4, r5, r6, r7, r8, r9, r10, r11, r12, r13, r14, r15, er⟩ := len16 HD.out.1.len
      rw [er, heldL_lit]
      have HD5 : Hid (Ld w w5 Z X b g b0 g0 c tb cb n rg pc xs rg' pc' xs' ls st FT' FC' ∧ LvR w5 gv ls) := ⟨⟨HD.out.1.kept hK5 fun _ _ h => h, HD.out.2.1, HD.out.2.2.grown hK5⟩, LvR.of hO⟩
      have hll : (ls.length : Int) ≤ 4 := by have := HD.out.1.tl.le; omega
      have HFd : (Instr.field 44 (.agg #[.int .u32 r0.toNat, .int .u32 r1.toNat, .int .u32 r2.toNat, .int .u32 r3.toNat, .int .u32 r4.toNat, .int .u32 r5.toNat, .int .u32 r6.toNat, .int .u32 r7.toNat, .int .u32 r8.toNat, .int .u32 r9.toNat, .int .u32 r10.toNat, .int .u32 r11.toNat, .int .u32 r12.toNat, .int .u32 r13.toNat, .int .u32 r14.toNat, .int .u32 r15.toNat, .int .u32 pc', .slice (some ⟨G, 0, none⟩) 4 4, .slice (some ⟨gv, 0, none⟩) ls.length cap]) 2).run Tryz.prog w5 = .ok (.slice (some ⟨gv, 0, none⟩) ls.length cap) w5 := by kernel_rfl
      clear hO hgv hK5 er HH HD hji hjt
      go_wp2_with (simp only [HFd, Result.andThen_ok])
      clear HFd
      go_wp2
      go_loopw [60] (fun i wr => ∃ j : Nat, j ≤ ls.length ∧ i = .int .i64 j ∧ (Ld w wr Z X b g b0 g0 c tb cb n rg pc xs rg' pc' xs' ls st FT' FC' ∧ LvR wr gv ls) ∧ ∀ k l, k < j → ls[k]? = some l → Tells1 n xs' root l)
        (fun i _ => ls.length - (Ch.intOf i).toNat)
      case atStart => exact ⟨0, by omega, rfl, HD5.out, fun k l hk => by omega⟩
      case round =>
        obtain ⟨j, hj, rfl, ⟨hD, hV⟩, hall⟩ := hrel
        by_cases hlt : j < ls.length
        · obtain ⟨l, hl⟩ : ∃ l, ls[j]? = some l := ⟨_, List.getElem?_eq_getElem hlt⟩
          obtain ⟨c0, c1, c2⟩ := hV j l hl
          have HD : Hid ((Ld w wr Z X b g b0 g0 c tb cb n rg pc xs rg' pc' xs' ls st FT' FC' ∧ LvR wr gv ls) ∧ (∀ k l, k < j → ls[k]? = some l → Tells1 n xs' root l) ∧ ls[j]? = some l) := ⟨⟨hD, hV⟩, hall, hl⟩
          have HWk : Hid (∀ w' : World, Keeps (fun _ => False) wr w' → Calls Tryz.prog 31 #[ptr b, .int .i64 root, .int .i64 l.p] w' fun e w'' => e = .returned (.tuple #[(walkL n xs' root l.p).v, .int .i64 (walkE n xs' root l.p : Nat)]) ∧ Keeps (fun _ => False) w' w'') := fun w' hK => walk_any b g n xs' root l.p w' (hD.2.2.m.grown hK)
          have hji : (j : Int) < ls.length := by omega
          have hjb : (j : Int) ≤ 4 := by omega
          clear hD hV hall hl HD5
          go_upto_region 14 with fail
          obtain ⟨WA, hWA⟩ : ∃ WA, WA = wr.alloc (.cells #[.int .i64 l.p, .int .i64 l.f, .int .i64 l.r] 64) := ⟨_, rfl⟩
          have hKA : Keeps (fun _ => False) wr WA := by rw [hWA]; exact (Keeps.refl _ wr).alloc _
          have hBA : Blk WA wr.heap.size [.int .i64 l.p, .int .i64 l.f, .int .i64 l.r] 64 := by rw [hWA]; exact Blk.new wr _ 64
          rw [← hWA]
          obtain ⟨A, eA⟩ : ∃ A, A = wr.heap.size := ⟨_, rfl⟩
          rw [← eA] at hBA ⊢
          have d0 := hBA.cell (i := 0) rfl
          have HWA : Hid (Calls _ _ _ _ _) := HWk.out WA hKA
          have HA : Hid (Blk WA A [.int .i64 l.p, .int .i64 l.f, .int .i64 l.r] 64 ∧ Keeps (fun _ => False) wr WA) := ⟨hBA, hKA⟩
          clear hWA hKA hBA eA HWk c0 c1 c2
          go_wp2_with fail
          refine HWA.out.mono ?_
          rintro e w6 ⟨rfl, hK6⟩
          obtain ⟨E, eE⟩ : ∃ E, E = walkE n xs' root l.p := ⟨_, rfl⟩
          obtain ⟨y, ey⟩ : ∃ y, y = walkL n xs' root l.p := ⟨_, rfl⟩
          rw [← eE, ← ey]
          have hyv : y.v = .agg #[.int .i64 (y.page : Nat), .int .i64 (y.frame : Nat), .int .i64 (y.rights : Nat)] := rfl
          rw [hyv]
          clear hyv
          obtain ⟨W6, hW6⟩ : ∃ W6, W6 = w6.alloc (.cells #[.int .i64 (y.page : Nat), .int .i64 (y.frame : Nat), .int .i64 (y.rights : Nat)] 64) := ⟨_, rfl⟩
          have hKB : Keeps (fun _ => False) w6 W6 := by rw [hW6]; exact (Keeps.refl _ w6).alloc _
          have hBB : Blk W6 w6.heap.size [.int .i64 (y.page : Nat), .int .i64 (y.frame : Nat), .int .i64 (y.rights : Nat)] 64 := by rw [hW6]; exact Blk.new w6 _ 64
          obtain ⟨B, eB⟩ : ∃ B, B = w6.heap.size := ⟨_, rfl⟩
          rw [← eB] at hBB
          have hkk : Keeps (fun _ => False) WA W6 := hK6.trans hKB fun _ _ h => h
          have HE : Hid (E = walkE n xs' root l.p ∧ y = walkL n xs' root l.p) := ⟨eE, ey⟩
          have HB : Hid (Blk W6 A [.int .i64 l.p, .int .i64 l.f, .int .i64 l.r] 64 ∧ Blk W6 B [.int .i64 (y.page : Nat), .int .i64 (y.frame : Nat), .int .i64 (y.rights : Nat)] 64) := ⟨HA.out.1.kept hkk fun h => h, hBB⟩
          have HK : Hid (Keeps (fun _ => False) wr W6) := HA.out.2.trans hkk fun _ _ h => h
          have HW6 : Hid (w6.alloc (.cells #[.int .i64 (y.page : Nat), .int .i64 (y.frame : Nat), .int .i64 (y.rights : Nat)] 64) = W6) := hW6.symm
          have HeB : Hid (w6.heap.size = B) := eB.symm
          clear hK6 eE ey hW6 hKB hBB eB hkk HA HWA d0
          go_upto_region 15 with fail
          rw [HW6.out, HeB.out]
          clear HW6 HeB
          have HAw : Hid (Calls Tryz.prog 12 #[] W6 fun e w' => e = .returned (.bool true) ∧ Keeps (fun _ => False) W6 w') := awake_any W6 (tabs_kept HD.out.1.1.2.2.t HK.out fun _ h => h.elim)
          have a0 := HB.out.1.cell (i := 0) rfl
          have a1 := HB.out.1.cell (i := 1) rfl
          have a2 := HB.out.1.cell (i := 2) rfl
          have b0' := HB.out.2.cell (i := 0) rfl
          have b1' := HB.out.2.cell (i := 1) rfl
          have b2' := HB.out.2.cell (i := 2) rfl
          go_cut [78] from 72 to 78 (fun t wx => t = .bool (decide (¬ (E = 0 ∧ toT y = l))) ∧ wx = W6)
          case first =>
            by_cases hE : E = 0
            · have f0 : ((E : Int) != 0) = false := by simp; omega
              by_cases hs : toT y = l
              · have e1 : ((y.page : Nat) : Int) = l.p := by rw [← hs]; rfl
                have e2 : ((y.frame : Nat) : Int) = l.f := by rw [← hs]; rfl
                have e3 : ((y.rights : Nat) : Int) = l.r := by rw [← hs]; rfl
                rw [e1] at b0'
                rw [e2] at b1'
                rw [e3] at b2'
                have HT : Hid (decide (¬ (E = 0 ∧ toT y = l)) = false) := decide_eq_false fun h => h ⟨hE, hs⟩
                clear hs hE e1 e2 e3
                go_wp2_with fail
                go_meet
                exact ⟨by rw [HT.out], rfl⟩
              · have HT : Hid (decide (¬ (E = 0 ∧ toT y = l)) = true) := decide_eq_true fun h => hs h.2
                by_cases e1 : ((y.page : Nat) : Int) = l.p
                · rw [e1] at b0'
                  by_cases e2 : ((y.frame : Nat) : Int) = l.f
                  · rw [e2] at b1'
                    have e3 : ¬ ((y.rights : Nat) : Int) = l.r := fun e3 => hs (by unfold toT; rw [e1, e2, e3])
                    have e3' : (((y.rights : Nat) : Int) == l.r) = false := by simpa using e3
                    clear hs hE e1 e2
                    go_wp2_with fail
                    go_meet
                    exact ⟨by rw [HT.out], rfl⟩
                  · have e2' : (((y.frame : Nat) : Int) == l.f) = false := by simpa using e2
                    clear hs hE e1
                    go_wp2_with fail
                    go_meet
                    exact ⟨by rw [HT.out], rfl⟩
                · have e1' : (((y.page : Nat) : Int) == l.p) = false := by simpa using e1
                  clear hs hE
                  go_wp2_with fail
                  go_meet
                  exact ⟨by rw [HT.out], rfl⟩
            · have f0 : ((E : Int) != 0) = true := by simp; omega
              have HT : Hid (decide (¬ (E = 0 ∧ toT y = l)) = true) := decide_eq_true fun h => hE h.1
              clear hE
              go_wp2_with fail
              go_meet
              exact ⟨by rw [HT.out], rfl⟩
          case rest =>
            obtain ⟨rfl, hw⟩ := hcut
            obtain rfl := hw.symm
            clear hw a0 a1 a2 b0' b1' b2'
            obtain ⟨off, eo⟩ : ∃ off, off = decide (¬ (E = 0 ∧ toT y = l)) := ⟨_, rfl⟩
            rw [← eo]
            cases off with
            | true =>
              clear eo
              go_wp2_with fail
              refine HAw.out.mono ?_
              rintro e w7 ⟨rfl, hK7⟩
              have HE' : Hid (Keeps (fun _ => False) w w7) := (HD.out.1.1.2.2.k.trans HK.out fun _ _ h => h).trans hK7 fun _ _ h => h
              clear hK7 HAw
              go_wp2
              go_ret
              exact ⟨rfl, HE'.out⟩
            | false =>
              have HN : Hid ((Ld w W6 Z X b g b0 g0 c tb cb n rg pc xs rg' pc' xs' ls st FT' FC' ∧ LvR W6 gv ls) ∧ ∀ k l, k < j + 1 → ls[k]? = some l → Tells1 n xs' root l) := by
                obtain ⟨⟨⟨q1, q2, q3⟩, q4⟩, q5, q6⟩ := HD.out
                refine ⟨⟨⟨q1.kept HK.out fun _ _ h => h, q2, q3.grown HK.out⟩, q4.kept HK.out⟩, fun k l' hk hl' => ?_⟩
                by_cases ek : k = j
                · subst ek
                  rw [q6] at hl'
                  obtain rfl := Option.some.inj hl'
                  have := of_decide_eq_false eo.symm
                  obtain ⟨z1, z2⟩ := Classical.not_not.1 this
                  exact ⟨by rw [← HE.out.1]; exact z1, by rw [← HE.out.2]; exact z2⟩
                · exact q5 k l' (by omega) hl'
              clear eo HD HK HAw HE HB
              go_wp2
              go_roundw
              case rel => exact ⟨j + 1, by omega, by go_num, HN.out⟩
              case measure => simp [Ch.intOf]; omega
        · obtain rfl : j = ls.length := by omega
          have HFr : Hid (∀ r : Nat, root = r → Fresh n xs' r ls) := fun r e => fresh_of (fun l hl => by
            obtain ⟨k, hk, e'⟩ := List.mem_iff_getElem.1 hl
            have := hall k l hk (by rw [List.getElem?_eq_getElem hk, e'])
            rw [e] at this; exact this) hD.1.good
          have HD : Hid (Ld w wr Z X b g b0 g0 c tb cb n rg pc xs rg' pc' xs' ls st FT' FC') := hD
          have HY : Hid (Z ≤ wr.heap.size ∧ ∀ k, (k = c ∨ FT' k ∨ FC' k) → Z ≤ k ∧ k < wr.heap.size) := ⟨by
            have h1 := hD.2.1 c (.inl rfl)
            have h2 := hD.1.blk.lt
            omega, fun k e => ⟨hD.2.1 k e, hD.1.lt k e⟩⟩
          have HN : Hid (Calls _ _ _ _ _) := new_core wr (by have h1 := HZ.out.1; have h2 := HZ.out.2; have h3 := HY.out.1; omega)
          obtain ⟨Y, eY⟩ : ∃ Y, Y = wr.heap.size := ⟨_, rfl⟩
          rw [← eY] at HY
          have HeY : Hid (Y = wr.heap.size) := eY
          have hjj : ¬ ((ls.length : Nat) : Int) < (ls.length : Nat) := by omega
          clear hD hV hall hlt hj HD5 eY
          go_wp2_with fail
          refine HN.out.mono ?_
          rintro e v1 ⟨d, tb2, cb2, FT2, FC2, rfl, hC1, hn1, hK1⟩
          have HD1 : Hid (Ld w v1 Z X b g b0 g0 c tb cb n rg pc xs rg' pc' xs' ls st FT' FC') := ⟨HD.out.1.kept hK1 fun _ _ h => h, HD.out.2.1, HD.out.2.2.grown hK1⟩
          have HY1 : Hid ((∀ k, (k = d ∨ FT2 k ∨ FC2 k) → Y ≤ k ∧ k < v1.heap.size) ∧ Y ≤ v1.heap.size) := by
            rw [HeY.out]
            exact ⟨fun k e => ⟨hn1 k e, hC1.lt k e⟩, hK1.size⟩
          have HC1 : Hid (CoreAt v1 d tb2 cb2 (List.replicate 16 0) 0 [] (fun _ => []) FT2 FC2) := hC1
          have HX1 : Hid (Calls _ _ _ _ _) := context_any c tb cb rg' pc' ls st FT' FC' v1 HD1.out.1
          clear hC1 hn1 hK1 HN HD HeY
          go_wp2_with fail
          refine HX1.out.mono ?_
          rintro e v2 ⟨rfl, hK2⟩
          have HD2 : Hid (Ld w v2 Z X b g b0 g0 c tb cb n rg pc xs rg' pc' xs' ls st FT' FC') := ⟨HD1.out.1.kept hK2 fun _ _ h => h, HD1.out.2.1, HD1.out.2.2.grown hK2⟩
          have HS2 : Hid (Calls _ _ _ _ _) := set_any d tb2 cb2 (List.replicate 16 0) rg' 0 pc' [] (fun _ => []) FT2 FC2 v2 (HC1.out.kept hK2 fun _ _ h => h) HD1.out.1.len HD1.out.1.pcl
          have HY2 : Hid (v1.heap.size ≤ v2.heap.size) := hK2.size
          clear hK2 HX1 HD1 HC1
          go_wp2_with fail
          refine HS2.out.mono ?_
          rintro e v3 ⟨rfl, hC3, hK3⟩
          have HD3 : Hid (Ld w v3 Z X b g b0 g0 c tb cb n rg pc xs rg' pc' xs' ls st FT' FC') := ⟨HD2.out.1.kept hK3 fun k hk e => by
              have h1 := (HY.out.2 k hk).2
              have h2 := (HY1.out.1 k (.inl e)).1
              omega, HD2.out.2.1, HD2.out.2.2.kept hK3 fun k e => by
              have h1 := (HY1.out.1 k (.inl e)).1
              have h2 := HZ.out.1
              have h3 := HZ.out.2
              have h4 := HY.out.1
              exact ⟨by omega, by omega, by omega, by omega, by omega, by omega, by omega⟩⟩
          have HC3 : Hid (CoreAt v3 d tb2 cb2 rg' pc' [] (fun _ => []) FT2 FC2 ∧ v1.heap.size ≤ v3.heap.size) := ⟨hC3, by have h1 := HY2.out; have h2 := hK3.size; omega⟩
          have HCl : Hid (Calls _ _ _ _ _) := clone_any b g n xs' v3 HD3.out.2.2.m
          clear hC3 hK3 HS2 HD2 HY2
          go_wp2_with fail
          refine HCl.out.mono ?_
          rintro e v4 ⟨b2, rfl, hM4, hb4, hK4⟩
          obtain ⟨g2, eg2⟩ : ∃ g2, g2 = v3.heap.size := ⟨_, rfl⟩
          rw [← eg2] at hM4
          have HD4 : Hid (Ld w v4 Z X b g b0 g0 c tb cb n rg pc xs rg' pc' xs' ls st FT' FC') := ⟨HD3.out.1.kept hK4 fun _ _ h => h, HD3.out.2.1, HD3.out.2.2.grown hK4⟩
          have HC4 : Hid (CoreAt v4 d tb2 cb2 rg' pc' [] (fun _ => []) FT2 FC2) := HC3.out.1.kept hK4 fun _ _ h => h
          have HM4 : Hid (Mn v4 b2 g2 n xs') := hM4
          have HY4 : Hid (v1.heap.size ≤ g2 ∧ g2 ≤ b2 ∧ b2 ≠ g2 ∧ b2 < v4.heap.size ∧ g2 < v4.heap.size) := ⟨by rw [eg2]; exact HC3.out.2, by rw [eg2]; exact hb4, fun e => hM4.mm.ne e, hM4.mm.blk.lt, hM4.mm.row.lt⟩
          clear hM4 hb4 hK4 eg2 HCl HD3 HC3
          obtain ⟨E, K, K2, rt, cl, ap, x, rd, ad, vl, rgz, pcz, xs7, ls7, ls2, st7, st2, hP⟩ := pair_any c tb cb b g d tb2 cb2 b2 g2 n root bh rg' pc' ls st FT' FC' FT2 FC2 xs' (by omega) HFr.out
          have HP : Hid (Pair c tb cb b g d tb2 cb2 b2 g2 n root bh rg' pc' ls st FT' FC' FT2 FC2 xs' E K K2 rt cl ap x rd ad vl rgz pcz xs7 ls7 ls2 st7 st2) := hP
          have H5 : Hid (Calls Tryz.prog 26 #[ptr c, ptr b, .int .i64 root, .int .u32 bh] v4 fun e w' => e = .returned (.tuple #[.agg #[.int .i64 K, .int .i64 rt, .int .i64 cl, .int .u32 ap, .int .u32 x, .bool rd, .int .u32 ad, .int .u32 vl], .int .i64 E]) ∧ Stepped v4 w' c tb cb b g n FT' FC' rgz pcz xs7 ls7 st7) := hP.one v4 HD4.out.1 HD4.out.2.2.m (fun k hk => by
            have h1 := (HY.out.2 k hk).1
            have h2 := HZ.out.1
            have h3 := HZ.out.2
            exact ⟨by omega, by omega⟩) HD4.out.2.2.t (by have h2 := HZ.out.1; omega)
          clear hP
          go_wp2_with fail
          refine H5.out.mono ?_
          rintro e v5 ⟨rfl, hS5⟩
          obtain ⟨V5, hV5⟩ : ∃ V5, V5 = v5.alloc (.cells #[.int .i64 K, .int .i64 rt, .int .i64 cl, .int .u32 ap, .int .u32 x, .bool rd, .int .u32 ad, .int .u32 vl] 58) := ⟨_, rfl⟩
          have hka : Keeps (fun _ => False) v5 V5 := by rw [hV5]; exact (Keeps.refl _ v5).alloc _
          have hA5 : Blk V5 v5.heap.size [.int .i64 K, .int .i64 rt, .int .i64 cl, .int .u32 ap, .int .u32 x, .bool rd, .int .u32 ad, .int .u32 vl] 58 := by rw [hV5]; exact Blk.new v5 _ 58
          obtain ⟨A, eA⟩ : ∃ A, A = v5.heap.size := ⟨_, rfl⟩
          rw [← eA] at hA5
          have hfar : ∀ k, (k = c ∨ k = g ∨ FT' k ∨ FC' k) → k = g ∨ (Z ≤ k ∧ k < Y) := fun k e => by
            rcases e with e | e | e | e
            · exact .inr (HY.out.2 k (.inl e))
            · exact .inl e
            · exact .inr (HY.out.2 k (.inr (.inl e)))
            · exact .inr (HY.out.2 k (.inr (.inr e)))
          have HB5 : Hid (Bd w V5 X b g b0 g0 n rg pc xs7 xs) := (HD4.out.2.2.first hS5 fun k e => by
            have h2 := HZ.out.1
            have h3 := HZ.out.2
            have h4 := hfar k (e.elim .inl fun e => e.elim (fun e => .inr (.inr (.inl e))) fun e => e.elim (fun e => .inr (.inr (.inr e))) fun e => .inr (.inl e))
            exact ⟨by omega, by omega, by omega, by omega, by omega⟩).grown hka
          have HC5 : Hid (∃ FT' FC', CoreAt V5 c tb cb rgz pcz ls7 st7 FT' FC' ∧ ∀ k, (k = c ∨ FT' k ∨ FC' k) → k < Y ∨ v4.heap.size ≤ k) := by
            obtain ⟨F1, F2, z1, z2, z3, z4⟩ := hS5.ex
            refine ⟨F1, F2, z1.kept hka fun _ _ h => h, fun k e => ?_⟩
            rcases e with e | e | e
            · exact .inl (HY.out.2 k (.inl e)).2
            · rcases z2 k e with e | e
              · exact .inl (HY.out.2 k (.inr (.inl e))).2
              · exact .inr e
            · rcases z3 k e with e | e
              · exact .inl (HY.out.2 k (.inr (.inr e))).2
              · exact .inr e
          have HD5 : Hid (CoreAt V5 d tb2 cb2 rg' pc' [] (fun _ => []) FT2 FC2 ∧ Mn V5 b2 g2 n xs') := by
            have h2 := HZ.out.1
            have h3 := HZ.out.2
            have h4 := HY.out.1
            have h5 := HY1.out.2
            have h6 := HY4.out
            refine ⟨(HC4.out.kept hS5.kp fun k hk e => ?_).kept hka fun _ _ h => h, (HM4.out.kept hS5.kp (fun e => ?_) (fun e => ?_)).grown hka⟩
            · have h1 := (HY1.out.1 k hk).1
              have := hfar k e
              omega
            · have := hfar _ e
              omega
            · have := hfar _ e
              omega
          have HA5 : Hid (Blk V5 A [.int .i64 K, .int .i64 rt, .int .i64 cl, .int .u32 ap, .int .u32 x, .bool rd, .int .u32 ad, .int .u32 vl] 58 ∧ v4.heap.size ≤ A) := ⟨hA5, by rw [eA]; exact hS5.kp.size⟩
          have HV5 : Hid (v5.alloc (.cells #[.int .i64 K, .int .i64 rt, .int .i64 cl, .int .u32 ap, .int .u32 x, .bool rd, .int .u32 ad, .int .u32 vl] 58) = V5) := hV5.symm
          have HeA : Hid (v5.heap.size = A) := eA.symm
          clear hS5 hV5 hka hA5 eA hfar H5 HD4 HC4 HM4 HFr
          have H6 : Hid (Calls Tryz.prog 26 #[ptr d, ptr b2, .int .i64 root, .int .u32 bh] V5 fun e w' => e = .returned (.tuple #[.agg #[.int .i64 K2, .int .i64 rt, .int .i64 cl, .int .u32 ap, .int .u32 x, .bool rd, .int .u32 ad, .int .u32 vl], .int .i64 E]) ∧ Stepped V5 w' d tb2 cb2 b2 g2 n FT2 FC2 rgz pcz xs7 ls2 st2) := HP.out.two V5 HD5.out.1 HD5.out.2 (fun k hk => by
            have h1 := HY1.out.1 k hk
            have h2 := HY4.out
            exact ⟨by omega, by omega⟩) HB5.out.t (by have h2 := HY4.out; have h3 := HY1.out.2; have h4 := HY.out.1; have h5 := HZ.out.1; have h6 := HZ.out.2; omega)
          have HKs : Hid (E = 0 → 2 ≤ K ∧ K2 ≤ 37 ∧ K ≤ K2) := HP.out.cost
          clear HP
          go_upto_region 22 with fail
          rw [HV5.out, HeA.out]
          clear HV5 HeA
          go_wp2_with fail
          refine H6.out.mono ?_
          rintro e v6 ⟨rfl, hS6⟩
          obtain ⟨V6, hV6⟩ : ∃ V6, V6 = v6.alloc (.cells #[.int .i64 K2, .int .i64 rt, .int .i64 cl, .int .u32 ap, .int .u32 x, .bool rd, .int .u32 ad, .int .u32 vl] 58) := ⟨_, rfl⟩
          have hkb : Keeps (fun _ => False) v6 V6 := by rw [hV6]; exact (Keeps.refl _ v6).alloc _
          have hB6 : Blk V6 v6.heap.size [.int .i64 K2, .int .i64 rt, .int .i64 cl, .int .u32 ap, .int .u32 x, .bool rd, .int .u32 ad, .int .u32 vl] 58 := by rw [hV6]; exact Blk.new v6 _ 58
          obtain ⟨B, eB⟩ : ∃ B, B = v6.heap.size := ⟨_, rfl⟩
          rw [← eB] at hB6
          have hfar : ∀ k, (k = d ∨ k = g2 ∨ FT2 k ∨ FC2 k) → k = g2 ∨ (Y ≤ k ∧ k < v1.heap.size) := fun k e => by
            rcases e with e | e | e | e
            · exact .inr (HY1.out.1 k (.inl e))
            · exact .inl e
            · exact .inr (HY1.out.1 k (.inr (.inl e)))
            · exact .inr (HY1.out.1 k (.inr (.inr e)))
          have HB6 : Hid (Bd w V6 X b g b0 g0 n rg pc xs7 xs ∧ Mn V6 b2 g2 n xs7) := ⟨(HB5.out.kept hS6.kp fun k e => by
            have h2 := HZ.out.1
            have h3 := HZ.out.2
            have h4 := hfar k e
            have h5 := HY.out.1
            have h6 := HY4.out
            have h7 := HY1.out.2
            exact ⟨by omega, by omega, by omega, by omega, by omega, by omega, by omega⟩).grown hkb, hS6.mn.grown hkb⟩
          have HC6 : Hid (∃ FT' FC', CoreAt V6 c tb cb rgz pcz ls7 st7 FT' FC') := by
            obtain ⟨F1, F2, z1, z2⟩ := HC5.out
            refine ⟨F1, F2, (z1.kept hS6.kp fun k hk e => ?_).kept hkb fun _ _ h => h⟩
            have h1 := z2 k hk
            have h2 := hfar k e
            have h6 := HY4.out
            have h7 := HY1.out.2
            have h8 : v1.heap.size ≤ v4.heap.size := by omega
            omega
          have HD6 : Hid (∃ FT' FC', CoreAt V6 d tb2 cb2 rgz pcz ls2 st2 FT' FC') := by
            obtain ⟨F1, F2, z1, _⟩ := hS6.ex
            exact ⟨F1, F2, z1.kept hkb fun _ _ h => h⟩
          have HA6 : Hid ((Blk V6 A [.int .i64 K, .int .i64 rt, .int .i64 cl, .int .u32 ap, .int .u32 x, .bool rd, .int .u32 ad, .int .u32 vl] 58 ∧ Blk V6 B [.int .i64 K2, .int .i64 rt, .int .i64 cl, .int .u32 ap, .int .u32 x, .bool rd, .int .u32 ad, .int .u32 vl] 58) ∧ w.heap.size ≤ A ∧ A < V6.heap.size ∧ A ≠ B ∧ (A ≠ b0 ∧ A ≠ g0 ∧ A ≠ b ∧ A ≠ g) ∧ 2 ≤ A) := by
            have h1 := HA5.out.2
            have h2 := HZ.out.1
            have h3 := HZ.out.2
            have h5 := HY.out.1
            have h6 := HY4.out
            have h7 := HY1.out.2
            have h8 := hS6.kp.size
            have h9 := HA5.out.1.lt
            have hA6 := (HA5.out.1.kept hS6.kp (fun e => by have := hfar A e; omega)).kept hkb fun h => h
            exact ⟨⟨hA6, hB6⟩, by omega, hA6.lt, by omega, ⟨by omega, by omega, by omega, by omega⟩, by omega⟩
          have HV6 : Hid (v6.alloc (.cells #[.int .i64 K2, .int .i64 rt, .int .i64 cl, .int .u32 ap, .int .u32 x, .bool rd, .int .u32 ad, .int .u32 vl] 58) = V6) := hV6.symm
          have HeB : Hid (v6.heap.size = B) := eB.symm
          clear hS6 hV6 hkb hB6 eB hfar H6 HB5 HC5 HD5 HA5
          go_upto_region 23 with fail
          rw [HV6.out, HeB.out]
          have HCx : Hid (Calls Tryz.prog 19 #[ptr c] V6 fun e w' => e = .returned (.agg (ctx rgz pcz).toArray) ∧ Keeps (fun _ => False) V6 w') := by
            obtain ⟨F1, F2, z1⟩ := HC6.out
            exact context_any c tb cb rgz pcz ls7 st7 F1 F2 V6 z1
          have Hz : Hid (rgz.length = 16 ∧ pcz < 4294967296) := by
            obtain ⟨F1, F2, z1⟩ := HC6.out
            exact ⟨z1.len, z1.pcl⟩
          clear HV6 HeB
          go_wp2_with fail
          refine HCx.out.mono ?_
          rintro e w12 ⟨rfl, hK12⟩
          have HDx : Hid (Calls Tryz.prog 19 #[ptr d] w12 fun e w' => e = .returned (.agg (ctx rgz pcz).toArray) ∧ Keeps (fun _ => False) w12 w') := by
            obtain ⟨F1, F2, z1⟩ := HD6.out
            exact context_any d tb2 cb2 rgz pcz ls2 st2 F1 F2 w12 (z1.kept hK12 fun _ _ h => h)
          have HK12 : Hid (Keeps (fun _ => False) V6 w12) := hK12
          clear hK12 HCx HC6 HD6
          go_wp2_with fail
          refine HDx.out.mono ?_
          rintro e w13 ⟨rfl, hK13⟩
          have HK13 : Hid (Keeps (fun _ => False) V6 w13) := HK12.out.trans hK13 fun _ _ h => h
          have HNE : Hid (_ = _) := neq_ctx rgz pcz Hz.out.1 Hz.out.2 w13
          have hx7 : xs7.length = L := by have h1 := HL.out; have h2 := HQ.out.1; have h3 := HB6.out.2.len; omega
          have H14 := words_any b g xs7 w13 (HB6.out.1.grown HK13.out).m.mm
          rw [hx7] at H14
          replace H14 : Hid (Calls Tryz.prog 33 #[ptr b] w13 fun e w' => e = .returned (.slice (some ⟨w13.heap.size, 0, none⟩) L L) ∧ Blk w' w13.heap.size (wvs xs7) 37 ∧ Keeps (fun _ => False) w13 w') := H14
          have Hx7 : Hid (xs7.length = L) := hx7
          clear hK13 HDx HK12 hx7
          go_wp2_with (refine wpList_neq_on rfl 40 (.tmp 111) (.tmp 113) 40 rfl _ _ _ rfl rfl (by kernel_rfl) HNE.out ?_; refine Hid.out ?_)
          unfold Hid
          go_wp2_with fail
          refine H14.out.mono ?_
          rintro e w14 ⟨rfl, hP14, hK14⟩
          obtain ⟨G', eG⟩ : ∃ G', G' = w13.heap.size := ⟨_, rfl⟩
          rw [← eG] at hP14 ⊢
          have hk14 : Keeps (fun _ => False) V6 w14 := HK13.out.trans hK14 fun _ _ h => h
          have H15 := words_any b2 g2 xs7 w14 (HB6.out.2.grown hk14).mm
          rw [Hx7.out] at H15
          replace H15 : Hid (Calls Tryz.prog 33 #[ptr b2] w14 fun e w' => e = .returned (.slice (some ⟨w14.heap.size, 0, none⟩) L L) ∧ Blk w' w14.heap.size (wvs xs7) 37 ∧ Keeps (fun _ => False) w14 w') := H15
          have HP14 : Hid (Blk w14 G' (wvs xs7) 37 ∧ Keeps (fun _ => False) V6 w14) := ⟨hP14, hk14⟩
          clear hP14 hK14 hk14 eG HNE H14 HK13
          go_wp2_with fail
          refine H15.out.mono ?_
          rintro e w15 ⟨rfl, hP15, hK15⟩
          obtain ⟨G2, eG2⟩ : ∃ G2, G2 = w14.heap.size := ⟨_, rfl⟩
          rw [← eG2] at hP15 ⊢
          have HK15 : Hid (Keeps (fun _ => False) V6 w15) := HP14.out.2.trans hK15 fun _ _ h => h
          have HSw := sameWords_any G' G2 xs7 L L w15 (HP14.out.1.kept hK15 fun h => h) hP15 (by have h1 := Hx7.out; have h2 := HL.out; have h3 := HQ.out; omega)
          rw [Hx7.out] at HSw
          have HSw' : Hid (Calls _ _ _ _ _) := HSw
          clear HSw hP15 hK15 eG2 H15 HP14
          go_wp2_with fail
          refine HSw'.out.mono ?_
          rintro e w16 ⟨rfl, hK16⟩
          have hk : Keeps (fun _ => False) V6 w16 := HK15.out.trans hK16 fun _ _ h => h
          have HB16 : Hid (Bd w w16 X b g b0 g0 n rg pc xs7 xs) := HB6.out.1.grown hk
          have HA16 : Hid ((Blk w16 A [.int .i64 K, .int .i64 rt, .int .i64 cl, .int .u32 ap, .int .u32 x, .bool rd, .int .u32 ad, .int .u32 vl] 58 ∧ Blk w16 B [.int .i64 K2, .int .i64 rt, .int .i64 cl, .int .u32 ap, .int .u32 x, .bool rd, .int .u32 ad, .int .u32 vl] 58)) := ⟨HA6.out.1.1.kept hk fun h => h, HA6.out.1.2.kept hk fun h => h⟩
          have a0 := HA16.out.1.cell (i := 0) rfl
          have z0 := HA16.out.1.frozen 0
          have b0' := HA16.out.2.cell (i := 0) rfl
          clear hK16 hk HSw' HK15 HB6
          go_upto_region 25 with fail
          go_cut [142] from 124 to 142 (fun t wx => t = .bool false ∧ wx = w16)
          case first =>
            by_cases hE : E = 0
            · have f0 : ((E : Int) == 0) = true := by simp; omega
              obtain ⟨k1, k2, k3⟩ := HKs.out hE
              have p1 : decide (K < 2) = false := decide_eq_false (by omega)
              have p2 : decide (37 < K2) = false := decide_eq_false (by omega)
              have p3 : decide (K2 < K) = false := decide_eq_false (by omega)
              clear hE
              go_wp2_with fail
              go_meet
              exact ⟨rfl, rfl⟩
            · have f0 : ((E : Int) == 0) = false := by simp; omega
              clear hE
              go_wp2_with fail
              go_meet
              exact ⟨rfl, rfl⟩
          case rest =>
            obtain ⟨rfl, hw⟩ := hcut
            obtain rfl := hw.symm
            clear hw HKs
            go_upto_region 28 with fail
            obtain ⟨V, hV⟩ : ∃ V, V = w16.setCell ⟨A, 0, none⟩ (.int .i64 K2) := ⟨_, rfl⟩
            rw [← hV]
            have hKV : Keeps (· = A) w16 V := by rw [hV]; exact (Keeps.refl (· = A) w16).setCell _ _ fun _ => rfl
            have hBA : Blk V A [.int .i64 K2, .int .i64 rt, .int .i64 cl, .int .u32 ap, .int .u32 x, .bool rd, .int .u32 ad, .int .u32 vl] 58 := by rw [hV]; exact HA16.out.1.setCell 0 (.int .i64 K2)
            have hBB : Blk V B [.int .i64 K2, .int .i64 rt, .int .i64 cl, .int .u32 ap, .int .u32 x, .bool rd, .int .u32 ad, .int .u32 vl] 58 := HA16.out.2.kept hKV (fun e => by have := HA6.out.2.2.2.1; exact this e.symm)
            have hFr0 : Mn V b0 g0 n xs ∧ Mn V b g n xs7 := by
              have h1 := HA6.out.2.2.2.2.1
              exact ⟨HB16.out.q.kept hKV (fun e => h1.1 e.symm) (fun e => h1.2.1 e.symm), HB16.out.m.kept hKV (fun e => h1.2.2.1 e.symm) (fun e => h1.2.2.2 e.symm)⟩
            have HF1 : Hid (Calls Tryz.prog 34 #[ptr b0] V fun e w' => e = .returned (.int .i64 n) ∧ w' = V) := frames_any b0 g0 xs n V hFr0.1.mm hFr0.1.len
            have HF2 : Hid (Calls Tryz.prog 34 #[ptr b] V fun e w' => e = .returned (.int .i64 n) ∧ w' = V) := frames_any b g xs7 n V hFr0.2.mm hFr0.2.len
            have hkV : Keeps (fun _ => False) w V := HB16.out.k.trans hKV fun k hk e => by have := HA6.out.2.1; omega
            have HAw : Hid (Calls Tryz.prog 12 #[] V fun e w' => e = .returned (.bool true) ∧ Keeps (fun _ => False) V w') := awake_any V (tabs_kept HB16.out.t hKV fun k (e : k = A) => by have := HA6.out.2.2.2.2.2; omega)
            have HLa : Hid (V.rangeAt A 0 [.int .i64 K2, .int .i64 rt, .int .i64 cl, .int .u32 ap, .int .u32 x, .bool rd, .int .u32 ad, .int .u32 vl] ∧ V.rangeAt B 0 [.int .i64 K2, .int .i64 rt, .int .i64 cl, .int .u32 ap, .int .u32 x, .bool rd, .int .u32 ad, .int .u32 vl]) := ⟨fun j v hv => by rw [Nat.zero_add]; exact hBA.cell hv, fun j v hv => by rw [Nat.zero_add]; exact hBB.cell hv⟩
            have HKV : Hid (Keeps (fun _ => False) w V) := hkV
            clear hV hKV hBA hBB hFr0 hkV HA16 HA6 HB16 a0 z0 b0'
            go_wp2_with (refine wpList_load_mid rfl 58 (.tmp 22) rfl A 0 rfl _ _ HLa.out.1 Tryz.underlying58 rfl (by kernel_rfl) ?_; refine Hid.out ?_)
            unfold Hid
            go_wp2_with (refine wpList_load_mid rfl 58 (.tmp 23) rfl B 0 rfl _ _ HLa.out.2 Tryz.underlying58 rfl (by kernel_rfl) ?_; refine Hid.out ?_)
            unfold Hid
            go_wp2_with fail
            refine HF1.out.mono ?_
            rintro e w' ⟨rfl, hw⟩
            obtain rfl := hw.symm
            clear hw HF1
            go_wp2_with fail
            refine HF2.out.mono ?_
            rintro e w' ⟨rfl, hw⟩
            obtain rfl := hw.symm
            clear hw HF2
            go_wp2_with fail
            refine HAw.out.mono ?_
            rintro e w20 ⟨rfl, hK20⟩
            have HE : Hid (Keeps (fun _ => False) w w20) := HKV.out.trans hK20 fun _ _ h => h
            clear hK20 HAw
            go_wp2
            go_ret
            exact ⟨rfl, HE.out⟩

end Go.Proofs.YtipejahmjdamjaaGreatDoor
