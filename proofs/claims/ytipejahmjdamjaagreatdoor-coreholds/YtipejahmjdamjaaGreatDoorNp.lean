import Derived.Test.YtipejahmjdamjaaGreatDoorNn
namespace Go.Proofs.YtipejahmjdamjaaGreatDoor
open Go.RowKit Go.Shelf
set_option linter.unusedVariables false
set_option linter.unusedSimpArgs false
set_option maxRecDepth 20000

/-! ### What is lent -/
def nl (lls : List (List Int)) (j : Nat) : Nat := (Ch.nth lls j).length
def rowV (Bs : Nat → Nat) (lls : List (List Int)) (j : Nat) : Value := .slice (some ⟨Bs j, 0, none⟩) (nl lls j) (nl lls j + 70)
def rowsV (Bs : Nat → Nat) (lls : List (List Int)) (k : Nat) : List Value := (List.range k).map (rowV Bs lls)
theorem rowsV_get (Bs : Nat → Nat) (lls : List (List Int)) {k j : Nat} (h : j < k) : (rowsV Bs lls k)[j]? = some (rowV Bs lls j) := by
  unfold rowsV
  rw [List.getElem?_map, List.getElem?_range h]
  rfl
theorem rowsV_len (Bs : Nat → Nat) (lls : List (List Int)) (k : Nat) : (rowsV Bs lls k).length = k := by simp [rowsV]
theorem rowsV_succ (Bs : Nat → Nat) (lls : List (List Int)) (k : Nat) : rowsV Bs lls (k + 1) = rowsV Bs lls k ++ [rowV Bs lls k] := by
  unfold rowsV
  rw [List.range_succ, List.map_append]
  rfl
theorem rowsV_congr {Bs Bs' : Nat → Nat} {lls : List (List Int)} {k : Nat} (h : ∀ j, j < k → Bs' j = Bs j) : rowsV Bs' lls k = rowsV Bs lls k := by
  unfold rowsV
  refine List.map_congr_left fun j hj => ?_
  unfold rowV
  rw [h j (by simpa using hj)]

/-- Lists of lines of one's own, with room behind them. -/
structure Lt (w : World) (lo : Nat) (lls : List (List Int)) (k : Nat) (lv : Value) (Bs : Nat → Nat) : Prop where
  row : w.ownsRow 0 99 1 lv k (rowsV Bs lls k)
  blk : ∀ j, j < k → Blk w (Bs j) (fI (nl lls j + 70) (spareI (Ch.nth lls j))) 3
  low : ∀ j, j < k → lo ≤ Bs j
  own : ∀ b, lv.ownBlock = some b → lo ≤ b
  dis : ∀ i j, i < k → j < k → i ≠ j → Bs i ≠ Bs j
theorem Lt.kept {S : Nat → Prop} {w w' : World} {lo : Nat} {lls : List (List Int)} {k : Nat} {lv : Value} {Bs : Nat → Nat} (h : Lt w lo lls k lv Bs) (hK : Keeps S w w') (hS : ∀ b, lo ≤ b → b < w.heap.size → ¬ S b) : Lt w' lo lls k lv Bs :=
  ⟨owns_kept h.row hK fun b hb => hS b (h.own b hb) (owns_lt h.row hb), fun j hj => (h.blk j hj).kept hK (hS _ (h.low j hj) (h.blk j hj).lt), h.low, h.own, h.dis⟩
theorem Lt.start (w : World) (lo : Nat) (lls : List (List Int)) : Lt w lo lls 0 (.slice none 0 0) (fun _ => 0) :=
  ⟨⟨rfl, .inl ⟨rfl, rfl⟩⟩, fun j hj => by omega, fun j hj => by omega, fun b hb => by simp [Value.ownBlock] at hb, fun i j hi => by omega⟩
/-- One list more. -/
theorem Lt.step {w w1 : World} {lo k B : Nat} {lls : List (List Int)} {a : Option Addr} {c : Nat} {Bs : Nat → Nat} (h : Lt w lo lls k (.slice a k c) Bs) (hK : Keeps (fun _ => False) w w1) (hlo : lo ≤ w.heap.size) (hB0 : w.heap.size ≤ B) (hB : Blk w1 B (fI (nl lls k + 70) (spareI (Ch.nth lls k))) 3) (hk : k ≤ 4294967296) (bx : Nat) (X : List Value) (hX : Blk w bx X 44) (hbx : bx < lo) :
    ∃ v' W', (∀ ty, (Builtin.append_ #[41, 41] ty #[.slice a k c, .slice (some ⟨w1.heap.size, 0, none⟩) 1 1]).run Tryz.prog (w1.alloc (.cells #[.slice (some ⟨B, 0, none⟩) (nl lls k) (nl lls k + 70)] 99)) = .ok v' W') ∧
      Lt (W'.setCell ⟨bx, 17, none⟩ v') lo lls (k + 1) v' (fun j => if j = k then B else Bs j) ∧ Blk (W'.setCell ⟨bx, 17, none⟩ v') bx (X.set 17 v') 44 ∧ Keeps (fun b => lo ≤ b ∨ b = bx) w (W'.setCell ⟨bx, 17, none⟩ v') ∧ Blk W' bx X 44 ∧ (∃ a' c', v' = .slice a' (k + 1) c') ∧ Keeps (fun b => lo ≤ b ∨ b = bx) w W' := by
  have r1 := owns_kept h.row hK fun _ _ h => h
  obtain ⟨v', W', h1, h2, h3⟩ := app_one elemR (.slice (some ⟨B, 0, none⟩) (nl lls k) (nl lls k + 70)) rfl a k c _ r1 (by omega)
  have kk : Keeps (fun b => some b = (Value.slice a k c).ownBlock) w1 W' := h3.elim (fun h => h.2) fun h => h.2.none
  have hz := hK.size
  have hz2 := kk.size
  have hBl := hB.lt
  have ob : ∀ b, (Value.slice a k c).ownBlock = some b → lo ≤ b ∧ b < w.heap.size := fun b hb => ⟨h.own b hb, owns_lt h.row hb⟩
  have ob' : ∀ b, v'.ownBlock = some b → lo ≤ b := by
    intro b hb
    rcases h3 with ⟨e, _⟩ | ⟨⟨k2, e, e2⟩, _⟩
    · rw [e, own_any _ _ _ k c] at hb
      exact (ob b hb).1
    · rw [e] at hb
      injection hb with hb
      omega
  have hX' : Blk W' bx X 44 := (hX.kept hK fun h => h).kept kk fun hb => by have := ob bx hb.symm; omega
  have k3 : Keeps (fun b => b = bx) W' (W'.setCell ⟨bx, 17, none⟩ v') := (Keeps.refl _ _).setCell _ _ fun _ => rfl
  obtain ⟨a', c', e', _, _⟩ := own_slice h2
  have hrow : w1.ownsRow 0 99 1 (.slice a k c) k (rowsV Bs lls k) := r1
  refine ⟨v', W', h1, ⟨?_, ?_, ?_, ob', ?_⟩, hX'.setCell 17 v', ?_, hX', ⟨a', c', e'⟩, (hK.mono fun _ _ h => h.elim).trans kk fun b _ hb => .inl (ob b hb.symm).1⟩
  · have e1 : rowsV (fun j => if j = k then B else Bs j) lls (k + 1) = rowsV Bs lls k ++ [.slice (some ⟨B, 0, none⟩) (nl lls k) (nl lls k + 70)] := by
      rw [rowsV_succ, rowsV_congr fun j hj => by rw [if_neg (by omega)]]
      unfold rowV
      simp
    rw [e1]
    exact owns_kept h2 k3 fun b hb hb2 => by have := ob' b hb; omega
  · intro j hj
    by_cases e : j = k
    · subst e
      rw [if_pos rfl]
      have b1 := hB.kept kk fun hb => by have := ob B hb.symm; omega
      exact b1.kept k3 (by show ¬ B = bx; omega)
    · rw [if_neg e]
      have b0 := h.blk j (by omega)
      have b1 := b0.kept hK fun h => h
      have b2 := b1.kept kk fun hb => own_not_blk h.row (hb.symm) b0 (by decide)
      exact b2.kept k3 (by have := h.low j (by omega); show ¬ Bs j = bx; omega)
  · intro j hj
    by_cases e : j = k
    · rw [if_pos e]; omega
    · rw [if_neg e]; exact h.low j (by omega)
  · intro i j hi hj hij
    by_cases e1 : i = k
    · by_cases e2 : j = k
      · omega
      · rw [if_pos e1, if_neg e2]
        have := (h.blk j (by omega)).lt
        omega
    · by_cases e2 : j = k
      · rw [if_neg e1, if_pos e2]
        have := (h.blk i (by omega)).lt
        omega
      · rw [if_neg e1, if_neg e2]
        exact h.dis i j (by omega) (by omega) hij
  · have q1 : Keeps (fun b => lo ≤ b ∨ b = bx) w W' := (hK.mono fun _ _ h => h.elim).trans kk fun b _ hb => .inl (ob b hb.symm).1
    exact q1.trans k3 fun b _ hb => .inr hb

theorem heldL_set (rg : List UInt32) (pc : Nat) (l v l' : Value) (h : rg.length = 16) : (heldL rg pc l v).set 17 l' = heldL rg pc l' v := by
  obtain ⟨r0, r1, r2, r3, r4, r5, r6, r7, r8, r9, r10, r11, r12, r13, r14, r15, rfl⟩ := sixteen h
  rfl
theorem heldL_set2 (rg : List UInt32) (pc : Nat) (l v v' : Value) (h : rg.length = 16) : (heldL rg pc l v).set 18 v' = heldL rg pc l v' := by
  obtain ⟨r0, r1, r2, r3, r4, r5, r6, r7, r8, r9, r10, r11, r12, r13, r14, r15, rfl⟩ := sixteen h
  rfl
theorem append_leaves {w : World} (a : Option Addr) (ls : List Tl.Lf) (c : Nat) (hs : Tl.SegL w a ls) (hl : ls.length ≤ 2147483647) :
    ∃ v' W', (∀ ty, (Builtin.append_ #[42, 42] ty #[.slice none 0 0, .slice a ls.length c]).run Tryz.prog w = .ok v' W') ∧ W'.ownsRow 0 64 3 v' ls.length (Tl.flatL ls) ∧ (∀ g, v'.ownBlock = some g → w.heap.size ≤ g) ∧ Keeps (fun _ => False) w W' := by
  obtain ⟨i0, hi, hz0, hz1, hz2⟩ := info_parts Tl.Tryz.info64
  cases a with
  | none =>
    obtain rfl : ls = [] := by
      rcases hs with h | ⟨g, o, ha, _⟩
      · exact h
      · simp at ha
    exact ⟨.slice none 0 0, w, fun ty => Tl.append_none 42 64 i0 3 Tryz.underlying42 hi hz1 (by omega) (.slice none 0 0) 0 c [] (World.ownsRow_nil w 0 64 3) ty, World.ownsRow_nil w 0 64 3, fun g hg => by simp [Value.ownBlock] at hg, Keeps.refl _ _⟩
  | some x =>
    obtain ⟨v', W', h1, h2, h3, h4⟩ := append_many 42 64 i0 (.agg #[.int .i64 0, .int .i64 0, .int .i64 0]) 3 24 Tryz.underlying42 hi hz0 hz1 hz2 rfl (by omega) (.slice none 0 0) 0 [] (World.ownsRow_nil w 0 64 3) x ls.length c (Tl.flatL ls) (Tl.flatL_length ls) (by
      intro j u hj
      rcases hs with h | ⟨g, o, ha, h⟩
      · rw [h] at hj; simp [Tl.flatL] at hj
      · simp at ha
        subst ha
        rw [addr_add]
        exact Tl.seg_cells h j u hj) (by
      intro u hu
      obtain ⟨l, _, hl⟩ := List.mem_flatMap.1 hu
      simp at hl
      rcases hl with rfl | rfl | rfl <;> rfl) (by unfold maxLen; omega) (by omega)
    refine ⟨v', W', h1, by simpa using h2, fun g hg => ?_, h4.mono fun b _ he => by simp [Value.ownBlock] at he⟩
    rcases h3 with h | ⟨k, h, hk⟩
    · rw [h] at hg; simp [Value.ownBlock] at hg
    · rw [h] at hg; cases hg; exact hk

end Go.Proofs.YtipejahmjdamjaaGreatDoor
namespace Go.Proofs.YtipejahmjdamjaaGreatDoor
open Go.RowKit Go.Shelf
set_option linter.unusedVariables false
set_option linter.unusedSimpArgs false
set_option maxRecDepth 20000

theorem built44zx (r0 r1 r2 r3 r4 r5 r6 r7 r8 r9 r10 r11 r12 r13 r14 r15 : UInt32) (pc : Nat) :
    Tryz.prog.built 44 [(0, .agg (ctx [r0, r1, r2, r3, r4, r5, r6, r7, r8, r9, r10, r11, r12, r13, r14, r15] pc).toArray)] = some (heldL [r0, r1, r2, r3, r4, r5, r6, r7, r8, r9, r10, r11, r12, r13, r14, r15] pc (.slice none 0 0) (.slice none 0 0)).toArray := by kernel_rfl
theorem built44z (rg : List UInt32) (pc : Nat) (hl : rg.length = 16) : Tryz.prog.built 44 [(0, .agg (ctx rg pc).toArray)] = some (heldL rg pc (.slice none 0 0) (.slice none 0 0)).toArray := by
  obtain ⟨r0, r1, r2, r3, r4, r5, r6, r7, r8, r9, r10, r11, r12, r13, r14, r15, rfl⟩ := sixteen hl
  exact built44zx _ _ _ _ _ _ _ _ _ _ _ _ _ _ _ _ _

/-- How far the lending has come. -/
def NEXT (w W3 : World) (lo bx : Nat) (rg : List UInt32) (pc : Nat) (lls : List (List Int)) (k : Nat) (lv : Value) (wr : World) : Prop :=
  Keeps (fun _ => False) w wr ∧ Keeps (fun b => lo ≤ b ∨ b = bx) W3 wr ∧ lo ≤ wr.heap.size ∧ Blk wr bx (heldL rg pc lv (.slice none 0 0)) 44 ∧ ∃ Bs, Lt wr lo lls k lv Bs
theorem wp_append_run' {o : Oper} {a : Act} {K : Act → World → Prop} {Q : Exit → Act → World → Prop} {P : Program} {w : World} (s x : Operand) (t k : TypeId)
    (ho : o.op = .call { callee := .builtin .append, args := #[s, x], argTypes := #[t, k] }) (vs vx v' : Value) (w' : World) (hs : a.eval s = vs) (hx : a.eval x = vx)
    (hr : ∀ ty, (Builtin.append_ #[t, k] ty #[vs, vx]).run P w = .ok v' w') (h : K (a.put o.dst v') w') : Oper.wp P o a w K Q := Ch.wp_append_run s x t k ho vs vx v' w' hs hx hr h

set_option maxHeartbeats 8000000 in
theorem lent_any (rg : List UInt32) (pc : Nat) (la : Option Addr) (lls : List (List Int)) (lc : Nat) (va : Option Addr) (ls : List Tl.Lf) (vc : Nat) (w : World) (hl : rg.length = 16) (hs : Ch.SegL w la lls) (hN : lls.length ≤ 2147483647) (hlen : ∀ (j : Nat) (l : List Int), lls[j]? = some l → l.length ≤ 2147483647) (hL : Tl.SegL w va ls) (hLn : ls.length ≤ 2147483647) :
    Calls Tryz.prog 22 #[.agg (heldL rg pc (.slice la lls.length lc) (.slice va ls.length vc)).toArray] w fun e w' => ∃ lo lv vv Bs, e = .returned (.agg (heldL rg pc lv vv).toArray) ∧ w.heap.size ≤ lo ∧ Lt w' lo lls lls.length lv Bs ∧ w'.ownsRow 0 64 3 vv ls.length (Tl.flatL ls) ∧ (∀ g, vv.ownBlock = some g → lo ≤ g) ∧ Keeps (fun _ => False) w w' ∧ lo ≤ w'.heap.size := by
  obtain ⟨N, eN⟩ : ∃ N, N = lls.length := ⟨_, rfl⟩
  obtain ⟨VH, eVH⟩ : ∃ V, V = heldL rg pc (.slice la N lc) (.slice va ls.length vc) := ⟨_, rfl⟩
  obtain ⟨VZ, eVZ⟩ : ∃ V, V = heldL rg pc (.slice none 0 0) (.slice none 0 0) := ⟨_, rfl⟩
  obtain ⟨W2, eW2⟩ : ∃ W, W = (w.alloc (.cells VH.toArray 44)).alloc (.cells heldZ.toArray 44) := ⟨_, rfl⟩
  obtain ⟨bh, ebh⟩ : ∃ b, b = w.heap.size := ⟨_, rfl⟩
  obtain ⟨br, ebr⟩ : ∃ b, b = w.heap.size + 1 := ⟨_, rfl⟩
  rw [← eN]
  rw [← eVH]
  have kk : Keeps (fun _ => False) w W2 := by rw [eW2]; exact ((Keeps.refl _ w).alloc _).alloc _
  have hBh : Blk W2 bh VH 44 := by rw [eW2, ebh]; have := (Blk.new w VH.toArray 44).alloc (.cells heldZ.toArray 44); simpa using this
  have hBr : Blk W2 br heldZ 44 := by rw [eW2, ebr]; have := Blk.new (w.alloc (.cells VH.toArray 44)) heldZ.toArray 44; simpa using this
  have hsz : W2.heap.size = w.heap.size + 2 := by rw [eW2]; simp
  have lZ : VZ.length = 19 := by rw [eVZ]; exact heldL_len hl _ _ _
  have pz := put_held W2 VZ lZ (by rw [eVZ]; exact heldL_oneg _ _ _ _ _ _ _ _)
  obtain ⟨W3, hW3⟩ : ∃ w2, w2 = (W2.alloc (.cells heldZ.toArray 44)).setCells W2.heap.size 0 VZ.toArray.toList := ⟨_, rfl⟩
  rw [← hW3] at pz
  have HRa : Hid (W2.rangeAt bh 0 (ctx rg pc) ∧ (Tryz.prog.info? 40).map (·.size) = some (ctx rg pc).length) := ⟨fun j v hv => by rw [Nat.zero_add]; exact hBh.cell (by rw [eVH]; exact heldL_ctx rg pc _ _ hv), info40 hl pc⟩
  have HBu : Hid (Tryz.prog.built 44 [(0, .agg (ctx rg pc).toArray)] = some VZ.toArray) := by rw [eVZ]; exact built44z rg pc hl
  have HP : Hid ((W2.alloc (.cells heldZ.toArray 44)).there W2.heap.size 0 VZ.toArray.size ∧ (Tryz.prog.info? 44).map (·.size) = some VZ.toArray.size ∧ VZ.toArray.all (·.oneCell') = true) := pz.1
  have HW3 : Hid (W3 = (W2.alloc (.cells heldZ.toArray 44)).setCells W2.heap.size 0 VZ.toArray.toList) := hW3
  have HW2 : Hid (W2 = (w.alloc (.cells VH.toArray 44)).alloc (.cells heldZ.toArray 44) ∧ bh = w.heap.size ∧ br = w.heap.size + 1) := ⟨eW2, ebh, ebr⟩
  simp only [heldZ] at HP HW3 HW2
  obtain ⟨bx, ebx⟩ : ∃ b, b = W2.heap.size := ⟨_, rfl⟩
  have HEB : Hid (bx = W2.heap.size) := ebx
  obtain ⟨lo, elo⟩ : ∃ lo, lo = W3.heap.size := ⟨_, rfl⟩
  have k3 := kk.trans pz.2.2.1 fun _ _ h => h
  have HS : Hid (Ch.SegL W3 la lls ∧ N = lls.length ∧ N ≤ 2147483647 ∧ (∀ (j : Nat) (l : List Int), lls[j]? = some l → l.length ≤ 2147483647) ∧ Tl.SegL W3 va ls ∧ ls.length ≤ 2147483647 ∧ rg.length = 16) := ⟨hs.kept k3, eN, by omega, hlen, hL.kept k3 fun _ _ h => h, hLn, hl⟩
  have HW : Hid (Ch.SegL w la lls) := hs
  have HWL : Hid (Tl.SegL w va ls) := hL
  have HBR : Hid (w.heap.size ≤ br) := by unfold Hid; omega
  have HBX : Hid (w.heap.size ≤ bx ∧ w.heap.size ≤ lo) := by have := pz.2.2.2; unfold Hid; omega
  have HB : Hid (Blk W3 bh VH 44 ∧ Blk W3 br heldZ 44 ∧ Blk W3 bx VZ 44 ∧ bh < lo ∧ br < lo ∧ bx < lo ∧ bh ≠ bx ∧ br ≠ bx ∧ bh ≠ br ∧ lo = W3.heap.size ∧ w.heap.size ≤ lo ∧ Keeps (fun _ => False) w W3 ∧ VH = heldL rg pc (.slice la N lc) (.slice va ls.length vc) ∧ VZ = heldL rg pc (.slice none 0 0) (.slice none 0 0)) := by
    have := pz.2.2.2
    exact ⟨hBh.kept pz.2.2.1 fun h => h, hBr.kept pz.2.2.1 fun h => h, by rw [ebx]; exact pz.2.1, by omega, by omega, by omega, by omega, by omega, by omega, elo, by omega, k3, eVH, eVZ⟩
  clear hs hN hlen hL hLn hl eN eVH eVZ eW2 ebh ebr kk hBh hBr hsz lZ pz hW3 ebx elo k3
  go_enter Tryz.func22, Tryz.ntmps22
  go_upto_region 1 with fail
  rw [← HW2.out.1, ← HW2.out.2.2, ← HW2.out.2.1]
  go_wp2_with (refine wpList_load_mid rfl 40 (.tmp 5) rfl bh 0 rfl (ctx rg pc) _ HRa.out.1 Tryz.underlying40 rfl HRa.out.2 ?_; refine Hid.out ?_)
  unfold Hid
  go_wp2_with (refine wpList_build_to rfl 44 #[(0, .tmp 6)] rfl VZ.toArray (by go_simp; exact HBu.out) ?_; refine Hid.out ?_)
  unfold Hid
  go_wp2_with (refine wpList_store_mid rfl 44 (.tmp 3) (.tmp 7) rfl W2.heap.size 0 VZ.toArray rfl rfl HP.out.1 HP.out.2.1 HP.out.2.2 ?_; refine Hid.out ?_)
  unfold Hid
  rw [← HW3.out, ← HEB.out]
  clear HW2 HRa HBu HP HW3 HEB
  go_wp2
  go_loopw [4] (fun i wr => ∃ (k : Nat) (lv : Value), k ≤ N ∧ i = .int .i64 k ∧ NEXT w W3 lo bx rg pc lls k lv wr) (fun i _ => N - (intOf i).toNat)
  case atStart =>
    refine ⟨0, .slice none 0 0, by omega, rfl, ?_⟩
    obtain ⟨b1, b2, b3, _, _, _, _, _, _, b4, _, b5, _, b6⟩ := HB.out
    exact ⟨b5, Keeps.refl _ _, by omega, by rw [← b6]; exact b3, _, Lt.start _ _ _⟩
  case round =>
    obtain ⟨k, lv, hk, rfl, n1, n2, n3, n4, Bs, n5⟩ := hrel
    have cB : wr.cell? ⟨bh, 17, none⟩ = some (.slice la N lc) := by
      obtain ⟨b1, _, _, b4, _, _, b7, _, _, _, _, _, b8, _⟩ := HB.out
      have := (b1.kept n2 (by intro h; omega)).cell (i := 17) (by rw [b8]; exact (heldL_get rg pc _ _ HS.out.2.2.2.2.2.2).1)
      exact this
    have hNz : (N : Int) ≤ 2147483647 := by have := HS.out.2.2.1; omega
    by_cases hlt : k < N
    · have hkz : (k : Int) < N := by omega
      obtain ⟨l, hl⟩ : ∃ l, lls[k]? = some l := ⟨_, List.getElem?_eq_getElem (by have := HS.out.2.1; omega)⟩
      have hll := HS.out.2.2.2.1 k l hl
      obtain ⟨n, hn⟩ : ∃ n, n = l.length := ⟨_, rfl⟩
      have hnth : Ch.nth lls k = l := by unfold Ch.nth; rw [hl]; rfl
      rcases HW.out.kept n1 with h0 | ⟨g, o, rfl, hc⟩
      · rw [h0] at hl; simp at hl
      obtain ⟨x, c, cu, hsx, _, _⟩ := hc k l hl
      have hg : g < w.heap.size := by
        rcases HW.out with h0 | ⟨g', o', e, hc'⟩
        · rw [h0] at hl; simp at hl
        · obtain ⟨_, _, e2, _⟩ := hc' k l hl
          injection e with e
          injection e with e _
          rw [e]
          exact World.block_lt_of_cell? w ⟨g', o' + k, none⟩ e2
      rw [← hn] at cu
      obtain ⟨a, cv, rfl, -, -⟩ := own_slice n5.row
      have c17 : wr.cell? ⟨bx, 17, none⟩ = some (.slice a k cv) := n4.cell (heldL_get rg pc _ _ HS.out.2.2.2.2.2.2).1
      have HCA : Hid (Calls _ _ _ _ _) := handI_any x n c l wr.drew (hsx.kept ((Keeps.refl (fun _ => False) wr).drew) fun _ _ h => h) hn (by omega)
      have HJ : Hid (k < N) := hlt
      have HST : Hid (∀ (w1 : World) (B : Nat), Keeps (fun _ => False) wr w1 → wr.heap.size ≤ B → Blk w1 B (fI (n + 70) (spareI l)) 3 → ∃ v' W', (∀ ty, (Builtin.append_ #[41, 41] ty #[.slice a k cv, .slice (some ⟨w1.heap.size, 0, none⟩) 1 1]).run Tryz.prog (w1.alloc (.cells #[.slice (some ⟨B, 0, none⟩) n (n + 70)] 99)) = .ok v' W') ∧
          NEXT w W3 lo bx rg pc lls (k + 1) v' (W'.setCell ⟨bx, 17, none⟩ v') ∧
          (W'.cell? ⟨bh, 17, none⟩ = some (.slice (some ⟨g, o, none⟩) N lc) ∧ W'.cell? ⟨g, o + k, none⟩ = some (.slice x n c)) ∧
          ((W'.setCell ⟨bx, 17, none⟩ v').cell? ⟨bh, 17, none⟩ = some (.slice (some ⟨g, o, none⟩) N lc) ∧ (W'.setCell ⟨bx, 17, none⟩ v').cell? ⟨g, o + k, none⟩ = some (.slice x n c)) ∧ (∃ z, W'.cell? ⟨bx, 17, none⟩ = some z) ∧ W'.frozen? ⟨bx, 17, none⟩ = false ∧ ∃ a' c', v' = .slice a' (k + 1) c') := by
        intro w1 B k1 hB0 hB1
        have en : nl lls k = n := by unfold nl; rw [hnth, hn]
        obtain ⟨b1, b2, b3, b4, b5, b6, b7, b8, b9, b10, b11, b12, b13, b14⟩ := HB.out
        have hst := n5.step k1 n3 hB0 (by rw [en, hnth]; exact hB1) (by omega) bx _ n4 b6
        rw [en] at hst
        obtain ⟨v', W', r1, r2, r3, r4, r5, r7, r6⟩ := hst
        have kw : Keeps (fun _ => False) w (W'.setCell ⟨bx, 17, none⟩ v') := n1.trans r4 fun b hb h => by have h' : lo ≤ b ∨ b = bx := h; have := HBX.out; omega
        have kX : Keeps (fun b => b = bx) W' (W'.setCell ⟨bx, 17, none⟩ v') := (Keeps.refl _ _).setCell _ _ fun _ => rfl
        have kW : Keeps (fun b => lo ≤ b ∨ b = bx) wr W' := r6
        refine ⟨v', W', r1, ⟨kw, n2.trans r4 fun b _ h => h, by have := r4.size; omega, by rw [heldL_set rg pc _ _ _ HS.out.2.2.2.2.2.2] at r3; exact r3, _, r2⟩, ?_, ?_, ⟨_, r5.cell (heldL_get rg pc _ _ HS.out.2.2.2.2.2.2).1⟩, r5.frozen 17, r7⟩
        · exact ⟨Ch.cell_kept cB kW (by intro h; have h' : lo ≤ bh ∨ bh = bx := h; omega), Ch.cell_kept cu kW (by intro h; have h' : lo ≤ g ∨ g = bx := h; have := HBX.out; omega)⟩
        · exact ⟨Ch.cell_kept cB r4 (by intro h; have h' : lo ≤ bh ∨ bh = bx := h; omega), Ch.cell_kept cu r4 (by intro h; have h' : lo ≤ g ∨ g = bx := h; have := HBX.out; omega)⟩
      clear hk hlt n1 n2 n3 n4 n5 hl hll hn hnth hc hsx hg
      go_upto_region 5 with fail
      have hSd : (fun w' : World => w'.cell? ⟨bh, 17, none⟩ = some (.slice (some ⟨g, o, none⟩) N lc) ∧ w'.cell? ⟨g, o + k, none⟩ = some (.slice x n c)) wr.drew := ⟨Ch.cell_kept cB ((Keeps.refl (fun _ => False) wr).drew) fun h => h, Ch.cell_kept cu ((Keeps.refl (fun _ => False) wr).drew) fun h => h⟩
      refine wp_region_held_drew (S := (fun w' : World => w'.cell? ⟨bh, 17, none⟩ = some (.slice (some ⟨g, o, none⟩) N lc) ∧ w'.cell? ⟨g, o + k, none⟩ = some (.slice x n c))) (by kernel_rfl) hSd (fun hHeld => ?_)
      simp only [List.size_toArray, List.length_cons, List.length_nil, Nat.reduceAdd, Array.replicate_succ, Array.replicate_zero, List.push_toArray, List.append_toArray, List.nil_append, List.cons_append]
      refine tk 0 (.pointer (some ⟨bx, 17, none⟩)) hHeld ?_
      simp only [Act.put, List.setIfInBounds_toArray, List.set_cons_zero, List.set_cons_succ]
      refine tk 2 (.pointer (some ⟨bh, 17, none⟩)) hHeld ?_
      simp only [Act.put, List.setIfInBounds_toArray, List.set_cons_zero, List.set_cons_succ]
      refine tk 3 (.slice (some ⟨g, o, none⟩) N lc) hHeld ?_
      simp only [Act.put, List.setIfInBounds_toArray, List.set_cons_zero, List.set_cons_succ]
      refine tk 4 (.int .i64 (k : Int)) hHeld ?_
      simp only [Act.put, List.setIfInBounds_toArray, List.set_cons_zero, List.set_cons_succ]
      refine tk 5 (.pointer (some ⟨g, o + k, none⟩)) hHeld ?_
      simp only [Act.put, List.setIfInBounds_toArray, List.set_cons_zero, List.set_cons_succ]
      refine tk 6 (.slice x n c) hHeld ?_
      simp only [Act.put, List.setIfInBounds_toArray, List.set_cons_zero, List.set_cons_succ]
      refine wpAnyH_ready (rs := [1, 7]) (by kernel_rfl) (by simp) ?_
      refine AllReadyH.cons rfl (fun Kq hK => ?_) (AllReadyH.cons rfl (fun Kq hK => ?_) AllReadyH.nil)
      · go_simp
        refine hK.out _ _ hSd (fun hHeld => ?_)
        simp only [Act.put, List.setIfInBounds_toArray, List.set_cons_zero, List.set_cons_succ]
        refine wpAnyH_ready (rs := [7]) (by kernel_rfl) (by simp) ?_
        refine AllReadyH.cons rfl (fun Kq hK => ?_) AllReadyH.nil
        go_simp
        refine (HCA.out).mono ?_
        rintro e w1 ⟨rfl, hB1, hK1'⟩
        have hK1 : Keeps (fun _ => False) wr w1 := ((Keeps.refl _ wr).drew).trans hK1' fun _ _ h => h
        have hS1 : (fun w' : World => w'.cell? ⟨bh, 17, none⟩ = some (.slice (some ⟨g, o, none⟩) N lc) ∧ w'.cell? ⟨g, o + k, none⟩ = some (.slice x n c)) w1 := ⟨Ch.cell_kept cB hK1 fun h => h, Ch.cell_kept cu hK1 fun h => h⟩
        have c17 := Ch.cell_kept c17 hK1 fun h => h
        obtain ⟨v', W', hr, hN, hS2, hS3, ⟨z17, cX⟩, fX, ⟨a2, c2, rfl⟩⟩ := HST.out w1 _ hK1 (by have : wr.drew.heap.size = wr.heap.size := rfl; omega) hB1
        have HAP : Hid (∀ ty, _) := hr
        obtain ⟨X3, hX3⟩ : ∃ X3, X3 = W'.setCell ⟨bx, 17, none⟩ (.slice a2 (k + 1) c2) := ⟨_, rfl⟩
        have HN : Hid (NEXT w W3 lo bx rg pc lls (k + 1) (.slice a2 (k + 1) c2) X3) := by rw [hX3]; exact hN
        have hS4 : (fun w' : World => w'.cell? ⟨bh, 17, none⟩ = some (.slice (some ⟨g, o, none⟩) N lc) ∧ w'.cell? ⟨g, o + k, none⟩ = some (.slice x n c)) (w1.alloc (.cells #[.slice (some ⟨wr.heap.size, 0, none⟩) n (n + 70)] 99)) := ⟨Ch.cell_kept hS1.1 ((Keeps.refl (fun _ => False) w1).alloc _) fun h => h, Ch.cell_kept hS1.2 ((Keeps.refl (fun _ => False) w1).alloc _) fun h => h⟩
        clear hr hN hK1' hB1
        refine hK.out _ _ hS1 (fun hHeld => ?_)
        simp only [Act.put, List.setIfInBounds_toArray, List.set_cons_zero, List.set_cons_succ]
        refine wpAnyH_ready (rs := [8]) (by kernel_rfl) (by simp) ?_
        refine AllReadyH.cons rfl (fun Kq hK => ?_) AllReadyH.nil
        go_simp
        refine hK.out _ _ hS4 (fun hHeld => ?_)
        simp only [Act.put, List.setIfInBounds_toArray, List.set_cons_zero, List.set_cons_succ]
        refine wpAnyH_ready (rs := [9]) (by kernel_rfl) (by simp) ?_
        refine AllReadyH.cons rfl (fun Kq hK => ?_) AllReadyH.nil
        rw [if_pos (by rfl)]
        refine wp_append_run' (.tmp 16) (.tmp 23) 41 41 rfl (.slice a k cv) (.slice (some ⟨w1.heap.size, 0, none⟩) 1 1) (.slice a2 (k + 1) c2) W' rfl rfl HAP.out ?_
        refine hK.out _ _ hS2 (fun hHeld => ?_)
        simp only [Act.put, List.setIfInBounds_toArray, List.set_cons_zero, List.set_cons_succ]
        refine tk 10 (.pointer (some ⟨bx, 17, none⟩)) hHeld ?_
        simp only [Act.put, List.setIfInBounds_toArray, List.set_cons_zero, List.set_cons_succ]
        refine wpAnyH_ready (rs := [11]) (by kernel_rfl) (by simp) ?_
        refine AllReadyH.cons rfl (fun Kq hK => ?_) AllReadyH.nil
        go_simp
        refine hK.out _ _ hS3 (fun hHeld => ?_)
        simp only [Act.put, List.setIfInBounds_toArray, List.set_cons_zero, List.set_cons_succ]
        refine wpAnyH_done (by kernel_rfl) ?_ _
        rw [← hX3]
        clear hHeld hK hX3 cX fX HAP hS1 hS2 hS3 hS4 hSd
        go_wp2
        go_roundw
        case rel => exact ⟨k + 1, _, by have := HJ.out; omega, by go_num, HN.out⟩
        case measure => have := HJ.out; simp [intOf]; omega
      · go_simp
        refine (HCA.out).mono ?_
        rintro e w1 ⟨rfl, hB1, hK1'⟩
        have hK1 : Keeps (fun _ => False) wr w1 := ((Keeps.refl _ wr).drew).trans hK1' fun _ _ h => h
        have hS1 : (fun w' : World => w'.cell? ⟨bh, 17, none⟩ = some (.slice (some ⟨g, o, none⟩) N lc) ∧ w'.cell? ⟨g, o + k, none⟩ = some (.slice x n c)) w1 := ⟨Ch.cell_kept cB hK1 fun h => h, Ch.cell_kept cu hK1 fun h => h⟩
        have c17 := Ch.cell_kept c17 hK1 fun h => h
        obtain ⟨v', W', hr, hN, hS2, hS3, ⟨z17, cX⟩, fX, ⟨a2, c2, rfl⟩⟩ := HST.out w1 _ hK1 (by have : wr.drew.heap.size = wr.heap.size := rfl; omega) hB1
        have HAP : Hid (∀ ty, _) := hr
        obtain ⟨X3, hX3⟩ : ∃ X3, X3 = W'.setCell ⟨bx, 17, none⟩ (.slice a2 (k + 1) c2) := ⟨_, rfl⟩
        have HN : Hid (NEXT w W3 lo bx rg pc lls (k + 1) (.slice a2 (k + 1) c2) X3) := by rw [hX3]; exact hN
        have hS4 : (fun w' : World => w'.cell? ⟨bh, 17, none⟩ = some (.slice (some ⟨g, o, none⟩) N lc) ∧ w'.cell? ⟨g, o + k, none⟩ = some (.slice x n c)) (w1.alloc (.cells #[.slice (some ⟨wr.heap.size, 0, none⟩) n (n + 70)] 99)) := ⟨Ch.cell_kept hS1.1 ((Keeps.refl (fun _ => False) w1).alloc _) fun h => h, Ch.cell_kept hS1.2 ((Keeps.refl (fun _ => False) w1).alloc _) fun h => h⟩
        clear hr hN hK1' hB1
        refine hK.out _ _ hS1 (fun hHeld => ?_)
        simp only [Act.put, List.setIfInBounds_toArray, List.set_cons_zero, List.set_cons_succ]
        refine wpAnyH_ready (rs := [1, 8]) (by kernel_rfl) (by simp) ?_
        refine AllReadyH.cons rfl (fun Kq hK => ?_) (AllReadyH.cons rfl (fun Kq hK => ?_) AllReadyH.nil)
        · go_simp
          refine hK.out _ _ hS1 (fun hHeld => ?_)
          simp only [Act.put, List.setIfInBounds_toArray, List.set_cons_zero, List.set_cons_succ]
          refine wpAnyH_ready (rs := [8]) (by kernel_rfl) (by simp) ?_
          refine AllReadyH.cons rfl (fun Kq hK => ?_) AllReadyH.nil
          go_simp
          refine hK.out _ _ hS4 (fun hHeld => ?_)
          simp only [Act.put, List.setIfInBounds_toArray, List.set_cons_zero, List.set_cons_succ]
          refine wpAnyH_ready (rs := [9]) (by kernel_rfl) (by simp) ?_
          refine AllReadyH.cons rfl (fun Kq hK => ?_) AllReadyH.nil
          rw [if_pos (by rfl)]
          refine wp_append_run' (.tmp 16) (.tmp 23) 41 41 rfl (.slice a k cv) (.slice (some ⟨w1.heap.size, 0, none⟩) 1 1) (.slice a2 (k + 1) c2) W' rfl rfl HAP.out ?_
          refine hK.out _ _ hS2 (fun hHeld => ?_)
          simp only [Act.put, List.setIfInBounds_toArray, List.set_cons_zero, List.set_cons_succ]
          refine tk 10 (.pointer (some ⟨bx, 17, none⟩)) hHeld ?_
          simp only [Act.put, List.setIfInBounds_toArray, List.set_cons_zero, List.set_cons_succ]
          refine wpAnyH_ready (rs := [11]) (by kernel_rfl) (by simp) ?_
          refine AllReadyH.cons rfl (fun Kq hK => ?_) AllReadyH.nil
          go_simp
          refine hK.out _ _ hS3 (fun hHeld => ?_)
          simp only [Act.put, List.setIfInBounds_toArray, List.set_cons_zero, List.set_cons_succ]
          refine wpAnyH_done (by kernel_rfl) ?_ _
          rw [← hX3]
          clear hHeld hK hX3 cX fX HAP hS1 hS2 hS3 hS4 hSd
          go_wp2
          go_roundw
          case rel => exact ⟨k + 1, _, by have := HJ.out; omega, by go_num, HN.out⟩
          case measure => have := HJ.out; simp [intOf]; omega
        · go_simp
          refine hK.out _ _ hS4 (fun hHeld => ?_)
          simp only [Act.put, List.setIfInBounds_toArray, List.set_cons_zero, List.set_cons_succ]
          have c18 := Ch.cell_kept c17 ((Keeps.refl (fun _ => False) w1).alloc (.cells #[.slice (some ⟨wr.heap.size, 0, none⟩) n (n + 70)] 99)) fun h => h
          refine wpAnyH_ready (rs := [1]) (by kernel_rfl) (by simp) ?_
          refine AllReadyH.cons rfl (fun Kq hK => ?_) AllReadyH.nil
          go_simp
          refine hK.out _ _ hS4 (fun hHeld => ?_)
          simp only [Act.put, List.setIfInBounds_toArray, List.set_cons_zero, List.set_cons_succ]
          refine wpAnyH_ready (rs := [9]) (by kernel_rfl) (by simp) ?_
          refine AllReadyH.cons rfl (fun Kq hK => ?_) AllReadyH.nil
          rw [if_pos (by rfl)]
          refine wp_append_run' (.tmp 16) (.tmp 23) 41 41 rfl (.slice a k cv) (.slice (some ⟨w1.heap.size, 0, none⟩) 1 1) (.slice a2 (k + 1) c2) W' rfl rfl HAP.out ?_
          refine hK.out _ _ hS2 (fun hHeld => ?_)
          simp only [Act.put, List.setIfInBounds_toArray, List.set_cons_zero, List.set_cons_succ]
          refine tk 10 (.pointer (some ⟨bx, 17, none⟩)) hHeld ?_
          simp only [Act.put, List.setIfInBounds_toArray, List.set_cons_zero, List.set_cons_succ]
          refine wpAnyH_ready (rs := [11]) (by kernel_rfl) (by simp) ?_
          refine AllReadyH.cons rfl (fun Kq hK => ?_) AllReadyH.nil
          go_simp
          refine hK.out _ _ hS3 (fun hHeld => ?_)
          simp only [Act.put, List.setIfInBounds_toArray, List.set_cons_zero, List.set_cons_succ]
          refine wpAnyH_done (by kernel_rfl) ?_ _
          rw [← hX3]
          clear hHeld hK hX3 cX fX HAP hS1 hS2 hS3 hS4 hSd
          go_wp2
          go_roundw
          case rel => exact ⟨k + 1, _, by have := HJ.out; omega, by go_num, HN.out⟩
          case measure => have := HJ.out; simp [intOf]; omega
    · have hkz : ¬ (k : Int) < N := by omega
      have hkb : (k : Int) ≤ 2147483647 := by omega
      obtain rfl : k = N := by omega
      obtain ⟨a, cv, rfl, -, -⟩ := own_slice n5.row
      obtain ⟨b1, b2, b3, b4, b5, b6, b7, b8, b9, b10, b11, b12, b13, b14⟩ := HB.out
      have c18h : wr.cell? ⟨bh, 18, none⟩ = some (.slice va ls.length vc) := by
        have := (b1.kept n2 (by intro h; have h' : lo ≤ bh ∨ bh = bx := h; omega)).cell (i := 18) (by rw [b13]; exact (heldL_get rg pc _ _ HS.out.2.2.2.2.2.2).2)
        exact this
      have c18x := n4.cell (heldL_get rg pc (.slice a k cv) (.slice none 0 0) HS.out.2.2.2.2.2.2).2
      obtain ⟨vv, W5, hr, r1, r2, r3⟩ := append_leaves va ls vc (HWL.out.kept n1 fun _ _ h => h) HS.out.2.2.2.2.2.1
      obtain ⟨av, cvv, rfl, -, -⟩ := own_slice r1
      have hX5 := n4.kept r3 fun h => h
      have hX6 := hX5.setCell 18 (.slice av ls.length cvv)
      rw [heldL_set2 rg pc _ _ _ HS.out.2.2.2.2.2.2] at hX6
      have kX : Keeps (fun b => b = bx) W5 (W5.setCell ⟨bx, 18, none⟩ (.slice av ls.length cvv)) := (Keeps.refl _ _).setCell _ _ fun _ => rfl
      have k6 : Keeps (fun b => lo ≤ b ∨ b = bx) wr (W5.setCell ⟨bx, 18, none⟩ (.slice av ls.length cvv)) := (r3.mono fun _ _ h => h.elim).trans kX fun b _ hb => .inr hb
      obtain ⟨W6, hW6⟩ : ∃ W6, W6 = W5.setCell ⟨bx, 18, none⟩ (.slice av ls.length cvv) := ⟨_, rfl⟩
      rw [← hW6] at hX6 kX k6
      obtain ⟨V6, eV6⟩ : ∃ V, V = heldL rg pc (.slice a k cv) (.slice av ls.length cvv) := ⟨_, rfl⟩
      have l6 : V6.length = 19 := by rw [eV6]; exact heldL_len HS.out.2.2.2.2.2.2 _ _ _
      rw [← eV6] at hX6
      have hBr6 := (b2.kept n2 (by intro h; have h' : lo ≤ br ∨ br = bx := h; omega)).kept k6 (by intro h; have h' : lo ≤ br ∨ br = bx := h; omega)
      have hks := keeps_setCells br V6.toArray.toList 0 W6
      have hB7 := blk_setCells (b := br) (t := 44) V6 heldZ [] [] W6 hBr6 (by rw [l6]; rfl)
      have HTh : Hid (W6.there br 0 V6.toArray.size ∧ (Tryz.prog.info? 44).map (·.size) = some V6.toArray.size ∧ V6.toArray.all (·.oneCell') = true) := by
        refine ⟨fun j hj => ⟨?_, hBr6.frozen _⟩, by rw [List.size_toArray, l6]; kernel_rfl, all_oneCell_toArray (by rw [eV6]; exact heldL_oneg _ _ _ _ _ _ _ _)⟩
        have hj' : j < 19 := by simpa [l6] using hj
        rw [hBr6.cell (List.getElem?_eq_getElem (by simpa [heldZ] using hj'))]
        rfl
      have HRx : Hid (W6.rangeAt bx 0 V6 ∧ (Tryz.prog.info? 44).map (·.size) = some V6.length) := ⟨hX6.range, info44 l6⟩
      obtain ⟨W7, hW7⟩ : ∃ W7, W7 = W6.setCells br 0 V6.toArray.toList := ⟨_, rfl⟩
      have HW7 : Hid (W7 = W6.setCells br 0 V6.toArray.toList) := hW7
      have HAP : Hid (∀ ty, _) := hr
      have cX := hX5.cell (heldL_get rg pc (.slice a k cv) (.slice none 0 0) HS.out.2.2.2.2.2.2).2
      have fX := hX5.frozen 18
      have HW6 : Hid (W6 = W5.setCell ⟨bx, 18, none⟩ (.slice av ls.length cvv)) := hW6
      have HE : Hid (∃ lo lv vv Bs, .agg V6.toArray = Value.agg (heldL rg pc lv vv).toArray ∧ w.heap.size ≤ lo ∧ Lt W7 lo lls k lv Bs ∧ W7.ownsRow 0 64 3 vv ls.length (Tl.flatL ls) ∧ (∀ g, vv.ownBlock = some g → lo ≤ g) ∧ Keeps (fun _ => False) w W7 ∧ lo ≤ W7.heap.size) := by
        have kr : Keeps (fun b => b = br) W6 W7 := by rw [hW7]; exact hks
        have o6 := owns_kept r1 kX fun b hb h => by have := r2 b hb; have h' : b = bx := h; omega
        have o7 := owns_kept o6 kr fun b hb h => by have := r2 b hb; have h' : b = br := h; omega
        have t5 := n5.kept r3 fun _ _ _ h => h
        have t6 := t5.kept kX fun b hb _ h => by have h' : b = bx := h; omega
        have t7 := t6.kept kr fun b hb _ h => by have h' : b = br := h; omega
        refine ⟨lo, _, _, Bs, by rw [eV6], b11, t7, o7, fun g hg => by have := r2 g hg; omega, ?_, by have := k6.size; have := kr.size; omega⟩
        exact (n1.trans k6 fun b hb h => by have h' : lo ≤ b ∨ b = bx := h; have := HBX.out; omega).trans kr fun b hb h => by have h' : b = br := h; have := HBR.out; omega
      have HB7 : Hid (Blk W7 br V6 44 ∧ (Tryz.prog.info? 44).map (·.size) = some V6.length) := ⟨by rw [hW7]; simpa using hB7, info44 l6⟩
      clear n1 n2 n3 n4 n5 hk hlt b1 b2 b3 b4 b5 b6 b7 b8 b9 b10 b11 b12 b13 b14 r1 r2 r3 hX5 hX6 kX k6 eV6 l6 hBr6 hks hB7 hW7 hW6 hr
      go_wp2_with (at_builtin; go_must (refine wpList_append_run rfl (.tmp 27) (.tmp 29) 42 42 rfl (.slice none 0 0) (.slice va ls.length vc) (.slice av ls.length cvv) W5 rfl rfl HAP.out ?_; refine Hid.out ?_))
      unfold Hid
      clear HAP c18h c18x
      go_upto_region 7 with fail
      rw [← HW6.out]
      go_wp2_with (refine wpList_load_mid rfl 44 (.tmp 3) rfl bx 0 rfl V6 _ HRx.out.1 Tryz.underlying44 rfl HRx.out.2 ?_; refine Hid.out ?_)
      unfold Hid
      go_wp2_with (refine wpList_store_mid rfl 44 (.tmp 2) (.tmp 32) rfl br 0 V6.toArray rfl rfl HTh.out.1 HTh.out.2.1 HTh.out.2.2 ?_; refine Hid.out ?_)
      unfold Hid
      rw [← HW7.out]
      go_wp2
      refine bodyPost_ret (results_cell_one (p := 2) (ty := 44) rfl _ _ ⟨br, 0, none⟩ _ rfl (load_blk HB7.out.1 44 _ Tryz.underlying44 rfl HB7.out.2)) rfl ?_
      obtain ⟨lo', lv', vv', Bs', e1, e2⟩ := HE.out
      exact ⟨lo', lv', vv', Bs', by rw [e1], e2⟩

end Go.Proofs.YtipejahmjdamjaaGreatDoor
