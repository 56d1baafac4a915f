import Derived.Test.YtohojpacijnnaaaDoorREncAll
namespace Go.Proofs.YtohojpacijnnaaaDoor.Is
open Go.RowKit
set_option linter.unusedVariables false

/-- While the document's Decode is under way. -/
structure RdT (w w' : World) (g0 g1 : Nat) (l : List Value) : Prop where
  r : Blk w' g0 [.int .i64 0, .int .i64 0, .int .i64 0, .int .i64 0, .int .i64 0] 40
  i : Blk w' g1 l 40
  d01 : g0 ≠ g1
  bel : Below w.heap.size w w'
  lo0 : w.heap.size ≤ g0
  lo1 : w.heap.size ≤ g1
theorem RdT.store {w w' : World} {g0 g1 : Nat} {l : List Value} (h : RdT w w' g0 g1 l) (i : Nat) (v : Value) : RdT w (w'.setCell ⟨g1, i, none⟩ v) g0 g1 (l.set i v) :=
  ⟨h.r.setCell_ne h.d01 v, h.i.setCell i v, h.d01, below_setCell h.bel _ h.lo1 v, h.lo0, h.lo1⟩
theorem RdT.on {w w' w2 : World} {g0 g1 : Nat} {l : List Value} (h : RdT w w' g0 g1 l) (hb : Below w'.heap.size w' w2) : RdT w w2 g0 g1 l :=
  ⟨h.r.below hb, h.i.below hb, h.d01, below_all h.bel hb, h.lo0, h.lo1⟩
theorem RdT.begin (w : World) (ds : List Value) : RdT w ((w.alloc (.cells [.int .i64 0, .int .i64 0, .int .i64 0, .int .i64 0, .int .i64 0].toArray 40)).alloc (.cells ds.toArray 40)) w.heap.size (w.heap.size + 1) ds :=
  ⟨heap_alloc2_old w _ _, heap_alloc2_new w _ _, by omega, below_all (below_new w _) (below_new _ _), Nat.le_refl _, by omega⟩

set_option maxHeartbeats 2000000 in
theorem rdec_none (x : Nat) (hx : x < 4294967296) (w : World) (k : Nat) (hk : formOf ((x : Int) / 67108864) = (k : Int)) (hk8 : k < 8) (HA : hasA k = false) (HB : hasB k = false) (HC : hasC k = false) (HI : hasI k = false) (er wd : Int) (he : ∀ w, Calls Tryd.prog 28 #[insV ((x : Int) / 67108864) 0 0 0 0] w fun e w' => e = .returned (.tuple #[.int .u32 wd, .int .i64 er]) ∧ Below w.heap.size w w') (hq : er = 0 ∨ er = 21) :
    Calls Tryd.prog 15 #[.int .u32 x] w fun e w' => e = .returned (if er = 0 ∧ wd = (x : Int) then .tuple #[insV ((x : Int) / 67108864) 0 0 0 0, .int .i64 0] else .tuple #[zeroV, .int .i64 20]) ∧ Below w.heap.size w w' := by
  unfold zeroV
  unfold insV at *
  have HE : Hid (∀ w, Calls _ _ _ w _) := he
  have CF := fun w => rform_any ((x : Int) / 67108864) w
  rw [hk] at CF
  have CH := fun w => has_at k hk8 w
  rw [HA, HB, HC, HI] at CH
  have HCF : Hid (∀ w, Calls _ _ _ w _) := CF
  have HCH : Hid (∀ w, Calls _ _ _ w _) := CH
  have HQ : Hid (_ ∨ _) := hq
  clear he CF CH hk HA HB HC HI hk8 hq
  go_enter Tryd.func15, Tryd.ntmps15
  go_wp2_with fail
  refine (HCF.out _).mono ?_
  rintro e w1 ⟨rfl, hb⟩
  have hr := (RdT.begin w [_, _, _, _, _]).on hb
  obtain ⟨g1, hg1⟩ : ∃ g1, g1 = w.heap.size + 1 := ⟨_, rfl⟩
  obtain ⟨g0, hg0⟩ : ∃ g0, g0 = w.heap.size := ⟨_, rfl⟩
  rw [← hg1, ← hg0] at hr
  rw [← hg1, ← hg0]
  have HR : Hid (RdT _ _ _ _ _) := hr
  have c0 := hr.i.cell 0 rfl
  have c1 := hr.i.cell 1 rfl
  have c2 := hr.i.cell 2 rfl
  have c3 := hr.i.cell 3 rfl
  have c4 := hr.i.cell 4 rfl
  have f1 := hr.i.frozen 1
  have f2 := hr.i.frozen 2
  have f3 := hr.i.frozen 3
  have f4 := hr.i.frozen 4
  clear hb hr hg1 hg0
  go_wp2_with fail
  refine (HCH.out _).mono ?_
  rintro e w2 ⟨rfl, hw⟩
  obtain rfl := hw.symm
  clear hw
  go_wp2_with (refine wpList_load_row rfl 40 (.tmp 5) rfl g1 rfl 40 #[.int .i64 ((x : Int) / 67108864), .int .i64 0, .int .i64 0, .int .i64 0, .int .i64 0] (0, 0) _ (Hid.out ?_) Tryd.underlying40 rfl (by kernel_rfl) (Hid.out ?_))
  · unfold Hid
    exact HR.out.i
  unfold Hid
  have HS := HR.out
  try simp only [List.set_cons_zero, List.set_cons_succ] at HS
  clear HR
  go_wp2_with fail
  refine (HE.out _).mono ?_
  rintro e w3 ⟨rfl, hb⟩
  have HU : Hid (RdT _ _ _ _ _) := HS.on hb
  clear hb HS HE HCF HCH c0 c1 c2 c3 c4 f1 f2 f3 f4
  have hcase : (er = 0 ∧ wd = (x : Int)) ∨ (er = 0 ∧ wd ≠ (x : Int)) ∨ er = 21 := by
    rcases HQ.out with h | h
    · by_cases hd : wd = (x : Int)
      · exact .inl ⟨h, hd⟩
      · exact .inr (.inl ⟨h, hd⟩)
    · exact .inr (.inr h)
  clear HQ
  rcases hcase with ⟨rfl, rfl⟩ | ⟨rfl, hne⟩ | rfl
  · go_wp2_with (refine wpList_load_row rfl 40 (.tmp 5) rfl g1 rfl 40 _ (0, 0) _ HU.out.i Tryd.underlying40 rfl (by kernel_rfl) ?_; refine Hid.out ?_)
    unfold Hid
    refine wpList_store_row rfl rfl 40 (.tmp 2) (.tmp 65) rfl g0 rfl _ rfl _ 40 HU.out.r (by kernel_rfl) rfl rfl w.heap.size HU.out.lo0 ?_
    intro W3 hB hK hs
    have HF : Hid (Below w.heap.size w W3) := HU.out.bel.trans hK
    have HB : Hid (Blk _ _ _ _) := hB
    clear hB hK hs HU
    go_wp2
    refine bodyPost_ret (results_cell_two rfl _ _ g0 40 _ (0, 0) _ rfl HB.out Tryd.underlying40 rfl (by kernel_rfl)) rfl ?_
    first | exact ⟨rfl, HF.out⟩ | exact ⟨by rw [if_pos ⟨rfl, rfl⟩]; rfl, HF.out⟩
  · have hne' : (wd == (x : Int)) = false := by simpa using hne
    go_wp2_with (refine wpList_store_row rfl rfl 40 (.tmp 2) (.tmp 64) rfl g0 rfl _ rfl _ 40 HU.out.r (by kernel_rfl) rfl rfl w.heap.size HU.out.lo0 ?_; intro W3 hB hK hs; refine Hid.out ?_)
    unfold Hid
    have HF : Hid (Below w.heap.size w W3) := HU.out.bel.trans hK
    have HB : Hid (Blk _ _ _ _) := hB
    clear hB hK hs HU
    go_wp2
    refine bodyPost_ret (results_cell_two rfl _ _ g0 40 _ (0, 0) _ rfl HB.out Tryd.underlying40 rfl (by kernel_rfl)) rfl ?_
    first | exact ⟨rfl, HF.out⟩ | exact ⟨by rw [if_neg (fun h => hne h.2)]; rfl, HF.out⟩
  · go_wp2_with (refine wpList_store_row rfl rfl 40 (.tmp 2) (.tmp 64) rfl g0 rfl _ rfl _ 40 HU.out.r (by kernel_rfl) rfl rfl w.heap.size HU.out.lo0 ?_; intro W3 hB hK hs; refine Hid.out ?_)
    unfold Hid
    have HF : Hid (Below w.heap.size w W3) := HU.out.bel.trans hK
    have HB : Hid (Blk _ _ _ _) := hB
    clear hB hK hs HU
    go_wp2
    refine bodyPost_ret (results_cell_two rfl _ _ g0 40 _ (0, 0) _ rfl HB.out Tryd.underlying40 rfl (by kernel_rfl)) rfl ?_
    first | exact ⟨rfl, HF.out⟩ | exact ⟨by rw [if_neg (fun h => absurd h.1 (by decide))]; rfl, HF.out⟩

set_option maxHeartbeats 2000000 in
theorem rdec_a (x : Nat) (hx : x < 4294967296) (w : World) (k : Nat) (hk : formOf ((x : Int) / 67108864) = (k : Int)) (hk8 : k < 8) (HA : hasA k = true) (HB : hasB k = false) (HC : hasC k = false) (HI : hasI k = false) (er wd : Int) (he : ∀ w, Calls Tryd.prog 28 #[insV ((x : Int) / 67108864) ((x : Int) / 4194304 % 16) 0 0 0] w fun e w' => e = .returned (.tuple #[.int .u32 wd, .int .i64 er]) ∧ Below w.heap.size w w') (hq : er = 0 ∨ er = 21) :
    Calls Tryd.prog 15 #[.int .u32 x] w fun e w' => e = .returned (if er = 0 ∧ wd = (x : Int) then .tuple #[insV ((x : Int) / 67108864) ((x : Int) / 4194304 % 16) 0 0 0, .int .i64 0] else .tuple #[zeroV, .int .i64 20]) ∧ Below w.heap.size w w' := by
  unfold zeroV
  unfold insV at *
  have HE : Hid (∀ w, Calls _ _ _ w _) := he
  have CF := fun w => rform_any ((x : Int) / 67108864) w
  rw [hk] at CF
  have CH := fun w => has_at k hk8 w
  rw [HA, HB, HC, HI] at CH
  have HCF : Hid (∀ w, Calls _ _ _ w _) := CF
  have HCH : Hid (∀ w, Calls _ _ _ w _) := CH
  have HQ : Hid (_ ∨ _) := hq
  clear he CF CH hk HA HB HC HI hk8 hq
  go_enter Tryd.func15, Tryd.ntmps15
  go_wp2_with fail
  refine (HCF.out _).mono ?_
  rintro e w1 ⟨rfl, hb⟩
  have hr := (RdT.begin w [_, _, _, _, _]).on hb
  obtain ⟨g1, hg1⟩ : ∃ g1, g1 = w.heap.size + 1 := ⟨_, rfl⟩
  obtain ⟨g0, hg0⟩ : ∃ g0, g0 = w.heap.size := ⟨_, rfl⟩
  rw [← hg1, ← hg0] at hr
  rw [← hg1, ← hg0]
  have HR : Hid (RdT _ _ _ _ _) := hr
  have c0 := hr.i.cell 0 rfl
  have c1 := hr.i.cell 1 rfl
  have c2 := hr.i.cell 2 rfl
  have c3 := hr.i.cell 3 rfl
  have c4 := hr.i.cell 4 rfl
  have f1 := hr.i.frozen 1
  have f2 := hr.i.frozen 2
  have f3 := hr.i.frozen 3
  have f4 := hr.i.frozen 4
  clear hb hr hg1 hg0
  go_wp2_with fail
  refine (HCH.out _).mono ?_
  rintro e w2 ⟨rfl, hw⟩
  obtain rfl := hw.symm
  clear hw
  go_wp2_with (refine wpList_load_row rfl 40 (.tmp 5) rfl g1 rfl 40 #[.int .i64 ((x : Int) / 67108864), .int .i64 ((x : Int) / 4194304 % 16), .int .i64 0, .int .i64 0, .int .i64 0] (0, 0) _ (Hid.out ?_) Tryd.underlying40 rfl (by kernel_rfl) (Hid.out ?_))
  · unfold Hid
    exact (HR.out.store 1 (.int .i64 ((x : Int) / 4194304 % 16))).i
  unfold Hid
  have HS := (HR.out.store 1 (.int .i64 ((x : Int) / 4194304 % 16)))
  try simp only [List.set_cons_zero, List.set_cons_succ] at HS
  clear HR
  go_wp2_with fail
  refine (HE.out _).mono ?_
  rintro e w3 ⟨rfl, hb⟩
  have HU : Hid (RdT _ _ _ _ _) := HS.on hb
  clear hb HS HE HCF HCH c0 c1 c2 c3 c4 f1 f2 f3 f4
  have hcase : (er = 0 ∧ wd = (x : Int)) ∨ (er = 0 ∧ wd ≠ (x : Int)) ∨ er = 21 := by
    rcases HQ.out with h | h
    · by_cases hd : wd = (x : Int)
      · exact .inl ⟨h, hd⟩
      · exact .inr (.inl ⟨h, hd⟩)
    · exact .inr (.inr h)
  clear HQ
  rcases hcase with ⟨rfl, rfl⟩ | ⟨rfl, hne⟩ | rfl
  · go_wp2_with (refine wpList_load_row rfl 40 (.tmp 5) rfl g1 rfl 40 _ (0, 0) _ HU.out.i Tryd.underlying40 rfl (by kernel_rfl) ?_; refine Hid.out ?_)
    unfold Hid
    refine wpList_store_row rfl rfl 40 (.tmp 2) (.tmp 65) rfl g0 rfl _ rfl _ 40 HU.out.r (by kernel_rfl) rfl rfl w.heap.size HU.out.lo0 ?_
    intro W3 hB hK hs
    have HF : Hid (Below w.heap.size w W3) := HU.out.bel.trans hK
    have HB : Hid (Blk _ _ _ _) := hB
    clear hB hK hs HU
    go_wp2
    refine bodyPost_ret (results_cell_two rfl _ _ g0 40 _ (0, 0) _ rfl HB.out Tryd.underlying40 rfl (by kernel_rfl)) rfl ?_
    first | exact ⟨rfl, HF.out⟩ | exact ⟨by rw [if_pos ⟨rfl, rfl⟩]; rfl, HF.out⟩
  · have hne' : (wd == (x : Int)) = false := by simpa using hne
    go_wp2_with (refine wpList_store_row rfl rfl 40 (.tmp 2) (.tmp 64) rfl g0 rfl _ rfl _ 40 HU.out.r (by kernel_rfl) rfl rfl w.heap.size HU.out.lo0 ?_; intro W3 hB hK hs; refine Hid.out ?_)
    unfold Hid
    have HF : Hid (Below w.heap.size w W3) := HU.out.bel.trans hK
    have HB : Hid (Blk _ _ _ _) := hB
    clear hB hK hs HU
    go_wp2
    refine bodyPost_ret (results_cell_two rfl _ _ g0 40 _ (0, 0) _ rfl HB.out Tryd.underlying40 rfl (by kernel_rfl)) rfl ?_
    first | exact ⟨rfl, HF.out⟩ | exact ⟨by rw [if_neg (fun h => hne h.2)]; rfl, HF.out⟩
  · go_wp2_with (refine wpList_store_row rfl rfl 40 (.tmp 2) (.tmp 64) rfl g0 rfl _ rfl _ 40 HU.out.r (by kernel_rfl) rfl rfl w.heap.size HU.out.lo0 ?_; intro W3 hB hK hs; refine Hid.out ?_)
    unfold Hid
    have HF : Hid (Below w.heap.size w W3) := HU.out.bel.trans hK
    have HB : Hid (Blk _ _ _ _) := hB
    clear hB hK hs HU
    go_wp2
    refine bodyPost_ret (results_cell_two rfl _ _ g0 40 _ (0, 0) _ rfl HB.out Tryd.underlying40 rfl (by kernel_rfl)) rfl ?_
    first | exact ⟨rfl, HF.out⟩ | exact ⟨by rw [if_neg (fun h => absurd h.1 (by decide))]; rfl, HF.out⟩

set_option maxHeartbeats 2000000 in
theorem rdec_ab (x : Nat) (hx : x < 4294967296) (w : World) (k : Nat) (hk : formOf ((x : Int) / 67108864) = (k : Int)) (hk8 : k < 8) (HA : hasA k = true) (HB : hasB k = true) (HC : hasC k = false) (HI : hasI k = false) (er wd : Int) (he : ∀ w, Calls Tryd.prog 28 #[insV ((x : Int) / 67108864) ((x : Int) / 4194304 % 16) ((x : Int) / 262144 % 16) 0 0] w fun e w' => e = .returned (.tuple #[.int .u32 wd, .int .i64 er]) ∧ Below w.heap.size w w') (hq : er = 0 ∨ er = 21) :
    Calls Tryd.prog 15 #[.int .u32 x] w fun e w' => e = .returned (if er = 0 ∧ wd = (x : Int) then .tuple #[insV ((x : Int) / 67108864) ((x : Int) / 4194304 % 16) ((x : Int) / 262144 % 16) 0 0, .int .i64 0] else .tuple #[zeroV, .int .i64 20]) ∧ Below w.heap.size w w' := by
  unfold zeroV
  unfold insV at *
  have HE : Hid (∀ w, Calls _ _ _ w _) := he
  have CF := fun w => rform_any ((x : Int) / 67108864) w
  rw [hk] at CF
  have CH := fun w => has_at k hk8 w
  rw [HA, HB, HC, HI] at CH
  have HCF : Hid (∀ w, Calls _ _ _ w _) := CF
  have HCH : Hid (∀ w, Calls _ _ _ w _) := CH
  have HQ : Hid (_ ∨ _) := hq
  clear he CF CH hk HA HB HC HI hk8 hq
  go_enter Tryd.func15, Tryd.ntmps15
  go_wp2_with fail
  refine (HCF.out _).mono ?_
  rintro e w1 ⟨rfl, hb⟩
  have hr := (RdT.begin w [_, _, _, _, _]).on hb
  obtain ⟨g1, hg1⟩ : ∃ g1, g1 = w.heap.size + 1 := ⟨_, rfl⟩
  obtain ⟨g0, hg0⟩ : ∃ g0, g0 = w.heap.size := ⟨_, rfl⟩
  rw [← hg1, ← hg0] at hr
  rw [← hg1, ← hg0]
  have HR : Hid (RdT _ _ _ _ _) := hr
  have c0 := hr.i.cell 0 rfl
  have c1 := hr.i.cell 1 rfl
  have c2 := hr.i.cell 2 rfl
  have c3 := hr.i.cell 3 rfl
  have c4 := hr.i.cell 4 rfl
  have f1 := hr.i.frozen 1
  have f2 := hr.i.frozen 2
  have f3 := hr.i.frozen 3
  have f4 := hr.i.frozen 4
  clear hb hr hg1 hg0
  go_wp2_with fail
  refine (HCH.out _).mono ?_
  rintro e w2 ⟨rfl, hw⟩
  obtain rfl := hw.symm
  clear hw
  go_wp2_with (refine wpList_load_row rfl 40 (.tmp 5) rfl g1 rfl 40 #[.int .i64 ((x : Int) / 67108864), .int .i64 ((x : Int) / 4194304 % 16), .int .i64 ((x : Int) / 262144 % 16), .int .i64 0, .int .i64 0] (0, 0) _ (Hid.out ?_) Tryd.underlying40 rfl (by kernel_rfl) (Hid.out ?_))
  · unfold Hid
    exact ((HR.out.store 1 (.int .i64 ((x : Int) / 4194304 % 16))).store 2 (.int .i64 ((x : Int) / 262144 % 16))).i
  unfold Hid
  have HS := ((HR.out.store 1 (.int .i64 ((x : Int) / 4194304 % 16))).store 2 (.int .i64 ((x : Int) / 262144 % 16)))
  try simp only [List.set_cons_zero, List.set_cons_succ] at HS
  clear HR
  go_wp2_with fail
  refine (HE.out _).mono ?_
  rintro e w3 ⟨rfl, hb⟩
  have HU : Hid (RdT _ _ _ _ _) := HS.on hb
  clear hb HS HE HCF HCH c0 c1 c2 c3 c4 f1 f2 f3 f4
  have hcase : (er = 0 ∧ wd = (x : Int)) ∨ (er = 0 ∧ wd ≠ (x : Int)) ∨ er = 21 := by
    rcases HQ.out with h | h
    · by_cases hd : wd = (x : Int)
      · exact .inl ⟨h, hd⟩
      · exact .inr (.inl ⟨h, hd⟩)
    · exact .inr (.inr h)
  clear HQ
  rcases hcase with ⟨rfl, rfl⟩ | ⟨rfl, hne⟩ | rfl
  · go_wp2_with (refine wpList_load_row rfl 40 (.tmp 5) rfl g1 rfl 40 _ (0, 0) _ HU.out.i Tryd.underlying40 rfl (by kernel_rfl) ?_; refine Hid.out ?_)
    unfold Hid
    refine wpList_store_row rfl rfl 40 (.tmp 2) (.tmp 65) rfl g0 rfl _ rfl _ 40 HU.out.r (by kernel_rfl) rfl rfl w.heap.size HU.out.lo0 ?_
    intro W3 hB hK hs
    have HF : Hid (Below w.heap.size w W3) := HU.out.bel.trans hK
    have HB : Hid (Blk _ _ _ _) := hB
    clear hB hK hs HU
    go_wp2
    refine bodyPost_ret (results_cell_two rfl _ _ g0 40 _ (0, 0) _ rfl HB.out Tryd.underlying40 rfl (by kernel_rfl)) rfl ?_
    first | exact ⟨rfl, HF.out⟩ | exact ⟨by rw [if_pos ⟨rfl, rfl⟩]; rfl, HF.out⟩
  · have hne' : (wd == (x : Int)) = false := by simpa using hne
    go_wp2_with (refine wpList_store_row rfl rfl 40 (.tmp 2) (.tmp 64) rfl g0 rfl _ rfl _ 40 HU.out.r (by kernel_rfl) rfl rfl w.heap.size HU.out.lo0 ?_; intro W3 hB hK hs; refine Hid.out ?_)
    unfold Hid
    have HF : Hid (Below w.heap.size w W3) := HU.out.bel.trans hK
    have HB : Hid (Blk _ _ _ _) := hB
    clear hB hK hs HU
    go_wp2
    refine bodyPost_ret (results_cell_two rfl _ _ g0 40 _ (0, 0) _ rfl HB.out Tryd.underlying40 rfl (by kernel_rfl)) rfl ?_
    first | exact ⟨rfl, HF.out⟩ | exact ⟨by rw [if_neg (fun h => hne h.2)]; rfl, HF.out⟩
  · go_wp2_with (refine wpList_store_row rfl rfl 40 (.tmp 2) (.tmp 64) rfl g0 rfl _ rfl _ 40 HU.out.r (by kernel_rfl) rfl rfl w.heap.size HU.out.lo0 ?_; intro W3 hB hK hs; refine Hid.out ?_)
    unfold Hid
    have HF : Hid (Below w.heap.size w W3) := HU.out.bel.trans hK
    have HB : Hid (Blk _ _ _ _) := hB
    clear hB hK hs HU
    go_wp2
    refine bodyPost_ret (results_cell_two rfl _ _ g0 40 _ (0, 0) _ rfl HB.out Tryd.underlying40 rfl (by kernel_rfl)) rfl ?_
    first | exact ⟨rfl, HF.out⟩ | exact ⟨by rw [if_neg (fun h => absurd h.1 (by decide))]; rfl, HF.out⟩

set_option maxHeartbeats 2000000 in
theorem rdec_abc (x : Nat) (hx : x < 4294967296) (w : World) (k : Nat) (hk : formOf ((x : Int) / 67108864) = (k : Int)) (hk8 : k < 8) (HA : hasA k = true) (HB : hasB k = true) (HC : hasC k = true) (HI : hasI k = false) (er wd : Int) (he : ∀ w, Calls Tryd.prog 28 #[insV ((x : Int) / 67108864) ((x : Int) / 4194304 % 16) ((x : Int) / 262144 % 16) ((x : Int) / 16384 % 16) 0] w fun e w' => e = .returned (.tuple #[.int .u32 wd, .int .i64 er]) ∧ Below w.heap.size w w') (hq : er = 0 ∨ er = 21) :
    Calls Tryd.prog 15 #[.int .u32 x] w fun e w' => e = .returned (if er = 0 ∧ wd = (x : Int) then .tuple #[insV ((x : Int) / 67108864) ((x : Int) / 4194304 % 16) ((x : Int) / 262144 % 16) ((x : Int) / 16384 % 16) 0, .int .i64 0] else .tuple #[zeroV, .int .i64 20]) ∧ Below w.heap.size w w' := by
  unfold zeroV
  unfold insV at *
  have HE : Hid (∀ w, Calls _ _ _ w _) := he
  have CF := fun w => rform_any ((x : Int) / 67108864) w
  rw [hk] at CF
  have CH := fun w => has_at k hk8 w
  rw [HA, HB, HC, HI] at CH
  have HCF : Hid (∀ w, Calls _ _ _ w _) := CF
  have HCH : Hid (∀ w, Calls _ _ _ w _) := CH
  have HQ : Hid (_ ∨ _) := hq
  clear he CF CH hk HA HB HC HI hk8 hq
  go_enter Tryd.func15, Tryd.ntmps15
  go_wp2_with fail
  refine (HCF.out _).mono ?_
  rintro e w1 ⟨rfl, hb⟩
  have hr := (RdT.begin w [_, _, _, _, _]).on hb
  obtain ⟨g1, hg1⟩ : ∃ g1, g1 = w.heap.size + 1 := ⟨_, rfl⟩
  obtain ⟨g0, hg0⟩ : ∃ g0, g0 = w.heap.size := ⟨_, rfl⟩
  rw [← hg1, ← hg0] at hr
  rw [← hg1, ← hg0]
  have HR : Hid (RdT _ _ _ _ _) := hr
  have c0 := hr.i.cell 0 rfl
  have c1 := hr.i.cell 1 rfl
  have c2 := hr.i.cell 2 rfl
  have c3 := hr.i.cell 3 rfl
  have c4 := hr.i.cell 4 rfl
  have f1 := hr.i.frozen 1
  have f2 := hr.i.frozen 2
  have f3 := hr.i.frozen 3
  have f4 := hr.i.frozen 4
  clear hb hr hg1 hg0
  go_wp2_with fail
  refine (HCH.out _).mono ?_
  rintro e w2 ⟨rfl, hw⟩
  obtain rfl := hw.symm
  clear hw
  go_wp2_with (refine wpList_load_row rfl 40 (.tmp 5) rfl g1 rfl 40 #[.int .i64 ((x : Int) / 67108864), .int .i64 ((x : Int) / 4194304 % 16), .int .i64 ((x : Int) / 262144 % 16), .int .i64 ((x : Int) / 16384 % 16), .int .i64 0] (0, 0) _ (Hid.out ?_) Tryd.underlying40 rfl (by kernel_rfl) (Hid.out ?_))
  · unfold Hid
    exact (((HR.out.store 1 (.int .i64 ((x : Int) / 4194304 % 16))).store 2 (.int .i64 ((x : Int) / 262144 % 16))).store 3 (.int .i64 ((x : Int) / 16384 % 16))).i
  unfold Hid
  have HS := (((HR.out.store 1 (.int .i64 ((x : Int) / 4194304 % 16))).store 2 (.int .i64 ((x : Int) / 262144 % 16))).store 3 (.int .i64 ((x : Int) / 16384 % 16)))
  try simp only [List.set_cons_zero, List.set_cons_succ] at HS
  clear HR
  go_wp2_with fail
  refine (HE.out _).mono ?_
  rintro e w3 ⟨rfl, hb⟩
  have HU : Hid (RdT _ _ _ _ _) := HS.on hb
  clear hb HS HE HCF HCH c0 c1 c2 c3 c4 f1 f2 f3 f4
  have hcase : (er = 0 ∧ wd = (x : Int)) ∨ (er = 0 ∧ wd ≠ (x : Int)) ∨ er = 21 := by
    rcases HQ.out with h | h
    · by_cases hd : wd = (x : Int)
      · exact .inl ⟨h, hd⟩
      · exact .inr (.inl ⟨h, hd⟩)
    · exact .inr (.inr h)
  clear HQ
  rcases hcase with ⟨rfl, rfl⟩ | ⟨rfl, hne⟩ | rfl
  · go_wp2_with (refine wpList_load_row rfl 40 (.tmp 5) rfl g1 rfl 40 _ (0, 0) _ HU.out.i Tryd.underlying40 rfl (by kernel_rfl) ?_; refine Hid.out ?_)
    unfold Hid
    refine wpList_store_row rfl rfl 40 (.tmp 2) (.tmp 65) rfl g0 rfl _ rfl _ 40 HU.out.r (by kernel_rfl) rfl rfl w.heap.size HU.out.lo0 ?_
    intro W3 hB hK hs
    have HF : Hid (Below w.heap.size w W3) := HU.out.bel.trans hK
    have HB : Hid (Blk _ _ _ _) := hB
    clear hB hK hs HU
    go_wp2
    refine bodyPost_ret (results_cell_two rfl _ _ g0 40 _ (0, 0) _ rfl HB.out Tryd.underlying40 rfl (by kernel_rfl)) rfl ?_
    first | exact ⟨rfl, HF.out⟩ | exact ⟨by rw [if_pos ⟨rfl, rfl⟩]; rfl, HF.out⟩
  · have hne' : (wd == (x : Int)) = false := by simpa using hne
    go_wp2_with (refine wpList_store_row rfl rfl 40 (.tmp 2) (.tmp 64) rfl g0 rfl _ rfl _ 40 HU.out.r (by kernel_rfl) rfl rfl w.heap.size HU.out.lo0 ?_; intro W3 hB hK hs; refine Hid.out ?_)
    unfold Hid
    have HF : Hid (Below w.heap.size w W3) := HU.out.bel.trans hK
    have HB : Hid (Blk _ _ _ _) := hB
    clear hB hK hs HU
    go_wp2
    refine bodyPost_ret (results_cell_two rfl _ _ g0 40 _ (0, 0) _ rfl HB.out Tryd.underlying40 rfl (by kernel_rfl)) rfl ?_
    first | exact ⟨rfl, HF.out⟩ | exact ⟨by rw [if_neg (fun h => hne h.2)]; rfl, HF.out⟩
  · go_wp2_with (refine wpList_store_row rfl rfl 40 (.tmp 2) (.tmp 64) rfl g0 rfl _ rfl _ 40 HU.out.r (by kernel_rfl) rfl rfl w.heap.size HU.out.lo0 ?_; intro W3 hB hK hs; refine Hid.out ?_)
    unfold Hid
    have HF : Hid (Below w.heap.size w W3) := HU.out.bel.trans hK
    have HB : Hid (Blk _ _ _ _) := hB
    clear hB hK hs HU
    go_wp2
    refine bodyPost_ret (results_cell_two rfl _ _ g0 40 _ (0, 0) _ rfl HB.out Tryd.underlying40 rfl (by kernel_rfl)) rfl ?_
    first | exact ⟨rfl, HF.out⟩ | exact ⟨by rw [if_neg (fun h => absurd h.1 (by decide))]; rfl, HF.out⟩

set_option maxHeartbeats 2000000 in
theorem rdec_aip (x : Nat) (hx : x < 4294967296) (w : World) (k : Nat) (hk : formOf ((x : Int) / 67108864) = (k : Int)) (hk8 : k < 8) (HA : hasA k = true) (HB : hasB k = false) (HC : hasC k = false) (HI : hasI k = true) (hs : (x : Int) % 262144 ≤ 131071) (er wd : Int) (he : ∀ w, Calls Tryd.prog 28 #[insV ((x : Int) / 67108864) ((x : Int) / 4194304 % 16) 0 0 ((x : Int) % 262144)] w fun e w' => e = .returned (.tuple #[.int .u32 wd, .int .i64 er]) ∧ Below w.heap.size w w') (hq : er = 0 ∨ er = 21) :
    Calls Tryd.prog 15 #[.int .u32 x] w fun e w' => e = .returned (if er = 0 ∧ wd = (x : Int) then .tuple #[insV ((x : Int) / 67108864) ((x : Int) / 4194304 % 16) 0 0 ((x : Int) % 262144), .int .i64 0] else .tuple #[zeroV, .int .i64 20]) ∧ Below w.heap.size w w' := by
  unfold zeroV
  unfold insV at *
  have HE : Hid (∀ w, Calls _ _ _ w _) := he
  have CF := fun w => rform_any ((x : Int) / 67108864) w
  rw [hk] at CF
  have CH := fun w => has_at k hk8 w
  rw [HA, HB, HC, HI] at CH
  have HCF : Hid (∀ w, Calls _ _ _ w _) := CF
  have HCH : Hid (∀ w, Calls _ _ _ w _) := CH
  have HQ : Hid (_ ∨ _) := hq
  clear he CF CH hk HA HB HC HI hk8 hq
  go_enter Tryd.func15, Tryd.ntmps15
  go_wp2_with fail
  refine (HCF.out _).mono ?_
  rintro e w1 ⟨rfl, hb⟩
  have hr := (RdT.begin w [_, _, _, _, _]).on hb
  obtain ⟨g1, hg1⟩ : ∃ g1, g1 = w.heap.size + 1 := ⟨_, rfl⟩
  obtain ⟨g0, hg0⟩ : ∃ g0, g0 = w.heap.size := ⟨_, rfl⟩
  rw [← hg1, ← hg0] at hr
  rw [← hg1, ← hg0]
  have HR : Hid (RdT _ _ _ _ _) := hr
  have c0 := hr.i.cell 0 rfl
  have c1 := hr.i.cell 1 rfl
  have c2 := hr.i.cell 2 rfl
  have c3 := hr.i.cell 3 rfl
  have c4 := hr.i.cell 4 rfl
  have f1 := hr.i.frozen 1
  have f2 := hr.i.frozen 2
  have f3 := hr.i.frozen 3
  have f4 := hr.i.frozen 4
  clear hb hr hg1 hg0
  go_wp2_with fail
  refine (HCH.out _).mono ?_
  rintro e w2 ⟨rfl, hw⟩
  obtain rfl := hw.symm
  clear hw
  go_wp2_with (refine wpList_load_row rfl 40 (.tmp 5) rfl g1 rfl 40 #[.int .i64 ((x : Int) / 67108864), .int .i64 ((x : Int) / 4194304 % 16), .int .i64 0, .int .i64 0, .int .i64 ((x : Int) % 262144)] (0, 0) _ (Hid.out ?_) Tryd.underlying40 rfl (by kernel_rfl) (Hid.out ?_))
  · unfold Hid
    exact ((HR.out.store 1 (.int .i64 ((x : Int) / 4194304 % 16))).store 4 (.int .i64 ((x : Int) % 262144))).i
  unfold Hid
  have HS := ((HR.out.store 1 (.int .i64 ((x : Int) / 4194304 % 16))).store 4 (.int .i64 ((x : Int) % 262144)))
  try simp only [List.set_cons_zero, List.set_cons_succ] at HS
  clear HR
  go_wp2_with fail
  refine (HE.out _).mono ?_
  rintro e w3 ⟨rfl, hb⟩
  have HU : Hid (RdT _ _ _ _ _) := HS.on hb
  clear hb HS HE HCF HCH c0 c1 c2 c3 c4 f1 f2 f3 f4
  have hcase : (er = 0 ∧ wd = (x : Int)) ∨ (er = 0 ∧ wd ≠ (x : Int)) ∨ er = 21 := by
    rcases HQ.out with h | h
    · by_cases hd : wd = (x : Int)
      · exact .inl ⟨h, hd⟩
      · exact .inr (.inl ⟨h, hd⟩)
    · exact .inr (.inr h)
  clear HQ
  rcases hcase with ⟨rfl, rfl⟩ | ⟨rfl, hne⟩ | rfl
  · go_wp2_with (refine wpList_load_row rfl 40 (.tmp 5) rfl g1 rfl 40 _ (0, 0) _ HU.out.i Tryd.underlying40 rfl (by kernel_rfl) ?_; refine Hid.out ?_)
    unfold Hid
    refine wpList_store_row rfl rfl 40 (.tmp 2) (.tmp 65) rfl g0 rfl _ rfl _ 40 HU.out.r (by kernel_rfl) rfl rfl w.heap.size HU.out.lo0 ?_
    intro W3 hB hK hs
    have HF : Hid (Below w.heap.size w W3) := HU.out.bel.trans hK
    have HB : Hid (Blk _ _ _ _) := hB
    clear hB hK hs HU
    go_wp2
    refine bodyPost_ret (results_cell_two rfl _ _ g0 40 _ (0, 0) _ rfl HB.out Tryd.underlying40 rfl (by kernel_rfl)) rfl ?_
    first | exact ⟨rfl, HF.out⟩ | exact ⟨by rw [if_pos ⟨rfl, rfl⟩]; rfl, HF.out⟩
  · have hne' : (wd == (x : Int)) = false := by simpa using hne
    go_wp2_with (refine wpList_store_row rfl rfl 40 (.tmp 2) (.tmp 64) rfl g0 rfl _ rfl _ 40 HU.out.r (by kernel_rfl) rfl rfl w.heap.size HU.out.lo0 ?_; intro W3 hB hK hs; refine Hid.out ?_)
    unfold Hid
    have HF : Hid (Below w.heap.size w W3) := HU.out.bel.trans hK
    have HB : Hid (Blk _ _ _ _) := hB
    clear hB hK hs HU
    go_wp2
    refine bodyPost_ret (results_cell_two rfl _ _ g0 40 _ (0, 0) _ rfl HB.out Tryd.underlying40 rfl (by kernel_rfl)) rfl ?_
    first | exact ⟨rfl, HF.out⟩ | exact ⟨by rw [if_neg (fun h => hne h.2)]; rfl, HF.out⟩
  · go_wp2_with (refine wpList_store_row rfl rfl 40 (.tmp 2) (.tmp 64) rfl g0 rfl _ rfl _ 40 HU.out.r (by kernel_rfl) rfl rfl w.heap.size HU.out.lo0 ?_; intro W3 hB hK hs; refine Hid.out ?_)
    unfold Hid
    have HF : Hid (Below w.heap.size w W3) := HU.out.bel.trans hK
    have HB : Hid (Blk _ _ _ _) := hB
    clear hB hK hs HU
    go_wp2
    refine bodyPost_ret (results_cell_two rfl _ _ g0 40 _ (0, 0) _ rfl HB.out Tryd.underlying40 rfl (by kernel_rfl)) rfl ?_
    first | exact ⟨rfl, HF.out⟩ | exact ⟨by rw [if_neg (fun h => absurd h.1 (by decide))]; rfl, HF.out⟩

set_option maxHeartbeats 2000000 in
theorem rdec_ain (x : Nat) (hx : x < 4294967296) (w : World) (k : Nat) (hk : formOf ((x : Int) / 67108864) = (k : Int)) (hk8 : k < 8) (HA : hasA k = true) (HB : hasB k = false) (HC : hasC k = false) (HI : hasI k = true) (hs : 131071 < (x : Int) % 262144) (er wd : Int) (he : ∀ w, Calls Tryd.prog 28 #[insV ((x : Int) / 67108864) ((x : Int) / 4194304 % 16) 0 0 ((x : Int) % 262144 - 262144)] w fun e w' => e = .returned (.tuple #[.int .u32 wd, .int .i64 er]) ∧ Below w.heap.size w w') (hq : er = 0 ∨ er = 21) :
    Calls Tryd.prog 15 #[.int .u32 x] w fun e w' => e = .returned (if er = 0 ∧ wd = (x : Int) then .tuple #[insV ((x : Int) / 67108864) ((x : Int) / 4194304 % 16) 0 0 ((x : Int) % 262144 - 262144), .int .i64 0] else .tuple #[zeroV, .int .i64 20]) ∧ Below w.heap.size w w' := by
  unfold zeroV
  unfold insV at *
  have HE : Hid (∀ w, Calls _ _ _ w _) := he
  have CF := fun w => rform_any ((x : Int) / 67108864) w
  rw [hk] at CF
  have CH := fun w => has_at k hk8 w
  rw [HA, HB, HC, HI] at CH
  have HCF : Hid (∀ w, Calls _ _ _ w _) := CF
  have HCH : Hid (∀ w, Calls _ _ _ w _) := CH
  have HQ : Hid (_ ∨ _) := hq
  clear he CF CH hk HA HB HC HI hk8 hq
  go_enter Tryd.func15, Tryd.ntmps15
  go_wp2_with fail
  refine (HCF.out _).mono ?_
  rintro e w1 ⟨rfl, hb⟩
  have hr := (RdT.begin w [_, _, _, _, _]).on hb
  obtain ⟨g1, hg1⟩ : ∃ g1, g1 = w.heap.size + 1 := ⟨_, rfl⟩
  obtain ⟨g0, hg0⟩ : ∃ g0, g0 = w.heap.size := ⟨_, rfl⟩
  rw [← hg1, ← hg0] at hr
  rw [← hg1, ← hg0]
  have HR : Hid (RdT _ _ _ _ _) := hr
  have c0 := hr.i.cell 0 rfl
  have c1 := hr.i.cell 1 rfl
  have c2 := hr.i.cell 2 rfl
  have c3 := hr.i.cell 3 rfl
  have c4 := hr.i.cell 4 rfl
  have f1 := hr.i.frozen 1
  have f2 := hr.i.frozen 2
  have f3 := hr.i.frozen 3
  have f4 := hr.i.frozen 4
  clear hb hr hg1 hg0
  go_wp2_with fail
  refine (HCH.out _).mono ?_
  rintro e w2 ⟨rfl, hw⟩
  obtain rfl := hw.symm
  clear hw
  go_wp2_with (refine wpList_load_row rfl 40 (.tmp 5) rfl g1 rfl 40 #[.int .i64 ((x : Int) / 67108864), .int .i64 ((x : Int) / 4194304 % 16), .int .i64 0, .int .i64 0, .int .i64 ((x : Int) % 262144 - 262144)] (0, 0) _ (Hid.out ?_) Tryd.underlying40 rfl (by kernel_rfl) (Hid.out ?_))
  · unfold Hid
    exact (((HR.out.store 1 (.int .i64 ((x : Int) / 4194304 % 16))).store 4 (.int .i64 ((x : Int) % 262144))).store 4 (.int .i64 ((x : Int) % 262144 - 262144))).i
  unfold Hid
  have HS := (((HR.out.store 1 (.int .i64 ((x : Int) / 4194304 % 16))).store 4 (.int .i64 ((x : Int) % 262144))).store 4 (.int .i64 ((x : Int) % 262144 - 262144)))
  try simp only [List.set_cons_zero, List.set_cons_succ] at HS
  clear HR
  go_wp2_with fail
  refine (HE.out _).mono ?_
  rintro e w3 ⟨rfl, hb⟩
  have HU : Hid (RdT _ _ _ _ _) := HS.on hb
  clear hb HS HE HCF HCH c0 c1 c2 c3 c4 f1 f2 f3 f4
  have hcase : (er = 0 ∧ wd = (x : Int)) ∨ (er = 0 ∧ wd ≠ (x : Int)) ∨ er = 21 := by
    rcases HQ.out with h | h
    · by_cases hd : wd = (x : Int)
      · exact .inl ⟨h, hd⟩
      · exact .inr (.inl ⟨h, hd⟩)
    · exact .inr (.inr h)
  clear HQ
  rcases hcase with ⟨rfl, rfl⟩ | ⟨rfl, hne⟩ | rfl
  · go_wp2_with (refine wpList_load_row rfl 40 (.tmp 5) rfl g1 rfl 40 _ (0, 0) _ HU.out.i Tryd.underlying40 rfl (by kernel_rfl) ?_; refine Hid.out ?_)
    unfold Hid
    refine wpList_store_row rfl rfl 40 (.tmp 2) (.tmp 65) rfl g0 rfl _ rfl _ 40 HU.out.r (by kernel_rfl) rfl rfl w.heap.size HU.out.lo0 ?_
    intro W3 hB hK hs
    have HF : Hid (Below w.heap.size w W3) := HU.out.bel.trans hK
    have HB : Hid (Blk _ _ _ _) := hB
    clear hB hK hs HU
    go_wp2
    refine bodyPost_ret (results_cell_two rfl _ _ g0 40 _ (0, 0) _ rfl HB.out Tryd.underlying40 rfl (by kernel_rfl)) rfl ?_
    first | exact ⟨rfl, HF.out⟩ | exact ⟨by rw [if_pos ⟨rfl, rfl⟩]; rfl, HF.out⟩
  · have hne' : (wd == (x : Int)) = false := by simpa using hne
    go_wp2_with (refine wpList_store_row rfl rfl 40 (.tmp 2) (.tmp 64) rfl g0 rfl _ rfl _ 40 HU.out.r (by kernel_rfl) rfl rfl w.heap.size HU.out.lo0 ?_; intro W3 hB hK hs; refine Hid.out ?_)
    unfold Hid
    have HF : Hid (Below w.heap.size w W3) := HU.out.bel.trans hK
    have HB : Hid (Blk _ _ _ _) := hB
    clear hB hK hs HU
    go_wp2
    refine bodyPost_ret (results_cell_two rfl _ _ g0 40 _ (0, 0) _ rfl HB.out Tryd.underlying40 rfl (by kernel_rfl)) rfl ?_
    first | exact ⟨rfl, HF.out⟩ | exact ⟨by rw [if_neg (fun h => hne h.2)]; rfl, HF.out⟩
  · go_wp2_with (refine wpList_store_row rfl rfl 40 (.tmp 2) (.tmp 64) rfl g0 rfl _ rfl _ 40 HU.out.r (by kernel_rfl) rfl rfl w.heap.size HU.out.lo0 ?_; intro W3 hB hK hs; refine Hid.out ?_)
    unfold Hid
    have HF : Hid (Below w.heap.size w W3) := HU.out.bel.trans hK
    have HB : Hid (Blk _ _ _ _) := hB
    clear hB hK hs HU
    go_wp2
    refine bodyPost_ret (results_cell_two rfl _ _ g0 40 _ (0, 0) _ rfl HB.out Tryd.underlying40 rfl (by kernel_rfl)) rfl ?_
    first | exact ⟨rfl, HF.out⟩ | exact ⟨by rw [if_neg (fun h => absurd h.1 (by decide))]; rfl, HF.out⟩

set_option maxHeartbeats 2000000 in
theorem rdec_abip (x : Nat) (hx : x < 4294967296) (w : World) (k : Nat) (hk : formOf ((x : Int) / 67108864) = (k : Int)) (hk8 : k < 8) (HA : hasA k = true) (HB : hasB k = true) (HC : hasC k = false) (HI : hasI k = true) (hs : (x : Int) % 262144 ≤ 131071) (er wd : Int) (he : ∀ w, Calls Tryd.prog 28 #[insV ((x : Int) / 67108864) ((x : Int) / 4194304 % 16) ((x : Int) / 262144 % 16) 0 ((x : Int) % 262144)] w fun e w' => e = .returned (.tuple #[.int .u32 wd, .int .i64 er]) ∧ Below w.heap.size w w') (hq : er = 0 ∨ er = 21) :
    Calls Tryd.prog 15 #[.int .u32 x] w fun e w' => e = .returned (if er = 0 ∧ wd = (x : Int) then .tuple #[insV ((x : Int) / 67108864) ((x : Int) / 4194304 % 16) ((x : Int) / 262144 % 16) 0 ((x : Int) % 262144), .int .i64 0] else .tuple #[zeroV, .int .i64 20]) ∧ Below w.heap.size w w' := by
  unfold zeroV
  unfold insV at *
  have HE : Hid (∀ w, Calls _ _ _ w _) := he
  have CF := fun w => rform_any ((x : Int) / 67108864) w
  rw [hk] at CF
  have CH := fun w => has_at k hk8 w
  rw [HA, HB, HC, HI] at CH
  have HCF : Hid (∀ w, Calls _ _ _ w _) := CF
  have HCH : Hid (∀ w, Calls _ _ _ w _) := CH
  have HQ : Hid (_ ∨ _) := hq
  clear he CF CH hk HA HB HC HI hk8 hq
  go_enter Tryd.func15, Tryd.ntmps15
  go_wp2_with fail
  refine (HCF.out _).mono ?_
  rintro e w1 ⟨rfl, hb⟩
  have hr := (RdT.begin w [_, _, _, _, _]).on hb
  obtain ⟨g1, hg1⟩ : ∃ g1, g1 = w.heap.size + 1 := ⟨_, rfl⟩
  obtain ⟨g0, hg0⟩ : ∃ g0, g0 = w.heap.size := ⟨_, rfl⟩
  rw [← hg1, ← hg0] at hr
  rw [← hg1, ← hg0]
  have HR : Hid (RdT _ _ _ _ _) := hr
  have c0 := hr.i.cell 0 rfl
  have c1 := hr.i.cell 1 rfl
  have c2 := hr.i.cell 2 rfl
  have c3 := hr.i.cell 3 rfl
  have c4 := hr.i.cell 4 rfl
  have f1 := hr.i.frozen 1
  have f2 := hr.i.frozen 2
  have f3 := hr.i.frozen 3
  have f4 := hr.i.frozen 4
  clear hb hr hg1 hg0
  go_wp2_with fail
  refine (HCH.out _).mono ?_
  rintro e w2 ⟨rfl, hw⟩
  obtain rfl := hw.symm
  clear hw
  go_wp2_with (refine wpList_load_row rfl 40 (.tmp 5) rfl g1 rfl 40 #[.int .i64 ((x : Int) / 67108864), .int .i64 ((x : Int) / 4194304 % 16), .int .i64 ((x : Int) / 262144 % 16), .int .i64 0, .int .i64 ((x : Int) % 262144)] (0, 0) _ (Hid.out ?_) Tryd.underlying40 rfl (by kernel_rfl) (Hid.out ?_))
  · unfold Hid
    exact (((HR.out.store 1 (.int .i64 ((x : Int) / 4194304 % 16))).store 2 (.int .i64 ((x : Int) / 262144 % 16))).store 4 (.int .i64 ((x : Int) % 262144))).i
  unfold Hid
  have HS := (((HR.out.store 1 (.int .i64 ((x : Int) / 4194304 % 16))).store 2 (.int .i64 ((x : Int) / 262144 % 16))).store 4 (.int .i64 ((x : Int) % 262144)))
  try simp only [List.set_cons_zero, List.set_cons_succ] at HS
  clear HR
  go_wp2_with fail
  refine (HE.out _).mono ?_
  rintro e w3 ⟨rfl, hb⟩
  have HU : Hid (RdT _ _ _ _ _) := HS.on hb
  clear hb HS HE HCF HCH c0 c1 c2 c3 c4 f1 f2 f3 f4
  have hcase : (er = 0 ∧ wd = (x : Int)) ∨ (er = 0 ∧ wd ≠ (x : Int)) ∨ er = 21 := by
    rcases HQ.out with h | h
    · by_cases hd : wd = (x : Int)
      · exact .inl ⟨h, hd⟩
      · exact .inr (.inl ⟨h, hd⟩)
    · exact .inr (.inr h)
  clear HQ
  rcases hcase with ⟨rfl, rfl⟩ | ⟨rfl, hne⟩ | rfl
  · go_wp2_with (refine wpList_load_row rfl 40 (.tmp 5) rfl g1 rfl 40 _ (0, 0) _ HU.out.i Tryd.underlying40 rfl (by kernel_rfl) ?_; refine Hid.out ?_)
    unfold Hid
    refine wpList_store_row rfl rfl 40 (.tmp 2) (.tmp 65) rfl g0 rfl _ rfl _ 40 HU.out.r (by kernel_rfl) rfl rfl w.heap.size HU.out.lo0 ?_
    intro W3 hB hK hs
    have HF : Hid (Below w.heap.size w W3) := HU.out.bel.trans hK
    have HB : Hid (Blk _ _ _ _) := hB
    clear hB hK hs HU
    go_wp2
    refine bodyPost_ret (results_cell_two rfl _ _ g0 40 _ (0, 0) _ rfl HB.out Tryd.underlying40 rfl (by kernel_rfl)) rfl ?_
    first | exact ⟨rfl, HF.out⟩ | exact ⟨by rw [if_pos ⟨rfl, rfl⟩]; rfl, HF.out⟩
  · have hne' : (wd == (x : Int)) = false := by simpa using hne
    go_wp2_with (refine wpList_store_row rfl rfl 40 (.tmp 2) (.tmp 64) rfl g0 rfl _ rfl _ 40 HU.out.r (by kernel_rfl) rfl rfl w.heap.size HU.out.lo0 ?_; intro W3 hB hK hs; refine Hid.out ?_)
    unfold Hid
    have HF : Hid (Below w.heap.size w W3) := HU.out.bel.trans hK
    have HB : Hid (Blk _ _ _ _) := hB
    clear hB hK hs HU
    go_wp2
    refine bodyPost_ret (results_cell_two rfl _ _ g0 40 _ (0, 0) _ rfl HB.out Tryd.underlying40 rfl (by kernel_rfl)) rfl ?_
    first | exact ⟨rfl, HF.out⟩ | exact ⟨by rw [if_neg (fun h => hne h.2)]; rfl, HF.out⟩
  · go_wp2_with (refine wpList_store_row rfl rfl 40 (.tmp 2) (.tmp 64) rfl g0 rfl _ rfl _ 40 HU.out.r (by kernel_rfl) rfl rfl w.heap.size HU.out.lo0 ?_; intro W3 hB hK hs; refine Hid.out ?_)
    unfold Hid
    have HF : Hid (Below w.heap.size w W3) := HU.out.bel.trans hK
    have HB : Hid (Blk _ _ _ _) := hB
    clear hB hK hs HU
    go_wp2
    refine bodyPost_ret (results_cell_two rfl _ _ g0 40 _ (0, 0) _ rfl HB.out Tryd.underlying40 rfl (by kernel_rfl)) rfl ?_
    first | exact ⟨rfl, HF.out⟩ | exact ⟨by rw [if_neg (fun h => absurd h.1 (by decide))]; rfl, HF.out⟩

set_option maxHeartbeats 2000000 in
theorem rdec_abin (x : Nat) (hx : x < 4294967296) (w : World) (k : Nat) (hk : formOf ((x : Int) / 67108864) = (k : Int)) (hk8 : k < 8) (HA : hasA k = true) (HB : hasB k = true) (HC : hasC k = false) (HI : hasI k = true) (hs : 131071 < (x : Int) % 262144) (er wd : Int) (he : ∀ w, Calls Tryd.prog 28 #[insV ((x : Int) / 67108864) ((x : Int) / 4194304 % 16) ((x : Int) / 262144 % 16) 0 ((x : Int) % 262144 - 262144)] w fun e w' => e = .returned (.tuple #[.int .u32 wd, .int .i64 er]) ∧ Below w.heap.size w w') (hq : er = 0 ∨ er = 21) :
    Calls Tryd.prog 15 #[.int .u32 x] w fun e w' => e = .returned (if er = 0 ∧ wd = (x : Int) then .tuple #[insV ((x : Int) / 67108864) ((x : Int) / 4194304 % 16) ((x : Int) / 262144 % 16) 0 ((x : Int) % 262144 - 262144), .int .i64 0] else .tuple #[zeroV, .int .i64 20]) ∧ Below w.heap.size w w' := by
  unfold zeroV
  unfold insV at *
  have HE : Hid (∀ w, Calls _ _ _ w _) := he
  have CF := fun w => rform_any ((x : Int) / 67108864) w
  rw [hk] at CF
  have CH := fun w => has_at k hk8 w
  rw [HA, HB, HC, HI] at CH
  have HCF : Hid (∀ w, Calls _ _ _ w _) := CF
  have HCH : Hid (∀ w, Calls _ _ _ w _) := CH
  have HQ : Hid (_ ∨ _) := hq
  clear he CF CH hk HA HB HC HI hk8 hq
  go_enter Tryd.func15, Tryd.ntmps15
  go_wp2_with fail
  refine (HCF.out _).mono ?_
  rintro e w1 ⟨rfl, hb⟩
  have hr := (RdT.begin w [_, _, _, _, _]).on hb
  obtain ⟨g1, hg1⟩ : ∃ g1, g1 = w.heap.size + 1 := ⟨_, rfl⟩
  obtain ⟨g0, hg0⟩ : ∃ g0, g0 = w.heap.size := ⟨_, rfl⟩
  rw [← hg1, ← hg0] at hr
  rw [← hg1, ← hg0]
  have HR : Hid (RdT _ _ _ _ _) := hr
  have c0 := hr.i.cell 0 rfl
  have c1 := hr.i.cell 1 rfl
  have c2 := hr.i.cell 2 rfl
  have c3 := hr.i.cell 3 rfl
  have c4 := hr.i.cell 4 rfl
  have f1 := hr.i.frozen 1
  have f2 := hr.i.frozen 2
  have f3 := hr.i.frozen 3
  have f4 := hr.i.frozen 4
  clear hb hr hg1 hg0
  go_wp2_with fail
  refine (HCH.out _).mono ?_
  rintro e w2 ⟨rfl, hw⟩
  obtain rfl := hw.symm
  clear hw
  go_wp2_with (refine wpList_load_row rfl 40 (.tmp 5) rfl g1 rfl 40 #[.int .i64 ((x : Int) / 67108864), .int .i64 ((x : Int) / 4194304 % 16), .int .i64 ((x : Int) / 262144 % 16), .int .i64 0, .int .i64 ((x : Int) % 262144 - 262144)] (0, 0) _ (Hid.out ?_) Tryd.underlying40 rfl (by kernel_rfl) (Hid.out ?_))
  · unfold Hid
    exact ((((HR.out.store 1 (.int .i64 ((x : Int) / 4194304 % 16))).store 2 (.int .i64 ((x : Int) / 262144 % 16))).store 4 (.int .i64 ((x : Int) % 262144))).store 4 (.int .i64 ((x : Int) % 262144 - 262144))).i
  unfold Hid
  have HS := ((((HR.out.store 1 (.int .i64 ((x : Int) / 4194304 % 16))).store 2 (.int .i64 ((x : Int) / 262144 % 16))).store 4 (.int .i64 ((x : Int) % 262144))).store 4 (.int .i64 ((x : Int) % 262144 - 262144)))
  try simp only [List.set_cons_zero, List.set_cons_succ] at HS
  clear HR
  go_wp2_with fail
  refine (HE.out _).mono ?_
  rintro e w3 ⟨rfl, hb⟩
  have HU : Hid (RdT _ _ _ _ _) := HS.on hb
  clear hb HS HE HCF HCH c0 c1 c2 c3 c4 f1 f2 f3 f4
  have hcase : (er = 0 ∧ wd = (x : Int)) ∨ (er = 0 ∧ wd ≠ (x : Int)) ∨ er = 21 := by
    rcases HQ.out with h | h
    · by_cases hd : wd = (x : Int)
      · exact .inl ⟨h, hd⟩
      · exact .inr (.inl ⟨h, hd⟩)
    · exact .inr (.inr h)
  clear HQ
  rcases hcase with ⟨rfl, rfl⟩ | ⟨rfl, hne⟩ | rfl
  · go_wp2_with (refine wpList_load_row rfl 40 (.tmp 5) rfl g1 rfl 40 _ (0, 0) _ HU.out.i Tryd.underlying40 rfl (by kernel_rfl) ?_; refine Hid.out ?_)
    unfold Hid
    refine wpList_store_row rfl rfl 40 (.tmp 2) (.tmp 65) rfl g0 rfl _ rfl _ 40 HU.out.r (by kernel_rfl) rfl rfl w.heap.size HU.out.lo0 ?_
    intro W3 hB hK hs
    have HF : Hid (Below w.heap.size w W3) := HU.out.bel.trans hK
    have HB : Hid (Blk _ _ _ _) := hB
    clear hB hK hs HU
    go_wp2
    refine bodyPost_ret (results_cell_two rfl _ _ g0 40 _ (0, 0) _ rfl HB.out Tryd.underlying40 rfl (by kernel_rfl)) rfl ?_
    first | exact ⟨rfl, HF.out⟩ | exact ⟨by rw [if_pos ⟨rfl, rfl⟩]; rfl, HF.out⟩
  · have hne' : (wd == (x : Int)) = false := by simpa using hne
    go_wp2_with (refine wpList_store_row rfl rfl 40 (.tmp 2) (.tmp 64) rfl g0 rfl _ rfl _ 40 HU.out.r (by kernel_rfl) rfl rfl w.heap.size HU.out.lo0 ?_; intro W3 hB hK hs; refine Hid.out ?_)
    unfold Hid
    have HF : Hid (Below w.heap.size w W3) := HU.out.bel.trans hK
    have HB : Hid (Blk _ _ _ _) := hB
    clear hB hK hs HU
    go_wp2
    refine bodyPost_ret (results_cell_two rfl _ _ g0 40 _ (0, 0) _ rfl HB.out Tryd.underlying40 rfl (by kernel_rfl)) rfl ?_
    first | exact ⟨rfl, HF.out⟩ | exact ⟨by rw [if_neg (fun h => hne h.2)]; rfl, HF.out⟩
  · go_wp2_with (refine wpList_store_row rfl rfl 40 (.tmp 2) (.tmp 64) rfl g0 rfl _ rfl _ 40 HU.out.r (by kernel_rfl) rfl rfl w.heap.size HU.out.lo0 ?_; intro W3 hB hK hs; refine Hid.out ?_)
    unfold Hid
    have HF : Hid (Below w.heap.size w W3) := HU.out.bel.trans hK
    have HB : Hid (Blk _ _ _ _) := hB
    clear hB hK hs HU
    go_wp2
    refine bodyPost_ret (results_cell_two rfl _ _ g0 40 _ (0, 0) _ rfl HB.out Tryd.underlying40 rfl (by kernel_rfl)) rfl ?_
    first | exact ⟨rfl, HF.out⟩ | exact ⟨by rw [if_neg (fun h => absurd h.1 (by decide))]; rfl, HF.out⟩

set_option maxHeartbeats 2000000 in
theorem rdec_ip (x : Nat) (hx : x < 4294967296) (w : World) (k : Nat) (hk : formOf ((x : Int) / 67108864) = (k : Int)) (hk8 : k < 8) (HA : hasA k = false) (HB : hasB k = false) (HC : hasC k = false) (HI : hasI k = true) (hs : (x : Int) % 262144 ≤ 131071) (er wd : Int) (he : ∀ w, Calls Tryd.prog 28 #[insV ((x : Int) / 67108864) 0 0 0 ((x : Int) % 262144)] w fun e w' => e = .returned (.tuple #[.int .u32 wd, .int .i64 er]) ∧ Below w.heap.size w w') (hq : er = 0 ∨ er = 21) :
    Calls Tryd.prog 15 #[.int .u32 x] w fun e w' => e = .returned (if er = 0 ∧ wd = (x : Int) then .tuple #[insV ((x : Int) / 67108864) 0 0 0 ((x : Int) % 262144), .int .i64 0] else .tuple #[zeroV, .int .i64 20]) ∧ Below w.heap.size w w' := by
  unfold zeroV
  unfold insV at *
  have HE : Hid (∀ w, Calls _ _ _ w _) := he
  have CF := fun w => rform_any ((x : Int) / 67108864) w
  rw [hk] at CF
  have CH := fun w => has_at k hk8 w
  rw [HA, HB, HC, HI] at CH
  have HCF : Hid (∀ w, Calls _ _ _ w _) := CF
  have HCH : Hid (∀ w, Calls _ _ _ w _) := CH
  have HQ : Hid (_ ∨ _) := hq
  clear he CF CH hk HA HB HC HI hk8 hq
  go_enter Tryd.func15, Tryd.ntmps15
  go_wp2_with fail
  refine (HCF.out _).mono ?_
  rintro e w1 ⟨rfl, hb⟩
  have hr := (RdT.begin w [_, _, _, _, _]).on hb
  obtain ⟨g1, hg1⟩ : ∃ g1, g1 = w.heap.size + 1 := ⟨_, rfl⟩
  obtain ⟨g0, hg0⟩ : ∃ g0, g0 = w.heap.size := ⟨_, rfl⟩
  rw [← hg1, ← hg0] at hr
  rw [← hg1, ← hg0]
  have HR : Hid (RdT _ _ _ _ _) := hr
  have c0 := hr.i.cell 0 rfl
  have c1 := hr.i.cell 1 rfl
  have c2 := hr.i.cell 2 rfl
  have c3 := hr.i.cell 3 rfl
  have c4 := hr.i.cell 4 rfl
  have f1 := hr.i.frozen 1
  have f2 := hr.i.frozen 2
  have f3 := hr.i.frozen 3
  have f4 := hr.i.frozen 4
  clear hb hr hg1 hg0
  go_wp2_with fail
  refine (HCH.out _).mono ?_
  rintro e w2 ⟨rfl, hw⟩
  obtain rfl := hw.symm
  clear hw
  go_wp2_with (refine wpList_load_row rfl 40 (.tmp 5) rfl g1 rfl 40 #[.int .i64 ((x : Int) / 67108864), .int .i64 0, .int .i64 0, .int .i64 0, .int .i64 ((x : Int) % 262144)] (0, 0) _ (Hid.out ?_) Tryd.underlying40 rfl (by kernel_rfl) (Hid.out ?_))
  · unfold Hid
    exact (HR.out.store 4 (.int .i64 ((x : Int) % 262144))).i
  unfold Hid
  have HS := (HR.out.store 4 (.int .i64 ((x : Int) % 262144)))
  try simp only [List.set_cons_zero, List.set_cons_succ] at HS
  clear HR
  go_wp2_with fail
  refine (HE.out _).mono ?_
  rintro e w3 ⟨rfl, hb⟩
  have HU : Hid (RdT _ _ _ _ _) := HS.on hb
  clear hb HS HE HCF HCH c0 c1 c2 c3 c4 f1 f2 f3 f4
  have hcase : (er = 0 ∧ wd = (x : Int)) ∨ (er = 0 ∧ wd ≠ (x : Int)) ∨ er = 21 := by
    rcases HQ.out with h | h
    · by_cases hd : wd = (x : Int)
      · exact .inl ⟨h, hd⟩
      · exact .inr (.inl ⟨h, hd⟩)
    · exact .inr (.inr h)
  clear HQ
  rcases hcase with ⟨rfl, rfl⟩ | ⟨rfl, hne⟩ | rfl
  · go_wp2_with (refine wpList_load_row rfl 40 (.tmp 5) rfl g1 rfl 40 _ (0, 0) _ HU.out.i Tryd.underlying40 rfl (by kernel_rfl) ?_; refine Hid.out ?_)
    unfold Hid
    refine wpList_store_row rfl rfl 40 (.tmp 2) (.tmp 65) rfl g0 rfl _ rfl _ 40 HU.out.r (by kernel_rfl) rfl rfl w.heap.size HU.out.lo0 ?_
    intro W3 hB hK hs
    have HF : Hid (Below w.heap.size w W3) := HU.out.bel.trans hK
    have HB : Hid (Blk _ _ _ _) := hB
    clear hB hK hs HU
    go_wp2
    refine bodyPost_ret (results_cell_two rfl _ _ g0 40 _ (0, 0) _ rfl HB.out Tryd.underlying40 rfl (by kernel_rfl)) rfl ?_
    first | exact ⟨rfl, HF.out⟩ | exact ⟨by rw [if_pos ⟨rfl, rfl⟩]; rfl, HF.out⟩
  · have hne' : (wd == (x : Int)) = false := by simpa using hne
    go_wp2_with (refine wpList_store_row rfl rfl 40 (.tmp 2) (.tmp 64) rfl g0 rfl _ rfl _ 40 HU.out.r (by kernel_rfl) rfl rfl w.heap.size HU.out.lo0 ?_; intro W3 hB hK hs; refine Hid.out ?_)
    unfold Hid
    have HF : Hid (Below w.heap.size w W3) := HU.out.bel.trans hK
    have HB : Hid (Blk _ _ _ _) := hB
    clear hB hK hs HU
    go_wp2
    refine bodyPost_ret (results_cell_two rfl _ _ g0 40 _ (0, 0) _ rfl HB.out Tryd.underlying40 rfl (by kernel_rfl)) rfl ?_
    first | exact ⟨rfl, HF.out⟩ | exact ⟨by rw [if_neg (fun h => hne h.2)]; rfl, HF.out⟩
  · go_wp2_with (refine wpList_store_row rfl rfl 40 (.tmp 2) (.tmp 64) rfl g0 rfl _ rfl _ 40 HU.out.r (by kernel_rfl) rfl rfl w.heap.size HU.out.lo0 ?_; intro W3 hB hK hs; refine Hid.out ?_)
    unfold Hid
    have HF : Hid (Below w.heap.size w W3) := HU.out.bel.trans hK
    have HB : Hid (Blk _ _ _ _) := hB
    clear hB hK hs HU
    go_wp2
    refine bodyPost_ret (results_cell_two rfl _ _ g0 40 _ (0, 0) _ rfl HB.out Tryd.underlying40 rfl (by kernel_rfl)) rfl ?_
    first | exact ⟨rfl, HF.out⟩ | exact ⟨by rw [if_neg (fun h => absurd h.1 (by decide))]; rfl, HF.out⟩

set_option maxHeartbeats 2000000 in
theorem rdec_in (x : Nat) (hx : x < 4294967296) (w : World) (k : Nat) (hk : formOf ((x : Int) / 67108864) = (k : Int)) (hk8 : k < 8) (HA : hasA k = false) (HB : hasB k = false) (HC : hasC k = false) (HI : hasI k = true) (hs : 131071 < (x : Int) % 262144) (er wd : Int) (he : ∀ w, Calls Tryd.prog 28 #[insV ((x : Int) / 67108864) 0 0 0 ((x : Int) % 262144 - 262144)] w fun e w' => e = .returned (.tuple #[.int .u32 wd, .int .i64 er]) ∧ Below w.heap.size w w') (hq : er = 0 ∨ er = 21) :
    Calls Tryd.prog 15 #[.int .u32 x] w fun e w' => e = .returned (if er = 0 ∧ wd = (x : Int) then .tuple #[insV ((x : Int) / 67108864) 0 0 0 ((x : Int) % 262144 - 262144), .int .i64 0] else .tuple #[zeroV, .int .i64 20]) ∧ Below w.heap.size w w' := by
  unfold zeroV
  unfold insV at *
  have HE : Hid (∀ w, Calls _ _ _ w _) := he
  have CF := fun w => rform_any ((x : Int) / 67108864) w
  rw [hk] at CF
  have CH := fun w => has_at k hk8 w
  rw [HA, HB, HC, HI] at CH
  have HCF : Hid (∀ w, Calls _ _ _ w _) := CF
  have HCH : Hid (∀ w, Calls _ _ _ w _) := CH
  have HQ : Hid (_ ∨ _) := hq
  clear he CF CH hk HA HB HC HI hk8 hq
  go_enter Tryd.func15, Tryd.ntmps15
  go_wp2_with fail
  refine (HCF.out _).mono ?_
  rintro e w1 ⟨rfl, hb⟩
  have hr := (RdT.begin w [_, _, _, _, _]).on hb
  obtain ⟨g1, hg1⟩ : ∃ g1, g1 = w.heap.size + 1 := ⟨_, rfl⟩
  obtain ⟨g0, hg0⟩ : ∃ g0, g0 = w.heap.size := ⟨_, rfl⟩
  rw [← hg1, ← hg0] at hr
  rw [← hg1, ← hg0]
  have HR : Hid (RdT _ _ _ _ _) := hr
  have c0 := hr.i.cell 0 rfl
  have c1 := hr.i.cell 1 rfl
  have c2 := hr.i.cell 2 rfl
  have c3 := hr.i.cell 3 rfl
  have c4 := hr.i.cell 4 rfl
  have f1 := hr.i.frozen 1
  have f2 := hr.i.frozen 2
  have f3 := hr.i.frozen 3
  have f4 := hr.i.frozen 4
  clear hb hr hg1 hg0
  go_wp2_with fail
  refine (HCH.out _).mono ?_
  rintro e w2 ⟨rfl, hw⟩
  obtain rfl := hw.symm
  clear hw
  go_wp2_with (refine wpList_load_row rfl 40 (.tmp 5) rfl g1 rfl 40 #[.int .i64 ((x : Int) / 67108864), .int .i64 0, .int .i64 0, .int .i64 0, .int .i64 ((x : Int) % 262144 - 262144)] (0, 0) _ (Hid.out ?_) Tryd.underlying40 rfl (by kernel_rfl) (Hid.out ?_))
  · unfold Hid
    exact ((HR.out.store 4 (.int .i64 ((x : Int) % 262144))).store 4 (.int .i64 ((x : Int) % 262144 - 262144))).i
  unfold Hid
  have HS := ((HR.out.store 4 (.int .i64 ((x : Int) % 262144))).store 4 (.int .i64 ((x : Int) % 262144 - 262144)))
  try simp only [List.set_cons_zero, List.set_cons_succ] at HS
  clear HR
  go_wp2_with fail
  refine (HE.out _).mono ?_
  rintro e w3 ⟨rfl, hb⟩
  have HU : Hid (RdT _ _ _ _ _) := HS.on hb
  clear hb HS HE HCF HCH c0 c1 c2 c3 c4 f1 f2 f3 f4
  have hcase : (er = 0 ∧ wd = (x : Int)) ∨ (er = 0 ∧ wd ≠ (x : Int)) ∨ er = 21 := by
    rcases HQ.out with h | h
    · by_cases hd : wd = (x : Int)
      · exact .inl ⟨h, hd⟩
      · exact .inr (.inl ⟨h, hd⟩)
    · exact .inr (.inr h)
  clear HQ
  rcases hcase with ⟨rfl, rfl⟩ | ⟨rfl, hne⟩ | rfl
  · go_wp2_with (refine wpList_load_row rfl 40 (.tmp 5) rfl g1 rfl 40 _ (0, 0) _ HU.out.i Tryd.underlying40 rfl (by kernel_rfl) ?_; refine Hid.out ?_)
    unfold Hid
    refine wpList_store_row rfl rfl 40 (.tmp 2) (.tmp 65) rfl g0 rfl _ rfl _ 40 HU.out.r (by kernel_rfl) rfl rfl w.heap.size HU.out.lo0 ?_
    intro W3 hB hK hs
    have HF : Hid (Below w.heap.size w W3) := HU.out.bel.trans hK
    have HB : Hid (Blk _ _ _ _) := hB
    clear hB hK hs HU
    go_wp2
    refine bodyPost_ret (results_cell_two rfl _ _ g0 40 _ (0, 0) _ rfl HB.out Tryd.underlying40 rfl (by kernel_rfl)) rfl ?_
    first | exact ⟨rfl, HF.out⟩ | exact ⟨by rw [if_pos ⟨rfl, rfl⟩]; rfl, HF.out⟩
  · have hne' : (wd == (x : Int)) = false := by simpa using hne
    go_wp2_with (refine wpList_store_row rfl rfl 40 (.tmp 2) (.tmp 64) rfl g0 rfl _ rfl _ 40 HU.out.r (by kernel_rfl) rfl rfl w.heap.size HU.out.lo0 ?_; intro W3 hB hK hs; refine Hid.out ?_)
    unfold Hid
    have HF : Hid (Below w.heap.size w W3) := HU.out.bel.trans hK
    have HB : Hid (Blk _ _ _ _) := hB
    clear hB hK hs HU
    go_wp2
    refine bodyPost_ret (results_cell_two rfl _ _ g0 40 _ (0, 0) _ rfl HB.out Tryd.underlying40 rfl (by kernel_rfl)) rfl ?_
    first | exact ⟨rfl, HF.out⟩ | exact ⟨by rw [if_neg (fun h => hne h.2)]; rfl, HF.out⟩
  · go_wp2_with (refine wpList_store_row rfl rfl 40 (.tmp 2) (.tmp 64) rfl g0 rfl _ rfl _ 40 HU.out.r (by kernel_rfl) rfl rfl w.heap.size HU.out.lo0 ?_; intro W3 hB hK hs; refine Hid.out ?_)
    unfold Hid
    have HF : Hid (Below w.heap.size w W3) := HU.out.bel.trans hK
    have HB : Hid (Blk _ _ _ _) := hB
    clear hB hK hs HU
    go_wp2
    refine bodyPost_ret (results_cell_two rfl _ _ g0 40 _ (0, 0) _ rfl HB.out Tryd.underlying40 rfl (by kernel_rfl)) rfl ?_
    first | exact ⟨rfl, HF.out⟩ | exact ⟨by rw [if_neg (fun h => absurd h.1 (by decide))]; rfl, HF.out⟩

end Go.Proofs.YtohojpacijnnaaaDoor.Is
