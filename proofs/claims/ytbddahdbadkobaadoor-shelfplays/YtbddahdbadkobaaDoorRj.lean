import Derived.Test.YtbddahdbadkobaaDoorRi
namespace Go.Proofs.YtbddahdbadkobaaDoor
open Go.RowKit Go.Shelf
set_option linter.unusedVariables false
set_option linter.unusedSimpArgs false
set_option maxRecDepth 6000

theorem put_stepP (Z : Nat) (K : Nat → Prop) (w : World) (s b room : Nat) (P : List (Int × ByteArray)) (k : Int) (t : ByteArray) (h : Es Z K w s b room P) (hk : I64 k) :
    Calls Tryd.prog 18 #[ptr s, .int .i64 k, .string t] w fun r w' => r = .returned (.tuple #[.int .i64 (goneL room k (kvP P)).1, .bool (goneL room k (kvP P)).2]) ∧ (∃ F' G', Bo Z K w' s b room (putL room k (.string t) (kvP P)) (ksP P) (vsP P) F' G') ∧ Keeps (fun k => Z ≤ k ∧ ¬ K k) w w' := by
  obtain ⟨F, G, hB⟩ := h
  refine (put_any s room (kvP P) F k t w hB.sf hk).mono fun r w' ⟨q1, q2⟩ => ?_
  obtain ⟨⟨F', h1⟩, h2⟩ := hB.left q2
  exact ⟨q1, ⟨F', G, h1⟩, h2⟩
theorem get_stepP (Z : Nat) (K : Nat → Prop) (w : World) (s b room : Nat) (P : List (Int × ByteArray)) (k : Int) (h : Es Z K w s b room P) (hk : I64 k) :
    Calls Tryd.prog 21 #[ptr s, .int .i64 k] w fun r w' => r = .returned (.tuple #[(look k (kvP P)).getD (.string ⟨#[]⟩), .bool (look k (kvP P)).isSome]) ∧ (∃ F' G', Bo Z K w' s b room (touch k (kvP P)) (ksP P) (vsP P) F' G') ∧ Keeps (fun k => Z ≤ k ∧ ¬ K k) w w' := by
  obtain ⟨F, G, hB⟩ := h
  refine (get_any s room (kvP P) F k w hB.sf hk).mono fun r w' ⟨q1, q2⟩ => ?_
  obtain ⟨⟨F', h1⟩, h2⟩ := hB.left q2
  exact ⟨q1, ⟨F', G, h1⟩, h2⟩
theorem drop_stepP (Z : Nat) (K : Nat → Prop) (w : World) (s b room : Nat) (P : List (Int × ByteArray)) (k : Int) (h : Es Z K w s b room P) (hk : I64 k) :
    Calls Tryd.prog 25 #[ptr s, .int .i64 k] w fun r w' => r = .returned (.bool (look k (kvP P)).isSome) ∧ (∃ F' G', Bo Z K w' s b room (del k (kvP P)) (ksP P) (vsP P) F' G') ∧ Keeps (fun k => Z ≤ k ∧ ¬ K k) w w' := by
  obtain ⟨F, G, hB⟩ := h
  refine (drop_any s room (kvP P) F k w hB.sf hk).mono fun r w' ⟨q1, q2⟩ => ?_
  obtain ⟨⟨F', h1⟩, h2⟩ := hB.left q2
  exact ⟨q1, ⟨F', G, h1⟩, h2⟩

theorem one_head (Z s b room : Nat) (K0 : Nat → Prop) (P : List (Int × ByteArray)) (kind key : Int) (t : ByteArray) (w : World) (h : Es Z K0 w s b room P) :
    ∃ A B W, Hid ((w.alloc (.cells #[ptr s, ptr b] 32)).alloc (.cells #[.int .i64 kind, .int .i64 key, .string t] 35) = W) ∧ Hid (w.heap.size + 1 = B ∧ w.heap.size = A) ∧ Hid (Es Z (fun k => K0 k ∨ k = A ∨ k = B) W s b room P) ∧
      Hid (∀ W', Keeps (fun k => Z ≤ k ∧ ¬ (K0 k ∨ k = A ∨ k = B)) W W' → (W'.cell? ⟨A, 0, none⟩ = some (ptr s) ∧ W'.cell? ⟨A, 1, none⟩ = some (ptr b) ∧ W'.cell? ⟨B, 0, none⟩ = some (.int .i64 kind) ∧ W'.cell? ⟨B, 1, none⟩ = some (.int .i64 key) ∧ W'.cell? ⟨B, 2, none⟩ = some (.string t))) ∧ Hid (Keeps (fun _ => False) w W ∧ Blk W A [ptr s, ptr b] 32) := by
  obtain ⟨W, eW⟩ : ∃ W, W = (w.alloc (.cells #[ptr s, ptr b] 32)).alloc (.cells #[.int .i64 kind, .int .i64 key, .string t] 35) := ⟨_, rfl⟩
  have hK0 : Keeps (fun _ => False) w W := by rw [eW]; exact ((Keeps.refl _ w).alloc _).alloc _
  have hA : Blk W w.heap.size [ptr s, ptr b] 32 := by rw [eW]; exact (Blk.new w _ 32).alloc _
  have hB : Blk W (w.heap.size + 1) [.int .i64 kind, .int .i64 key, .string t] 35 := by
    rw [eW]
    have := Blk.new (w.alloc (.cells #[ptr s, ptr b] 32)) #[.int .i64 kind, .int .i64 key, .string t] 35
    simpa using this
  have hz : W.heap.size = w.heap.size + 1 + 1 := by rw [eW]; simp
  refine ⟨w.heap.size, w.heap.size + 1, W, eW.symm, ⟨rfl, rfl⟩, h.two hK0 _ _ ⟨by omega, by omega⟩ ⟨by omega, by omega⟩, fun W' hK => ?_, hK0, hA⟩
  have h1 := hA.kept hK fun e => e.2 (.inr (.inl rfl))
  have h2 := hB.kept hK fun e => e.2 (.inr (.inr rfl))
  exact ⟨h1.cell rfl, h1.cell rfl, h2.cell rfl, h2.cell rfl, h2.cell rfl⟩

set_option maxHeartbeats 4000000 in
theorem one_put (Z s b room : Nat) (K0 : Nat → Prop) (P : List (Int × ByteArray)) (key : Int) (t : ByteArray) (w : World) (h : Es Z K0 w s b room P) (hk : I64 key) :
    Calls Tryd.prog 7 #[.agg #[ptr s, ptr b], .agg #[.int .i64 0, .int .i64 key, .string t]] w fun r w' => r = .returned (.bool true) ∧ (∃ P', Es Z K0 w' s b room P') ∧ Keeps (fun k => Z ≤ k ∧ ¬ K0 k) w w' := by
  obtain ⟨A, B, W, HX, HAB, HE, HC, HK0⟩ := one_head Z s b room K0 P 0 key t w h
  have HI : Hid (I64 key) := hk
  have HKK : Hid (∀ W', Keeps (fun k => Z ≤ k ∧ ¬ (K0 k ∨ k = A ∨ k = B)) W W' → Keeps (fun k => Z ≤ k ∧ ¬ K0 k) w W') := fun W' hK => (HK0.out.1.mono fun _ _ h => h.elim).trans hK fun k _ e => ⟨e.1, fun h => e.2 (.inl h)⟩
  have HLs : Hid (∀ W', (∃ P', Es Z (fun k => K0 k ∨ k = A ∨ k = B) W' s b room P') → ∃ P', Es Z K0 W' s b room P') := fun W' ⟨P', hP⟩ => ⟨P', hP.less fun _ h => .inl h⟩
  clear h hk
  go_enter Tryd.func7, Tryd.ntmps7
  go_upto_region 1 with fail
  rw [HX.out, HAB.out.1, HAB.out.2]
  obtain ⟨x0, x1, y0, y1, y2⟩ := HC.out W (Keeps.refl _ _)
  have H1 : Hid (Calls _ _ _ _ _) := put_stepP Z _ W s b room P key t HE.out HI.out
  obtain ⟨g1, e1⟩ : ∃ g1, g1 = (goneL room key (kvP P)).1 := ⟨_, rfl⟩
  obtain ⟨g2, e2⟩ : ∃ g2, g2 = (goneL room key (kvP P)).2 := ⟨_, rfl⟩
  have HG : Hid ((g2 = false → g1 = 0) ∧ I64 g1 ∧ ((kvP P).map Prod.fst).Nodup ∧ P.length ≤ room) := by
    obtain ⟨F, G, hB⟩ := HE.out
    have hf := hB.sf.fits
    simp [kvP] at hf
    exact ⟨fun e => by rw [e1]; exact gone_zero _ _ _ (by rw [← e2]; exact e), by rw [e1]; exact gone_ok hB.sf key, hB.sf.keys, hf⟩
  have H2 : Hid (∀ w' F G, Bo Z (fun k => K0 k ∨ k = A ∨ k = B) w' s b room (putL room key (.string t) (kvP P)) (ksP P) (vsP P) F G → Calls Tryd.prog 19 #[ptr b, .string (tx key), .string t] w' fun r w2 => r = .returned (.tuple #[.string (if g2 then tx g1 else ⟨#[]⟩), .bool g2]) ∧ (∃ P', Es Z (fun k => K0 k ∨ k = A ∨ k = B) w2 s b room P') ∧ Keeps (fun k => Z ≤ k ∧ ¬ (K0 k ∨ k = A ∨ k = B)) w' w2) := fun w' F G hB => by
    rw [e1, e2]; exact rput_step Z _ w' s b room P key t F G hB HG.out.2.2.1 HG.out.2.2.2
  rw [← e1, ← e2] at H1
  clear e1 e2 HE
  go_wp2_with fail
  refine H1.out.mono ?_
  rintro e w1 ⟨rfl, ⟨F1, G1, hB1⟩, hK1⟩
  have HB1 : Hid (Bo Z (fun k => K0 k ∨ k = A ∨ k = B) w1 s b room (putL room key (.string t) (kvP P)) (ksP P) (vsP P) F1 G1) := hB1
  have HKc : Hid (Keeps (fun k => Z ≤ k ∧ ¬ (K0 k ∨ k = A ∨ k = B)) W w1) := hK1
  clear hB1 hK1 x0 x1 y0 y1 y2 H1
  go_upto_region 4 with fail
  obtain ⟨x0, x1, y0, y1, y2⟩ := HC.out w1.drew (HKc.out.drew)
  have hS : (fun w' : World => w'.cell? ⟨A, 0, none⟩ = some (ptr s) ∧ w'.cell? ⟨A, 1, none⟩ = some (ptr b) ∧ w'.cell? ⟨B, 1, none⟩ = some (.int .i64 key) ∧ w'.cell? ⟨B, 2, none⟩ = some (.string t)) w1.drew := ⟨x0, x1, y1, y2⟩
  refine wp_region_held_drew (S := (fun w' => w'.cell? ⟨A, 0, none⟩ = some (ptr s) ∧ w'.cell? ⟨A, 1, none⟩ = some (ptr b) ∧ w'.cell? ⟨B, 1, none⟩ = some (.int .i64 key) ∧ w'.cell? ⟨B, 2, none⟩ = some (.string t))) (by kernel_rfl) hS (fun hHeld => ?_)
  simp only [List.size_toArray, List.length_cons, List.length_nil, Nat.reduceAdd, Array.replicate_succ, Array.replicate_zero, List.push_toArray, List.append_toArray, List.nil_append, List.cons_append]
  refine tk 0 (.pointer (some ⟨A, 1, none⟩)) hHeld ?_
  simp only [Act.put, List.setIfInBounds_toArray, List.set_cons_zero, List.set_cons_succ]
  refine tk 1 (ptr b) hHeld ?_
  simp only [Act.put, List.setIfInBounds_toArray, List.set_cons_zero, List.set_cons_succ]
  refine tk 2 (.pointer (some ⟨B, 1, none⟩)) hHeld ?_
  simp only [Act.put, List.setIfInBounds_toArray, List.set_cons_zero, List.set_cons_succ]
  refine tk 3 (.int .i64 key) hHeld ?_
  simp only [Act.put, List.setIfInBounds_toArray, List.set_cons_zero, List.set_cons_succ]
  refine tk 5 (.pointer (some ⟨B, 2, none⟩)) hHeld ?_
  simp only [Act.put, List.setIfInBounds_toArray, List.set_cons_zero, List.set_cons_succ]
  refine tk 6 (.string t) hHeld ?_
  simp only [Act.put, List.setIfInBounds_toArray, List.set_cons_zero, List.set_cons_succ]
  refine wpAnyH_ready (rs := [4]) (by kernel_rfl) (by simp) ?_
  refine AllReadyH.cons rfl (fun Kq hK => ?_) AllReadyH.nil
  go_simp
  have hBd := HB1.out.kept ((Keeps.refl (fun _ => False) w1).drew)
  refine (key_any key w1.drew HI.out hBd.tb).mono ?_
  rintro e w2 ⟨rfl, hK2⟩
  have hB2 := hBd.kept hK2
  have H3 : Hid (Calls _ _ _ _ _) := H2.out w2 F1 G1 hB2
  have hk2 : Keeps (fun k => Z ≤ k ∧ ¬ (K0 k ∨ k = A ∨ k = B)) W w2 := (HKc.out.drew).trans hK2 fun _ _ e => e.elim
  clear HKc
  have HKc : Hid (Keeps (fun k => Z ≤ k ∧ ¬ (K0 k ∨ k = A ∨ k = B)) W w2) := hk2
  clear hBd hK2 hB2 hk2 HB1 H2
  obtain ⟨p0, p1, p2, p3, p4⟩ := HC.out w2 HKc.out
  have hS2 : (fun w' : World => w'.cell? ⟨A, 0, none⟩ = some (ptr s) ∧ w'.cell? ⟨A, 1, none⟩ = some (ptr b) ∧ w'.cell? ⟨B, 1, none⟩ = some (.int .i64 key) ∧ w'.cell? ⟨B, 2, none⟩ = some (.string t)) w2 := ⟨p0, p1, p3, p4⟩
  clear p0 p1 p2 p3 p4
  refine hK.out _ _ hS2 (fun hHeld => ?_)
  simp only [Act.put, List.setIfInBounds_toArray, List.set_cons_zero, List.set_cons_succ]
  refine wpAnyH_ready (rs := [7]) (by kernel_rfl) (by simp) ?_
  refine AllReadyH.cons rfl (fun Kq hK => ?_) AllReadyH.nil
  go_simp
  refine H3.out.mono ?_
  rintro e w3 ⟨rfl, hP3, hK3⟩
  have HP3 : Hid (∃ P', Es Z (fun k => K0 k ∨ k = A ∨ k = B) w3 s b room P') := hP3
  have hk3 : Keeps (fun k => Z ≤ k ∧ ¬ (K0 k ∨ k = A ∨ k = B)) W w3 := HKc.out.trans hK3 fun _ _ e => e
  clear HKc
  have HKc : Hid (Keeps (fun k => Z ≤ k ∧ ¬ (K0 k ∨ k = A ∨ k = B)) W w3) := hk3
  clear hP3 hK3 hk3 H3
  obtain ⟨gt, egt⟩ : ∃ gt : ByteArray, gt = if g2 then tx g1 else ⟨#[]⟩ := ⟨_, rfl⟩
  rw [← egt]
  have HGt : Hid (gt = if g2 then tx g1 else ⟨#[]⟩) := egt
  clear egt
  obtain ⟨p0, p1, p2, p3, p4⟩ := HC.out w3 HKc.out
  have hS3 : (fun w' : World => w'.cell? ⟨A, 0, none⟩ = some (ptr s) ∧ w'.cell? ⟨A, 1, none⟩ = some (ptr b) ∧ w'.cell? ⟨B, 1, none⟩ = some (.int .i64 key) ∧ w'.cell? ⟨B, 2, none⟩ = some (.string t)) w3 := ⟨p0, p1, p3, p4⟩
  clear p0 p1 p2 p3 p4
  refine hK.out _ _ hS3 (fun hHeld => ?_)
  simp only [Act.put, List.setIfInBounds_toArray, List.set_cons_zero, List.set_cons_succ]
  refine tk 8 (.tuple #[.string gt, .bool g2]) hHeld ?_
  simp only [Act.put, List.setIfInBounds_toArray, List.set_cons_zero, List.set_cons_succ]
  refine tk 9 (.string gt) hHeld ?_
  simp only [Act.put, List.setIfInBounds_toArray, List.set_cons_zero, List.set_cons_succ]
  refine tk 10 (.bool g2) hHeld ?_
  simp only [Act.put, List.setIfInBounds_toArray, List.set_cons_zero, List.set_cons_succ]
  refine tk 11 (.string gt) hHeld ?_
  simp only [Act.put, List.setIfInBounds_toArray, List.set_cons_zero, List.set_cons_succ]
  refine tk 12 (.bool g2) hHeld ?_
  simp only [Act.put, List.setIfInBounds_toArray, List.set_cons_zero, List.set_cons_succ]
  refine wpAnyH_done (by kernel_rfl) ?_ _
  clear hHeld hS hS2 hS3 x0 x1 y0 y1 y2
  cases g2 with
  | false =>
    obtain rfl : g1 = 0 := HG.out.1 rfl
    go_wp2
    go_ret
    exact ⟨rfl, HLs.out _ HP3.out, HKK.out _ HKc.out⟩
  | true =>
    have hgt : gt = tx g1 := HGt.out
    obtain ⟨P3, h3⟩ := HP3.out
    have htb : Tb w3 := by obtain ⟨F, G, hB⟩ := h3; exact hB.tb
    have H4 : Hid (Calls _ _ _ _ _) := key_any g1 w3 HG.out.2.1 htb
    subst hgt
    clear h3 htb
    go_wp2_with fail
    refine H4.out.mono ?_
    rintro e w4 ⟨rfl, hK4⟩
    have HF : Hid ((∃ P', Es Z K0 w4 s b room P') ∧ Keeps (fun k => Z ≤ k ∧ ¬ K0 k) w w4) := by
      obtain ⟨P3, h3⟩ := HLs.out _ HP3.out
      exact ⟨⟨P3, h3.kept hK4⟩, (HKK.out _ HKc.out).trans hK4 fun _ _ e => e.elim⟩
    clear hK4 H4
    go_wp2
    go_ret
    exact ⟨rfl, HF.out⟩

set_option maxHeartbeats 4000000 in
theorem one_get (Z s b room : Nat) (K0 : Nat → Prop) (P : List (Int × ByteArray)) (key : Int) (t : ByteArray) (w : World) (h : Es Z K0 w s b room P) (hk : I64 key) :
    Calls Tryd.prog 7 #[.agg #[ptr s, ptr b], .agg #[.int .i64 1, .int .i64 key, .string t]] w fun r w' => r = .returned (.bool true) ∧ (∃ P', Es Z K0 w' s b room P') ∧ Keeps (fun k => Z ≤ k ∧ ¬ K0 k) w w' := by
  obtain ⟨A, B, W, HX, HAB, HE, HC, HK0⟩ := one_head Z s b room K0 P 1 key t w h
  have HI : Hid (I64 key) := hk
  have HKK : Hid (∀ W', Keeps (fun k => Z ≤ k ∧ ¬ (K0 k ∨ k = A ∨ k = B)) W W' → Keeps (fun k => Z ≤ k ∧ ¬ K0 k) w W') := fun W' hK => (HK0.out.1.mono fun _ _ h => h.elim).trans hK fun k _ e => ⟨e.1, fun h => e.2 (.inl h)⟩
  have HLs : Hid (∀ W', (∃ P', Es Z (fun k => K0 k ∨ k = A ∨ k = B) W' s b room P') → ∃ P', Es Z K0 W' s b room P') := fun W' ⟨P', hP⟩ => ⟨P', hP.less fun _ h => .inl h⟩
  clear h hk
  go_enter Tryd.func7, Tryd.ntmps7
  go_upto_region 1 with fail
  rw [HX.out, HAB.out.1, HAB.out.2]
  obtain ⟨x0, x1, y0, y1, y2⟩ := HC.out W (Keeps.refl _ _)
  have h1 := get_stepP Z _ W s b room P key HE.out HI.out
  have hnd : ((kvP P).map Prod.fst).Nodup := by obtain ⟨F, G, hB⟩ := HE.out; exact hB.sf.keys
  have h2 : ∀ w' F G, Bo Z (fun k => K0 k ∨ k = A ∨ k = B) w' s b room (touch key (kvP P)) (ksP P) (vsP P) F G → _ := fun w' F G hB => rget_step Z (fun k => K0 k ∨ k = A ∨ k = B) w' s b room P key F G hB hnd
  obtain ⟨y, ey⟩ := look_txt P key
  obtain ⟨ok, eok⟩ : ∃ ok, ok = (look key (kvP P)).isSome := ⟨_, rfl⟩
  rw [ey, ← eok] at h1
  simp only [ey, ← eok] at h2
  have H1 : Hid (Calls _ _ _ _ _) := h1
  have H2 : Hid (∀ w' F G, _ → Calls _ _ _ w' _) := h2
  clear h1 h2 hnd ey eok HE
  go_wp2_with fail
  refine H1.out.mono ?_
  rintro e w1 ⟨rfl, ⟨F1, G1, hB1⟩, hK1⟩
  have HB1 : Hid (Bo Z (fun k => K0 k ∨ k = A ∨ k = B) w1 s b room (touch key (kvP P)) (ksP P) (vsP P) F1 G1) := hB1
  have HKc : Hid (Keeps (fun k => Z ≤ k ∧ ¬ (K0 k ∨ k = A ∨ k = B)) W w1) := hK1
  clear hB1 hK1 x0 x1 y0 y1 y2 H1
  go_upto_region 10 with fail
  obtain ⟨x0, x1, y0, y1, y2⟩ := HC.out w1.drew (HKc.out.drew)
  have hS : (fun w' : World => w'.cell? ⟨A, 0, none⟩ = some (ptr s) ∧ w'.cell? ⟨A, 1, none⟩ = some (ptr b) ∧ w'.cell? ⟨B, 1, none⟩ = some (.int .i64 key) ∧ w'.cell? ⟨B, 2, none⟩ = some (.string t)) w1.drew := ⟨x0, x1, y1, y2⟩
  refine wp_region_held_drew (S := (fun w' => w'.cell? ⟨A, 0, none⟩ = some (ptr s) ∧ w'.cell? ⟨A, 1, none⟩ = some (ptr b) ∧ w'.cell? ⟨B, 1, none⟩ = some (.int .i64 key) ∧ w'.cell? ⟨B, 2, none⟩ = some (.string t))) (by kernel_rfl) hS (fun hHeld => ?_)
  simp only [List.size_toArray, List.length_cons, List.length_nil, Nat.reduceAdd, Array.replicate_succ, Array.replicate_zero, List.push_toArray, List.append_toArray, List.nil_append, List.cons_append]
  refine tk 0 (.pointer (some ⟨A, 1, none⟩)) hHeld ?_
  simp only [Act.put, List.setIfInBounds_toArray, List.set_cons_zero, List.set_cons_succ]
  refine tk 1 (ptr b) hHeld ?_
  simp only [Act.put, List.setIfInBounds_toArray, List.set_cons_zero, List.set_cons_succ]
  refine tk 2 (.pointer (some ⟨B, 1, none⟩)) hHeld ?_
  simp only [Act.put, List.setIfInBounds_toArray, List.set_cons_zero, List.set_cons_succ]
  refine tk 3 (.int .i64 key) hHeld ?_
  simp only [Act.put, List.setIfInBounds_toArray, List.set_cons_zero, List.set_cons_succ]
  refine wpAnyH_ready (rs := [4]) (by kernel_rfl) (by simp) ?_
  refine AllReadyH.cons rfl (fun Kq hK => ?_) AllReadyH.nil
  go_simp
  have hBd := HB1.out.kept ((Keeps.refl (fun _ => False) w1).drew)
  refine (key_any key w1.drew HI.out hBd.tb).mono ?_
  rintro e w2 ⟨rfl, hK2⟩
  have hB2 := hBd.kept hK2
  have H3 : Hid (Calls _ _ _ _ _) := H2.out w2 F1 G1 hB2
  have hk2 : Keeps (fun k => Z ≤ k ∧ ¬ (K0 k ∨ k = A ∨ k = B)) W w2 := (HKc.out.drew).trans hK2 fun _ _ e => e.elim
  clear HKc
  have HKc : Hid (Keeps (fun k => Z ≤ k ∧ ¬ (K0 k ∨ k = A ∨ k = B)) W w2) := hk2
  clear hBd hK2 hB2 hk2 HB1 H2
  obtain ⟨p0, p1, p2, p3, p4⟩ := HC.out w2 HKc.out
  have hS2 : (fun w' : World => w'.cell? ⟨A, 0, none⟩ = some (ptr s) ∧ w'.cell? ⟨A, 1, none⟩ = some (ptr b) ∧ w'.cell? ⟨B, 1, none⟩ = some (.int .i64 key) ∧ w'.cell? ⟨B, 2, none⟩ = some (.string t)) w2 := ⟨p0, p1, p3, p4⟩
  clear p0 p1 p2 p3 p4
  refine hK.out _ _ hS2 (fun hHeld => ?_)
  simp only [Act.put, List.setIfInBounds_toArray, List.set_cons_zero, List.set_cons_succ]
  refine wpAnyH_ready (rs := [5]) (by kernel_rfl) (by simp) ?_
  refine AllReadyH.cons rfl (fun Kq hK => ?_) AllReadyH.nil
  go_simp
  refine H3.out.mono ?_
  rintro e w3 ⟨rfl, hP3, hK3⟩
  have HP3 : Hid (∃ P', Es Z (fun k => K0 k ∨ k = A ∨ k = B) w3 s b room P') := hP3
  have hk3 : Keeps (fun k => Z ≤ k ∧ ¬ (K0 k ∨ k = A ∨ k = B)) W w3 := HKc.out.trans hK3 fun _ _ e => e
  clear HKc
  have HKc : Hid (Keeps (fun k => Z ≤ k ∧ ¬ (K0 k ∨ k = A ∨ k = B)) W w3) := hk3
  clear hP3 hK3 hk3 H3
  obtain ⟨p0, p1, p2, p3, p4⟩ := HC.out w3 HKc.out
  have hS3 : (fun w' : World => w'.cell? ⟨A, 0, none⟩ = some (ptr s) ∧ w'.cell? ⟨A, 1, none⟩ = some (ptr b) ∧ w'.cell? ⟨B, 1, none⟩ = some (.int .i64 key) ∧ w'.cell? ⟨B, 2, none⟩ = some (.string t)) w3 := ⟨p0, p1, p3, p4⟩
  clear p0 p1 p2 p3 p4
  refine hK.out _ _ hS3 (fun hHeld => ?_)
  simp only [Act.put, List.setIfInBounds_toArray, List.set_cons_zero, List.set_cons_succ]
  refine tk 6 (.tuple #[.string y, .bool ok]) hHeld ?_
  simp only [Act.put, List.setIfInBounds_toArray, List.set_cons_zero, List.set_cons_succ]
  refine tk 7 (.string y) hHeld ?_
  simp only [Act.put, List.setIfInBounds_toArray, List.set_cons_zero, List.set_cons_succ]
  refine tk 8 (.bool ok) hHeld ?_
  simp only [Act.put, List.setIfInBounds_toArray, List.set_cons_zero, List.set_cons_succ]
  refine tk 9 (.string y) hHeld ?_
  simp only [Act.put, List.setIfInBounds_toArray, List.set_cons_zero, List.set_cons_succ]
  refine tk 10 (.bool ok) hHeld ?_
  simp only [Act.put, List.setIfInBounds_toArray, List.set_cons_zero, List.set_cons_succ]
  refine wpAnyH_done (by kernel_rfl) ?_ _
  clear hHeld hS hS2 hS3 x0 x1 y0 y1 y2
  cases ok
  all_goals
    go_wp2
    go_ret
    exact ⟨rfl, HLs.out _ HP3.out, HKK.out _ HKc.out⟩

set_option maxHeartbeats 4000000 in
theorem one_peek (Z s b room : Nat) (K0 : Nat → Prop) (P : List (Int × ByteArray)) (key : Int) (t : ByteArray) (w : World) (h : Es Z K0 w s b room P) (hk : I64 key) :
    Calls Tryd.prog 7 #[.agg #[ptr s, ptr b], .agg #[.int .i64 2, .int .i64 key, .string t]] w fun r w' => r = .returned (.bool true) ∧ (∃ P', Es Z K0 w' s b room P') ∧ Keeps (fun k => Z ≤ k ∧ ¬ K0 k) w w' := by
  obtain ⟨A, B, W, HX, HAB, HE, HC, HK0⟩ := one_head Z s b room K0 P 2 key t w h
  have HI : Hid (I64 key) := hk
  have HKK : Hid (∀ W', Keeps (fun k => Z ≤ k ∧ ¬ (K0 k ∨ k = A ∨ k = B)) W W' → Keeps (fun k => Z ≤ k ∧ ¬ K0 k) w W') := fun W' hK => (HK0.out.1.mono fun _ _ h => h.elim).trans hK fun k _ e => ⟨e.1, fun h => e.2 (.inl h)⟩
  have HLs : Hid (∀ W', (∃ P', Es Z (fun k => K0 k ∨ k = A ∨ k = B) W' s b room P') → ∃ P', Es Z K0 W' s b room P') := fun W' ⟨P', hP⟩ => ⟨P', hP.less fun _ h => .inl h⟩
  clear h hk
  go_enter Tryd.func7, Tryd.ntmps7
  go_upto_region 1 with fail
  rw [HX.out, HAB.out.1, HAB.out.2]
  obtain ⟨x0, x1, y0, y1, y2⟩ := HC.out W (Keeps.refl _ _)
  obtain ⟨F0, G0, hB0⟩ := HE.out
  have h1 := peek_any s room (kvP P) F0 key W hB0.sf HI.out
  have h2 : ∀ w', Es Z (fun k => K0 k ∨ k = A ∨ k = B) w' s b room P → _ := fun w' hE => rpeek_step Z (fun k => K0 k ∨ k = A ∨ k = B) w' s b room P key hE
  obtain ⟨y, ey⟩ := look_txt P key
  obtain ⟨ok, eok⟩ : ∃ ok, ok = (look key (kvP P)).isSome := ⟨_, rfl⟩
  rw [ey, ← eok] at h1
  simp only [ey, ← eok] at h2
  have H1 : Hid (Calls _ _ _ _ _) := h1
  have H2 : Hid (∀ w', _ → Calls _ _ _ w' _) := h2
  clear h1 h2 ey eok hB0
  go_wp2_with fail
  refine H1.out.mono ?_
  rintro e w1 ⟨rfl, hw⟩
  obtain rfl := hw.symm
  have HKc : Hid (Keeps (fun k => Z ≤ k ∧ ¬ (K0 k ∨ k = A ∨ k = B)) W W) := Keeps.refl _ _
  clear hw x0 x1 y0 y1 y2 H1
  go_upto_region 14 with fail
  obtain ⟨x0, x1, y0, y1, y2⟩ := HC.out W.drew (HKc.out.drew)
  have hS : (fun w' : World => w'.cell? ⟨A, 0, none⟩ = some (ptr s) ∧ w'.cell? ⟨A, 1, none⟩ = some (ptr b) ∧ w'.cell? ⟨B, 1, none⟩ = some (.int .i64 key) ∧ w'.cell? ⟨B, 2, none⟩ = some (.string t)) W.drew := ⟨x0, x1, y1, y2⟩
  refine wp_region_held_drew (S := (fun w' => w'.cell? ⟨A, 0, none⟩ = some (ptr s) ∧ w'.cell? ⟨A, 1, none⟩ = some (ptr b) ∧ w'.cell? ⟨B, 1, none⟩ = some (.int .i64 key) ∧ w'.cell? ⟨B, 2, none⟩ = some (.string t))) (by kernel_rfl) hS (fun hHeld => ?_)
  simp only [List.size_toArray, List.length_cons, List.length_nil, Nat.reduceAdd, Array.replicate_succ, Array.replicate_zero, List.push_toArray, List.append_toArray, List.nil_append, List.cons_append]
  refine tk 0 (.pointer (some ⟨A, 1, none⟩)) hHeld ?_
  simp only [Act.put, List.setIfInBounds_toArray, List.set_cons_zero, List.set_cons_succ]
  refine tk 1 (ptr b) hHeld ?_
  simp only [Act.put, List.setIfInBounds_toArray, List.set_cons_zero, List.set_cons_succ]
  refine tk 2 (.pointer (some ⟨B, 1, none⟩)) hHeld ?_
  simp only [Act.put, List.setIfInBounds_toArray, List.set_cons_zero, List.set_cons_succ]
  refine tk 3 (.int .i64 key) hHeld ?_
  simp only [Act.put, List.setIfInBounds_toArray, List.set_cons_zero, List.set_cons_succ]
  refine wpAnyH_ready (rs := [4]) (by kernel_rfl) (by simp) ?_
  refine AllReadyH.cons rfl (fun Kq hK => ?_) AllReadyH.nil
  go_simp
  have hBd := HE.out.kept ((Keeps.refl (fun _ => False) W).drew)
  have htb : Tb W.drew := by obtain ⟨F, G, hB⟩ := hBd; exact hB.tb
  refine (key_any key W.drew HI.out htb).mono ?_
  rintro e w2 ⟨rfl, hK2⟩
  have hB2 := hBd.kept hK2
  have H3 : Hid (Calls _ _ _ _ _) := H2.out w2 hB2
  have HP2 : Hid (Es Z (fun k => K0 k ∨ k = A ∨ k = B) w2 s b room P) := hB2
  have hk2 : Keeps (fun k => Z ≤ k ∧ ¬ (K0 k ∨ k = A ∨ k = B)) W w2 := (HKc.out.drew).trans hK2 fun _ _ e => e.elim
  clear HKc
  have HKc : Hid (Keeps (fun k => Z ≤ k ∧ ¬ (K0 k ∨ k = A ∨ k = B)) W w2) := hk2
  clear hBd hK2 hB2 hk2 H2 htb
  obtain ⟨p0, p1, p2, p3, p4⟩ := HC.out w2 HKc.out
  have hS2 : (fun w' : World => w'.cell? ⟨A, 0, none⟩ = some (ptr s) ∧ w'.cell? ⟨A, 1, none⟩ = some (ptr b) ∧ w'.cell? ⟨B, 1, none⟩ = some (.int .i64 key) ∧ w'.cell? ⟨B, 2, none⟩ = some (.string t)) w2 := ⟨p0, p1, p3, p4⟩
  clear p0 p1 p2 p3 p4
  refine hK.out _ _ hS2 (fun hHeld => ?_)
  simp only [Act.put, List.setIfInBounds_toArray, List.set_cons_zero, List.set_cons_succ]
  refine wpAnyH_ready (rs := [5]) (by kernel_rfl) (by simp) ?_
  refine AllReadyH.cons rfl (fun Kq hK => ?_) AllReadyH.nil
  go_simp
  refine H3.out.mono ?_
  rintro e w3 ⟨rfl, hK3⟩
  have HP3 : Hid (∃ P', Es Z (fun k => K0 k ∨ k = A ∨ k = B) w3 s b room P') := ⟨P, HP2.out.kept hK3⟩
  have hk3 : Keeps (fun k => Z ≤ k ∧ ¬ (K0 k ∨ k = A ∨ k = B)) W w3 := HKc.out.trans hK3 fun _ _ e => e.elim
  clear HKc
  have HKc : Hid (Keeps (fun k => Z ≤ k ∧ ¬ (K0 k ∨ k = A ∨ k = B)) W w3) := hk3
  clear hK3 hk3 H3 HP2
  obtain ⟨p0, p1, p2, p3, p4⟩ := HC.out w3 HKc.out
  have hS3 : (fun w' : World => w'.cell? ⟨A, 0, none⟩ = some (ptr s) ∧ w'.cell? ⟨A, 1, none⟩ = some (ptr b) ∧ w'.cell? ⟨B, 1, none⟩ = some (.int .i64 key) ∧ w'.cell? ⟨B, 2, none⟩ = some (.string t)) w3 := ⟨p0, p1, p3, p4⟩
  clear p0 p1 p2 p3 p4
  refine hK.out _ _ hS3 (fun hHeld => ?_)
  simp only [Act.put, List.setIfInBounds_toArray, List.set_cons_zero, List.set_cons_succ]
  refine tk 6 (.tuple #[.string y, .bool ok]) hHeld ?_
  simp only [Act.put, List.setIfInBounds_toArray, List.set_cons_zero, List.set_cons_succ]
  refine tk 7 (.string y) hHeld ?_
  simp only [Act.put, List.setIfInBounds_toArray, List.set_cons_zero, List.set_cons_succ]
  refine tk 8 (.bool ok) hHeld ?_
  simp only [Act.put, List.setIfInBounds_toArray, List.set_cons_zero, List.set_cons_succ]
  refine tk 9 (.string y) hHeld ?_
  simp only [Act.put, List.setIfInBounds_toArray, List.set_cons_zero, List.set_cons_succ]
  refine tk 10 (.bool ok) hHeld ?_
  simp only [Act.put, List.setIfInBounds_toArray, List.set_cons_zero, List.set_cons_succ]
  refine wpAnyH_done (by kernel_rfl) ?_ _
  clear hHeld hS hS2 hS3 x0 x1 y0 y1 y2
  cases ok
  all_goals
    go_wp2
    go_ret
    exact ⟨rfl, HLs.out _ HP3.out, HKK.out _ HKc.out⟩

set_option maxHeartbeats 4000000 in
theorem one_drop (Z s b room : Nat) (K0 : Nat → Prop) (P : List (Int × ByteArray)) (key : Int) (t : ByteArray) (w : World) (h : Es Z K0 w s b room P) (hk : I64 key) :
    Calls Tryd.prog 7 #[.agg #[ptr s, ptr b], .agg #[.int .i64 3, .int .i64 key, .string t]] w fun r w' => r = .returned (.bool true) ∧ (∃ P', Es Z K0 w' s b room P') ∧ Keeps (fun k => Z ≤ k ∧ ¬ K0 k) w w' := by
  obtain ⟨A, B, W, HX, HAB, HE, HC, HK0⟩ := one_head Z s b room K0 P 3 key t w h
  have HI : Hid (I64 key) := hk
  have HKK : Hid (∀ W', Keeps (fun k => Z ≤ k ∧ ¬ (K0 k ∨ k = A ∨ k = B)) W W' → Keeps (fun k => Z ≤ k ∧ ¬ K0 k) w W') := fun W' hK => (HK0.out.1.mono fun _ _ h => h.elim).trans hK fun k _ e => ⟨e.1, fun h => e.2 (.inl h)⟩
  have HLs : Hid (∀ W', (∃ P', Es Z (fun k => K0 k ∨ k = A ∨ k = B) W' s b room P') → ∃ P', Es Z K0 W' s b room P') := fun W' ⟨P', hP⟩ => ⟨P', hP.less fun _ h => .inl h⟩
  clear h hk
  go_enter Tryd.func7, Tryd.ntmps7
  go_upto_region 1 with fail
  rw [HX.out, HAB.out.1, HAB.out.2]
  obtain ⟨x0, x1, y0, y1, y2⟩ := HC.out W (Keeps.refl _ _)
  have hnd : ((kvP P).map Prod.fst).Nodup := by obtain ⟨F, G, hB⟩ := HE.out; exact hB.sf.keys
  have h1 := drop_stepP Z _ W.drew s b room P key (HE.out.kept ((Keeps.refl (fun _ => False) W).drew)) HI.out
  have h2 : ∀ w' F G, Bo Z (fun k => K0 k ∨ k = A ∨ k = B) w' s b room (del key (kvP P)) (ksP P) (vsP P) F G → _ := fun w' F G hB => rdrop_step Z (fun k => K0 k ∨ k = A ∨ k = B) w' s b room P key F G hB hnd
  obtain ⟨ok, eok⟩ : ∃ ok, ok = (look key (kvP P)).isSome := ⟨_, rfl⟩
  rw [← eok] at h1
  simp only [← eok] at h2
  have H1 : Hid (Calls _ _ _ _ _) := h1
  have H2 : Hid (∀ w' F G, _ → Calls _ _ _ w' _) := h2
  have HKc : Hid (Keeps (fun k => Z ≤ k ∧ ¬ (K0 k ∨ k = A ∨ k = B)) W W) := Keeps.refl _ _
  clear h1 h2 hnd eok HE
  go_upto_region 17 with fail
  clear x0 x1 y0 y1 y2
  obtain ⟨x0, x1, y0, y1, y2⟩ := HC.out W.drew (HKc.out.drew)
  have hS : (fun w' : World => w'.cell? ⟨A, 0, none⟩ = some (ptr s) ∧ w'.cell? ⟨A, 1, none⟩ = some (ptr b) ∧ w'.cell? ⟨B, 1, none⟩ = some (.int .i64 key) ∧ w'.cell? ⟨B, 2, none⟩ = some (.string t)) W.drew := ⟨x0, x1, y1, y2⟩
  refine wp_region_held_drew (S := (fun w' => w'.cell? ⟨A, 0, none⟩ = some (ptr s) ∧ w'.cell? ⟨A, 1, none⟩ = some (ptr b) ∧ w'.cell? ⟨B, 1, none⟩ = some (.int .i64 key) ∧ w'.cell? ⟨B, 2, none⟩ = some (.string t))) (by kernel_rfl) hS (fun hHeld => ?_)
  simp only [List.size_toArray, List.length_cons, List.length_nil, Nat.reduceAdd, Array.replicate_succ, Array.replicate_zero, List.push_toArray, List.append_toArray, List.nil_append, List.cons_append]
  refine tk 0 (.pointer (some ⟨A, 0, none⟩)) hHeld ?_
  simp only [Act.put, List.setIfInBounds_toArray, List.set_cons_zero, List.set_cons_succ]
  refine tk 1 (ptr s) hHeld ?_
  simp only [Act.put, List.setIfInBounds_toArray, List.set_cons_zero, List.set_cons_succ]
  refine tk 2 (.pointer (some ⟨B, 1, none⟩)) hHeld ?_
  simp only [Act.put, List.setIfInBounds_toArray, List.set_cons_zero, List.set_cons_succ]
  refine tk 3 (.int .i64 key) hHeld ?_
  simp only [Act.put, List.setIfInBounds_toArray, List.set_cons_zero, List.set_cons_succ]
  refine tk 5 (.pointer (some ⟨A, 1, none⟩)) hHeld ?_
  simp only [Act.put, List.setIfInBounds_toArray, List.set_cons_zero, List.set_cons_succ]
  refine tk 6 (ptr b) hHeld ?_
  simp only [Act.put, List.setIfInBounds_toArray, List.set_cons_zero, List.set_cons_succ]
  refine tk 7 (.pointer (some ⟨B, 1, none⟩)) hHeld ?_
  simp only [Act.put, List.setIfInBounds_toArray, List.set_cons_zero, List.set_cons_succ]
  refine tk 8 (.int .i64 key) hHeld ?_
  simp only [Act.put, List.setIfInBounds_toArray, List.set_cons_zero, List.set_cons_succ]
  refine wpAnyH_ready (rs := [4]) (by kernel_rfl) (by simp) ?_
  refine AllReadyH.cons rfl (fun Kq hK => ?_) AllReadyH.nil
  go_simp
  refine H1.out.mono ?_
  rintro e w1 ⟨rfl, ⟨F1, G1, hB1⟩, hK1⟩
  have HB1 : Hid (Bo Z (fun k => K0 k ∨ k = A ∨ k = B) w1 s b room (del key (kvP P)) (ksP P) (vsP P) F1 G1) := hB1
  have hk1 : Keeps (fun k => Z ≤ k ∧ ¬ (K0 k ∨ k = A ∨ k = B)) W w1 := (HKc.out.drew).trans hK1 fun _ _ e => e
  clear HKc
  have HKc : Hid (Keeps (fun k => Z ≤ k ∧ ¬ (K0 k ∨ k = A ∨ k = B)) W w1) := hk1
  clear hB1 hK1 hk1 H1
  obtain ⟨p0, p1, p2, p3, p4⟩ := HC.out w1 HKc.out
  have hS1 : (fun w' : World => w'.cell? ⟨A, 0, none⟩ = some (ptr s) ∧ w'.cell? ⟨A, 1, none⟩ = some (ptr b) ∧ w'.cell? ⟨B, 1, none⟩ = some (.int .i64 key) ∧ w'.cell? ⟨B, 2, none⟩ = some (.string t)) w1 := ⟨p0, p1, p3, p4⟩
  clear p0 p1 p2 p3 p4
  refine hK.out _ _ hS1 (fun hHeld => ?_)
  simp only [Act.put, List.setIfInBounds_toArray, List.set_cons_zero, List.set_cons_succ]
  refine wpAnyH_ready (rs := [9]) (by kernel_rfl) (by simp) ?_
  refine AllReadyH.cons rfl (fun Kq hK => ?_) AllReadyH.nil
  go_simp
  refine (key_any key w1 HI.out HB1.out.tb).mono ?_
  rintro e w2 ⟨rfl, hK2⟩
  have hB2 := HB1.out.kept hK2
  have H3 : Hid (Calls _ _ _ _ _) := H2.out w2 F1 G1 hB2
  have hk2 : Keeps (fun k => Z ≤ k ∧ ¬ (K0 k ∨ k = A ∨ k = B)) W w2 := HKc.out.trans hK2 fun _ _ e => e.elim
  clear HKc
  have HKc : Hid (Keeps (fun k => Z ≤ k ∧ ¬ (K0 k ∨ k = A ∨ k = B)) W w2) := hk2
  clear hK2 hB2 hk2 HB1 H2
  obtain ⟨p0, p1, p2, p3, p4⟩ := HC.out w2 HKc.out
  have hS2 : (fun w' : World => w'.cell? ⟨A, 0, none⟩ = some (ptr s) ∧ w'.cell? ⟨A, 1, none⟩ = some (ptr b) ∧ w'.cell? ⟨B, 1, none⟩ = some (.int .i64 key) ∧ w'.cell? ⟨B, 2, none⟩ = some (.string t)) w2 := ⟨p0, p1, p3, p4⟩
  clear p0 p1 p2 p3 p4
  refine hK.out _ _ hS2 (fun hHeld => ?_)
  simp only [Act.put, List.setIfInBounds_toArray, List.set_cons_zero, List.set_cons_succ]
  refine wpAnyH_ready (rs := [10]) (by kernel_rfl) (by simp) ?_
  refine AllReadyH.cons rfl (fun Kq hK => ?_) AllReadyH.nil
  go_simp
  refine H3.out.mono ?_
  rintro e w3 ⟨rfl, hP3, hK3⟩
  have HP3 : Hid (∃ P', Es Z (fun k => K0 k ∨ k = A ∨ k = B) w3 s b room P') := hP3
  have hk3 : Keeps (fun k => Z ≤ k ∧ ¬ (K0 k ∨ k = A ∨ k = B)) W w3 := HKc.out.trans hK3 fun _ _ e => e
  clear HKc
  have HKc : Hid (Keeps (fun k => Z ≤ k ∧ ¬ (K0 k ∨ k = A ∨ k = B)) W w3) := hk3
  clear hP3 hK3 hk3 H3
  obtain ⟨p0, p1, p2, p3, p4⟩ := HC.out w3 HKc.out
  have hS3 : (fun w' : World => w'.cell? ⟨A, 0, none⟩ = some (ptr s) ∧ w'.cell? ⟨A, 1, none⟩ = some (ptr b) ∧ w'.cell? ⟨B, 1, none⟩ = some (.int .i64 key) ∧ w'.cell? ⟨B, 2, none⟩ = some (.string t)) w3 := ⟨p0, p1, p3, p4⟩
  clear p0 p1 p2 p3 p4
  refine hK.out _ _ hS3 (fun hHeld => ?_)
  simp only [Act.put, List.setIfInBounds_toArray, List.set_cons_zero, List.set_cons_succ]
  refine tk 11 (.bool true) hHeld ?_
  simp only [Act.put, List.setIfInBounds_toArray, List.set_cons_zero, List.set_cons_succ]
  refine tk 12 (.bool true) hHeld ?_
  simp only [Act.put, List.setIfInBounds_toArray, List.set_cons_zero, List.set_cons_succ]
  refine wpAnyH_done (by kernel_rfl) ?_ _
  clear hHeld hS hS1 hS2 hS3 x0 x1 y0 y1 y2
  go_wp2
  go_ret
  exact ⟨rfl, HLs.out _ HP3.out, HKK.out _ HKc.out⟩

set_option maxHeartbeats 4000000 in
theorem one_clear (Z s b room : Nat) (K0 : Nat → Prop) (P : List (Int × ByteArray)) (key : Int) (t : ByteArray) (w : World) (h : Es Z K0 w s b room P) (hk : I64 key) :
    Calls Tryd.prog 7 #[.agg #[ptr s, ptr b], .agg #[.int .i64 4, .int .i64 key, .string t]] w fun r w' => r = .returned (.bool true) ∧ (∃ P', Es Z K0 w' s b room P') ∧ Keeps (fun k => Z ≤ k ∧ ¬ K0 k) w w' := by
  obtain ⟨A, B, W, HX, HAB, HE, HC, HK0⟩ := one_head Z s b room K0 P 4 key t w h
  have HI : Hid (I64 key) := hk
  have HKK : Hid (∀ W', Keeps (fun k => Z ≤ k ∧ ¬ (K0 k ∨ k = A ∨ k = B)) W W' → Keeps (fun k => Z ≤ k ∧ ¬ K0 k) w W') := fun W' hK => (HK0.out.1.mono fun _ _ h => h.elim).trans hK fun k _ e => ⟨e.1, fun h => e.2 (.inl h)⟩
  have HLs : Hid (∀ W', (∃ P', Es Z (fun k => K0 k ∨ k = A ∨ k = B) W' s b room P') → ∃ P', Es Z K0 W' s b room P') := fun W' ⟨P', hP⟩ => ⟨P', hP.less fun _ h => .inl h⟩
  clear h hk
  go_enter Tryd.func7, Tryd.ntmps7
  go_upto_region 1 with fail
  rw [HX.out, HAB.out.1, HAB.out.2]
  obtain ⟨x0, x1, y0, y1, y2⟩ := HC.out W (Keeps.refl _ _)
  have H1 : Hid (Calls Tryd.prog 13 #[ptr s] W fun r w' => r = .returned (.tuple #[]) ∧ (∃ F' G', Bo Z (fun k => K0 k ∨ k = A ∨ k = B) w' s b room [] (ksP P) (vsP P) F' G') ∧ Keeps (fun k => Z ≤ k ∧ ¬ (K0 k ∨ k = A ∨ k = B)) W w') := by
    obtain ⟨F, G, hB⟩ := HE.out
    refine (clear_all s room (kvP P) F W hB.sf).mono fun r w' ⟨q1, q2⟩ => ?_
    obtain ⟨⟨F', h1⟩, h2⟩ := hB.left q2
    exact ⟨q1, ⟨F', G, h1⟩, h2⟩
  clear HE
  go_wp2_with fail
  refine H1.out.mono ?_
  rintro e w1 ⟨rfl, ⟨F1, G1, hB1⟩, hK1⟩
  have H2 : Hid (Calls Tryd.prog 27 #[ptr b] w1 fun r w' => r = .returned (.tuple #[]) ∧ (∃ P', Es Z (fun k => K0 k ∨ k = A ∨ k = B) w' s b room P') ∧ Keeps (fun k => Z ≤ k ∧ ¬ (K0 k ∨ k = A ∨ k = B)) w1 w') := by
    obtain ⟨u, v, hr⟩ := hB1.rf
    refine (rclear_any b room _ _ u v G1 w1 hr).mono fun r w' ⟨q1, q2⟩ => ?_
    obtain ⟨⟨G', h1⟩, h2⟩ := hB1.right q2
    exact ⟨q1, ⟨[], F1, G', h1⟩, h2⟩
  have HKc : Hid (Keeps (fun k => Z ≤ k ∧ ¬ (K0 k ∨ k = A ∨ k = B)) W w1) := hK1
  obtain ⟨x0, x1, y0, y1, y2⟩ := HC.out w1 hK1
  clear hB1 hK1 H1
  go_wp2_with fail
  refine H2.out.mono ?_
  rintro e w2 ⟨rfl, hP, hK2⟩
  have HF : Hid ((∃ P', Es Z K0 w2 s b room P') ∧ Keeps (fun k => Z ≤ k ∧ ¬ K0 k) w w2) := ⟨HLs.out _ hP, HKK.out _ (HKc.out.trans hK2 fun _ _ e => e)⟩
  clear hP hK2 H2 x0 x1 y0 y1 y2
  go_wp2
  go_ret
  exact ⟨rfl, HF.out⟩

set_option maxHeartbeats 4000000 in
theorem one_room (Z s b room : Nat) (K0 : Nat → Prop) (P : List (Int × ByteArray)) (key : Int) (t : ByteArray) (w : World) (h : Es Z K0 w s b room P) (hk : I64 key) :
    Calls Tryd.prog 7 #[.agg #[ptr s, ptr b], .agg #[.int .i64 5, .int .i64 key, .string t]] w fun r w' => r = .returned (.bool true) ∧ (∃ P', Es Z K0 w' s b room P') ∧ Keeps (fun k => Z ≤ k ∧ ¬ K0 k) w w' := by
  obtain ⟨A, B, W, HX, HAB, HE, HC, HK0⟩ := one_head Z s b room K0 P 5 key t w h
  have HI : Hid (I64 key) := hk
  have HKK : Hid (∀ W', Keeps (fun k => Z ≤ k ∧ ¬ (K0 k ∨ k = A ∨ k = B)) W W' → Keeps (fun k => Z ≤ k ∧ ¬ K0 k) w W') := fun W' hK => (HK0.out.1.mono fun _ _ h => h.elim).trans hK fun k _ e => ⟨e.1, fun h => e.2 (.inl h)⟩
  have HLs : Hid (∀ W', (∃ P', Es Z (fun k => K0 k ∨ k = A ∨ k = B) W' s b room P') → ∃ P', Es Z K0 W' s b room P') := fun W' ⟨P', hP⟩ => ⟨P', hP.less fun _ h => .inl h⟩
  clear h hk
  go_enter Tryd.func7, Tryd.ntmps7
  go_upto_region 1 with fail
  rw [HX.out, HAB.out.1, HAB.out.2]
  obtain ⟨x0, x1, y0, y1, y2⟩ := HC.out W (Keeps.refl _ _)
  have H1 : Hid (Calls Tryd.prog 11 #[ptr s] W.drew fun r w' => r = .returned (.int .i64 (room : Nat)) ∧ w' = W.drew) := by
    obtain ⟨F, G, hB⟩ := HE.out.kept ((Keeps.refl (fun _ => False) W).drew)
    have := room_any s room (kvP P) F W.drew hB.sf
    exact this
  have H2 : Hid (Calls Tryd.prog 12 #[ptr b] W.drew fun r w' => r = .returned (.int .i64 (room : Nat)) ∧ w' = W.drew) := by
    obtain ⟨F, G, hB⟩ := HE.out.kept ((Keeps.refl (fun _ => False) W).drew)
    obtain ⟨u, v, hr⟩ := hB.rf
    have := rroom_any b room _ _ u v G W.drew hr
    exact this
  have HKc : Hid (Keeps (fun k => Z ≤ k ∧ ¬ (K0 k ∨ k = A ∨ k = B)) W W) := Keeps.refl _ _
  go_upto_region 22 with fail
  clear x0 x1 y0 y1 y2
  obtain ⟨x0, x1, y0, y1, y2⟩ := HC.out W.drew (HKc.out.drew)
  have hS : (fun w' : World => w'.cell? ⟨A, 0, none⟩ = some (ptr s) ∧ w'.cell? ⟨A, 1, none⟩ = some (ptr b) ∧ w'.cell? ⟨B, 1, none⟩ = some (.int .i64 key) ∧ w'.cell? ⟨B, 2, none⟩ = some (.string t)) W.drew := ⟨x0, x1, y1, y2⟩
  refine wp_region_held_drew (S := (fun w' => w'.cell? ⟨A, 0, none⟩ = some (ptr s) ∧ w'.cell? ⟨A, 1, none⟩ = some (ptr b) ∧ w'.cell? ⟨B, 1, none⟩ = some (.int .i64 key) ∧ w'.cell? ⟨B, 2, none⟩ = some (.string t))) (by kernel_rfl) hS (fun hHeld => ?_)
  simp only [List.size_toArray, List.length_cons, List.length_nil, Nat.reduceAdd, Array.replicate_succ, Array.replicate_zero, List.push_toArray, List.append_toArray, List.nil_append, List.cons_append]
  refine tk 0 (.pointer (some ⟨A, 0, none⟩)) hHeld ?_
  simp only [Act.put, List.setIfInBounds_toArray, List.set_cons_zero, List.set_cons_succ]
  refine tk 1 (ptr s) hHeld ?_
  simp only [Act.put, List.setIfInBounds_toArray, List.set_cons_zero, List.set_cons_succ]
  refine tk 3 (.pointer (some ⟨A, 1, none⟩)) hHeld ?_
  simp only [Act.put, List.setIfInBounds_toArray, List.set_cons_zero, List.set_cons_succ]
  refine tk 4 (ptr b) hHeld ?_
  simp only [Act.put, List.setIfInBounds_toArray, List.set_cons_zero, List.set_cons_succ]
  refine wpAnyH_ready (rs := [2]) (by kernel_rfl) (by simp) ?_
  refine AllReadyH.cons rfl (fun Kq hK => ?_) AllReadyH.nil
  go_simp
  refine H1.out.mono ?_
  rintro e w1 ⟨rfl, hw⟩
  obtain rfl := hw.symm
  clear hw
  refine hK.out _ _ hS (fun hHeld => ?_)
  simp only [Act.put, List.setIfInBounds_toArray, List.set_cons_zero, List.set_cons_succ]
  refine wpAnyH_ready (rs := [5]) (by kernel_rfl) (by simp) ?_
  refine AllReadyH.cons rfl (fun Kq hK => ?_) AllReadyH.nil
  go_simp
  refine H2.out.mono ?_
  rintro e w1 ⟨rfl, hw⟩
  obtain rfl := hw.symm
  clear hw
  refine hK.out _ _ hS (fun hHeld => ?_)
  simp only [Act.put, List.setIfInBounds_toArray, List.set_cons_zero, List.set_cons_succ]
  refine tk 6 (.bool true) hHeld ?_
  simp only [Act.put, List.setIfInBounds_toArray, List.set_cons_zero, List.set_cons_succ]
  refine tk 7 (.bool true) hHeld ?_
  simp only [Act.put, List.setIfInBounds_toArray, List.set_cons_zero, List.set_cons_succ]
  refine wpAnyH_done (by kernel_rfl) ?_ _
  clear hHeld hS x0 x1 y0 y1 y2
  have HF : Hid ((∃ P', Es Z K0 W.drew s b room P') ∧ Keeps (fun k => Z ≤ k ∧ ¬ K0 k) w W.drew) := ⟨HLs.out _ ⟨P, HE.out.kept ((Keeps.refl (fun _ => False) W).drew)⟩, HKK.out _ HKc.out.drew⟩
  go_wp2
  go_ret
  exact ⟨rfl, HF.out⟩

set_option maxHeartbeats 4000000 in
theorem one_len (Z s b room : Nat) (K0 : Nat → Prop) (P : List (Int × ByteArray)) (key : Int) (t : ByteArray) (w : World) (h : Es Z K0 w s b room P) (hk : I64 key) :
    Calls Tryd.prog 7 #[.agg #[ptr s, ptr b], .agg #[.int .i64 6, .int .i64 key, .string t]] w fun r w' => r = .returned (.bool true) ∧ (∃ P', Es Z K0 w' s b room P') ∧ Keeps (fun k => Z ≤ k ∧ ¬ K0 k) w w' := by
  obtain ⟨A, B, W, HX, HAB, HE, HC, HK0⟩ := one_head Z s b room K0 P 6 key t w h
  have HI : Hid (I64 key) := hk
  have HKK : Hid (∀ W', Keeps (fun k => Z ≤ k ∧ ¬ (K0 k ∨ k = A ∨ k = B)) W W' → Keeps (fun k => Z ≤ k ∧ ¬ K0 k) w W') := fun W' hK => (HK0.out.1.mono fun _ _ h => h.elim).trans hK fun k _ e => ⟨e.1, fun h => e.2 (.inl h)⟩
  have HLs : Hid (∀ W', (∃ P', Es Z (fun k => K0 k ∨ k = A ∨ k = B) W' s b room P') → ∃ P', Es Z K0 W' s b room P') := fun W' ⟨P', hP⟩ => ⟨P', hP.less fun _ h => .inl h⟩
  clear h hk
  go_enter Tryd.func7, Tryd.ntmps7
  go_upto_region 1 with fail
  rw [HX.out, HAB.out.1, HAB.out.2]
  obtain ⟨x0, x1, y0, y1, y2⟩ := HC.out W (Keeps.refl _ _)
  have H1 : Hid (Calls Tryd.prog 9 #[ptr s] W.drew fun r w' => r = .returned (.int .i64 (P.length : Nat)) ∧ w' = W.drew) := by
    obtain ⟨F, G, hB⟩ := HE.out.kept ((Keeps.refl (fun _ => False) W).drew)
    have := len_any s room (kvP P) F W.drew hB.sf
    simp [kvP] at this; exact this
  have H2 : Hid (Calls Tryd.prog 10 #[ptr b] W.drew fun r w' => r = .returned (.int .i64 (P.length : Nat)) ∧ w' = W.drew) := by
    obtain ⟨F, G, hB⟩ := HE.out.kept ((Keeps.refl (fun _ => False) W).drew)
    obtain ⟨u, v, hr⟩ := hB.rf
    have := rlen_any b room _ _ u v G W.drew hr
    simp [ksP] at this; exact this
  have HKc : Hid (Keeps (fun k => Z ≤ k ∧ ¬ (K0 k ∨ k = A ∨ k = B)) W W) := Keeps.refl _ _
  go_upto_region 24 with fail
  clear x0 x1 y0 y1 y2
  obtain ⟨x0, x1, y0, y1, y2⟩ := HC.out W.drew (HKc.out.drew)
  have hS : (fun w' : World => w'.cell? ⟨A, 0, none⟩ = some (ptr s) ∧ w'.cell? ⟨A, 1, none⟩ = some (ptr b) ∧ w'.cell? ⟨B, 1, none⟩ = some (.int .i64 key) ∧ w'.cell? ⟨B, 2, none⟩ = some (.string t)) W.drew := ⟨x0, x1, y1, y2⟩
  refine wp_region_held_drew (S := (fun w' => w'.cell? ⟨A, 0, none⟩ = some (ptr s) ∧ w'.cell? ⟨A, 1, none⟩ = some (ptr b) ∧ w'.cell? ⟨B, 1, none⟩ = some (.int .i64 key) ∧ w'.cell? ⟨B, 2, none⟩ = some (.string t))) (by kernel_rfl) hS (fun hHeld => ?_)
  simp only [List.size_toArray, List.length_cons, List.length_nil, Nat.reduceAdd, Array.replicate_succ, Array.replicate_zero, List.push_toArray, List.append_toArray, List.nil_append, List.cons_append]
  refine tk 0 (.pointer (some ⟨A, 0, none⟩)) hHeld ?_
  simp only [Act.put, List.setIfInBounds_toArray, List.set_cons_zero, List.set_cons_succ]
  refine tk 1 (ptr s) hHeld ?_
  simp only [Act.put, List.setIfInBounds_toArray, List.set_cons_zero, List.set_cons_succ]
  refine tk 3 (.pointer (some ⟨A, 1, none⟩)) hHeld ?_
  simp only [Act.put, List.setIfInBounds_toArray, List.set_cons_zero, List.set_cons_succ]
  refine tk 4 (ptr b) hHeld ?_
  simp only [Act.put, List.setIfInBounds_toArray, List.set_cons_zero, List.set_cons_succ]
  refine wpAnyH_ready (rs := [2]) (by kernel_rfl) (by simp) ?_
  refine AllReadyH.cons rfl (fun Kq hK => ?_) AllReadyH.nil
  go_simp
  refine H1.out.mono ?_
  rintro e w1 ⟨rfl, hw⟩
  obtain rfl := hw.symm
  clear hw
  refine hK.out _ _ hS (fun hHeld => ?_)
  simp only [Act.put, List.setIfInBounds_toArray, List.set_cons_zero, List.set_cons_succ]
  refine wpAnyH_ready (rs := [5]) (by kernel_rfl) (by simp) ?_
  refine AllReadyH.cons rfl (fun Kq hK => ?_) AllReadyH.nil
  go_simp
  refine H2.out.mono ?_
  rintro e w1 ⟨rfl, hw⟩
  obtain rfl := hw.symm
  clear hw
  refine hK.out _ _ hS (fun hHeld => ?_)
  simp only [Act.put, List.setIfInBounds_toArray, List.set_cons_zero, List.set_cons_succ]
  refine tk 6 (.bool true) hHeld ?_
  simp only [Act.put, List.setIfInBounds_toArray, List.set_cons_zero, List.set_cons_succ]
  refine tk 7 (.bool true) hHeld ?_
  simp only [Act.put, List.setIfInBounds_toArray, List.set_cons_zero, List.set_cons_succ]
  refine wpAnyH_done (by kernel_rfl) ?_ _
  clear hHeld hS x0 x1 y0 y1 y2
  have HF : Hid ((∃ P', Es Z K0 W.drew s b room P') ∧ Keeps (fun k => Z ≤ k ∧ ¬ K0 k) w W.drew) := ⟨HLs.out _ ⟨P, HE.out.kept ((Keeps.refl (fun _ => False) W).drew)⟩, HKK.out _ HKc.out.drew⟩
  go_wp2
  go_ret
  exact ⟨rfl, HF.out⟩

set_option maxHeartbeats 4000000 in
theorem one_all (Z s b room : Nat) (K0 : Nat → Prop) (P : List (Int × ByteArray)) (key : Int) (t : ByteArray) (w : World) (h : Es Z K0 w s b room P) (hk : I64 key) :
    Calls Tryd.prog 7 #[.agg #[ptr s, ptr b], .agg #[.int .i64 7, .int .i64 key, .string t]] w fun r w' => r = .returned (.bool true) ∧ (∃ P', Es Z K0 w' s b room P') ∧ Keeps (fun k => Z ≤ k ∧ ¬ K0 k) w w' := by
  obtain ⟨A, B, W, HX, HAB, HE, HC, HK0⟩ := one_head Z s b room K0 P 7 key t w h
  have HI : Hid (I64 key) := hk
  have HKK : Hid (∀ W', Keeps (fun k => Z ≤ k ∧ ¬ (K0 k ∨ k = A ∨ k = B)) W W' → Keeps (fun k => Z ≤ k ∧ ¬ K0 k) w W') := fun W' hK => (HK0.out.1.mono fun _ _ h => h.elim).trans hK fun k _ e => ⟨e.1, fun h => e.2 (.inl h)⟩
  have HLs : Hid (∀ W', (∃ P', Es Z (fun k => K0 k ∨ k = A ∨ k = B) W' s b room P') → ∃ P', Es Z K0 W' s b room P') := fun W' ⟨P', hP⟩ => ⟨P', hP.less fun _ h => .inl h⟩
  clear h hk
  go_enter Tryd.func7, Tryd.ntmps7
  go_upto_region 1 with fail
  rw [HX.out, HAB.out.1, HAB.out.2]
  obtain ⟨x0, x1, y0, y1, y2⟩ := HC.out W (Keeps.refl _ _)
  have H1 : Hid (Calls _ _ _ _ _) := all8_any Z s b room P W (HE.out.less fun _ h => h.elim)
  have HRa : Hid (W.rangeAt A 0 [ptr s, ptr b]) := fun j v hv => by rw [Nat.zero_add]; exact HK0.out.2.cell hv
  go_wp2_with fail
  refine H1.out.mono ?_
  rintro e w1 ⟨rfl, hK1⟩
  have HF : Hid ((∃ P', Es Z K0 w1 s b room P') ∧ Keeps (fun k => Z ≤ k ∧ ¬ K0 k) w w1) := ⟨HLs.out _ ⟨P, HE.out.kept hK1⟩, HKK.out _ (hK1.mono fun _ _ h => h.elim)⟩
  clear hK1 H1
  go_wp2
  go_ret
  exact ⟨rfl, HF.out⟩

set_option maxHeartbeats 4000000 in
theorem one_else (Z s b room : Nat) (K0 : Nat → Prop) (P : List (Int × ByteArray)) (key : Int) (t : ByteArray) (kind : Int) (hn : kind ≠ 0 ∧ kind ≠ 1 ∧ kind ≠ 2 ∧ kind ≠ 3 ∧ kind ≠ 4 ∧ kind ≠ 5 ∧ kind ≠ 6 ∧ kind ≠ 7) (w : World) (h : Es Z K0 w s b room P) (hk : I64 key) :
    Calls Tryd.prog 7 #[.agg #[ptr s, ptr b], .agg #[.int .i64 kind, .int .i64 key, .string t]] w fun r w' => r = .returned (.bool true) ∧ (∃ P', Es Z K0 w' s b room P') ∧ Keeps (fun k => Z ≤ k ∧ ¬ K0 k) w w' := by
  obtain ⟨A, B, W, HX, HAB, HE, HC, HK0⟩ := one_head Z s b room K0 P kind key t w h
  have HI : Hid (I64 key) := hk
  have HKK : Hid (∀ W', Keeps (fun k => Z ≤ k ∧ ¬ (K0 k ∨ k = A ∨ k = B)) W W' → Keeps (fun k => Z ≤ k ∧ ¬ K0 k) w W') := fun W' hK => (HK0.out.1.mono fun _ _ h => h.elim).trans hK fun k _ e => ⟨e.1, fun h => e.2 (.inl h)⟩
  have HLs : Hid (∀ W', (∃ P', Es Z (fun k => K0 k ∨ k = A ∨ k = B) W' s b room P') → ∃ P', Es Z K0 W' s b room P') := fun W' ⟨P', hP⟩ => ⟨P', hP.less fun _ h => .inl h⟩
  clear h hk
  go_enter Tryd.func7, Tryd.ntmps7
  go_upto_region 1 with fail
  rw [HX.out, HAB.out.1, HAB.out.2]
  obtain ⟨x0, x1, y0, y1, y2⟩ := HC.out W (Keeps.refl _ _)
  have k0 : (kind == 0) = false := by simpa using hn.1
  have k1 : (kind == 1) = false := by simpa using hn.2.1
  have k2 : (kind == 2) = false := by simpa using hn.2.2.1
  have k3 : (kind == 3) = false := by simpa using hn.2.2.2.1
  have k4 : (kind == 4) = false := by simpa using hn.2.2.2.2.1
  have k5 : (kind == 5) = false := by simpa using hn.2.2.2.2.2.1
  have k6 : (kind == 6) = false := by simpa using hn.2.2.2.2.2.2.1
  have k7 : (kind == 7) = false := by simpa using hn.2.2.2.2.2.2.2
  clear hn
  go_wp2
  go_ret
  exact ⟨rfl, HLs.out _ ⟨P, HE.out⟩, HKK.out _ (Keeps.refl _ _)⟩

theorem one_any (Z s b room : Nat) (K0 : Nat → Prop) (P : List (Int × ByteArray)) (kind key : Int) (t : ByteArray) (w : World) (h : Es Z K0 w s b room P) (hk : I64 key) :
    Calls Tryd.prog 7 #[.agg #[ptr s, ptr b], .agg #[.int .i64 kind, .int .i64 key, .string t]] w fun r w' => r = .returned (.bool true) ∧ (∃ P', Es Z K0 w' s b room P') ∧ Keeps (fun k => Z ≤ k ∧ ¬ K0 k) w w' := by
  by_cases k0 : kind = 0
  · subst k0; exact one_put Z s b room K0 P key t w h hk
  by_cases k1 : kind = 1
  · subst k1; exact one_get Z s b room K0 P key t w h hk
  by_cases k2 : kind = 2
  · subst k2; exact one_peek Z s b room K0 P key t w h hk
  by_cases k3 : kind = 3
  · subst k3; exact one_drop Z s b room K0 P key t w h hk
  by_cases k4 : kind = 4
  · subst k4; exact one_clear Z s b room K0 P key t w h hk
  by_cases k5 : kind = 5
  · subst k5; exact one_room Z s b room K0 P key t w h hk
  by_cases k6 : kind = 6
  · subst k6; exact one_len Z s b room K0 P key t w h hk
  by_cases k7 : kind = 7
  · subst k7; exact one_all Z s b room K0 P key t w h hk
  exact one_else Z s b room K0 P key t kind ⟨k0, k1, k2, k3, k4, k5, k6, k7⟩ w h hk

end Go.Proofs.YtbddahdbadkobaaDoor
