import Derived.Test.YtipejahmjdamjaaGreatDoorPg
import Derived.Handy
namespace Go.Proofs.YtipejahmjdamjaaGreatDoor
open Go.RowKit
set_option linter.unusedVariables false

/-- Is it one of the first so many? -/
def inR (n m : Int) : Bool := decide (0 ≤ n) && decide (n < m)
theorem inR_true {n m : Int} (h1 : 0 ≤ n) (h2 : n < m) : inR n m = true := by simp [inR, h1, h2]
theorem inR_false {n m : Int} (h : ¬ (0 ≤ n ∧ n < m)) : inR n m = false := by
  rw [Bool.eq_false_iff]; intro e; simp [inR] at e; exact h e
theorem inR_iff {n m : Int} : inR n m = true ↔ 0 ≤ n ∧ n < m := by simp [inR]

theorem ret_two {k k' : IntKind} {a b c d : Int} (h : a = b) (h' : c = d) : Ending.returned (.tuple #[.int k a, .int k' c]) = .returned (.tuple #[.int k b, .int k' d]) := by rw [h, h']
theorem ret_three {k k' : IntKind} {a b c d : Int} {x y : Bool} (h : a = b) (h' : c = d) (h'' : x = y) : Ending.returned (.tuple #[.int k a, .int k' c, .bool x]) = .returned (.tuple #[.int k b, .int k' d, .bool y]) := by rw [h, h', h'']

set_option maxHeartbeats 400000 in
theorem within_any (n m : Int) (w : World) : Calls Tryz.prog 65 #[.int .i64 n, .int .i64 m] w fun e w' => e = .returned (.bool (inR n m)) ∧ w' = w := by
  by_cases h1 : 0 ≤ n <;> by_cases h2 : n < m
  all_goals
    go_enter Tryz.func65, Tryz.ntmps65
    go_wp2
    go_ret
    exact ⟨ret_bool (by simp [inR, h1, h2]), rfl⟩

set_option maxHeartbeats 400000 in
theorem rights_any (n : Int) (w : World) : Calls Tryz.prog 67 #[.int .i64 n] w fun e w' => e = .returned (.bool (inR n 8)) ∧ w' = w := by
  have HC : Hid (Calls _ _ _ _ _) := within_any n 8 w
  go_enter Tryz.func67, Tryz.ntmps67
  go_wp2_with fail
  refine HC.out.mono ?_
  rintro e w1 ⟨rfl, hw⟩
  obtain rfl := hw.symm
  clear hw
  go_wp2
  go_ret
  exact ⟨rfl, rfl⟩

theorem or_int (f r : Nat) (hf : f < 1024) (hr : r < 8) : bits .or .u32 (bits .or .u32 2147483648 ((f : Int) * 8)) (r : Int) = ((enc f r).toNat : Int) := by
  have e1 : (f : Int) * (8 : Int) = ((f <<< 3 : Nat) : Int) := by rw [Nat.shiftLeft_eq]; omega
  have e2 : (2147483648 : Int) = ((2147483648 : Nat) : Int) := rfl
  have hs : f <<< 3 < 4294967296 := by rw [Nat.shiftLeft_eq]; omega
  have ho : 2147483648 ||| f <<< 3 < 4294967296 := Nat.or_lt_two_pow (n := 32) (by decide) hs
  rw [show ((f : Int) * (8 : Int)) = ((f <<< 3 : Nat) : Int) from e1, e2, u32_or_nat _ _ (by omega) hs, u32_or_nat _ _ ho (by omega), or_shape f r hf hr, enc_nat f r hf hr]

theorem and_int (x : Nat) (h : x < 4294967296) : bits .and .u32 (x : Int) 2147483648 = if isT x then 2147483648 else 0 := by
  have e2 : (2147483648 : Int) = ((2147483648 : Nat) : Int) := rfl
  rw [e2, u32_and_nat _ _ h (by omega), and_top x h]
  split <;> rfl
theorem and_int7 (x : Nat) (h : x < 4294967296) : bits .and .u32 (x : Int) 7 = ((x % 8 : Nat) : Int) := by
  have e2 : (7 : Int) = ((2 ^ 3 - 1 : Nat) : Int) := rfl
  rw [e2, u32_and_nat _ _ h (by omega), Nat.and_two_pow_sub_one_eq_mod]
theorem and_int1023 (x : Nat) (h : x < 4294967296) : bits .and .u32 ((x : Int) / 8) 1023 = ((x / 8 % 1024 : Nat) : Int) := by
  have e2 : (1023 : Int) = ((2 ^ 10 - 1 : Nat) : Int) := rfl
  have e3 : (x : Int) / 8 = ((x / 8 : Nat) : Int) := by omega
  rw [e2, e3, u32_and_nat _ _ (by omega) (by omega), Nat.and_two_pow_sub_one_eq_mod]

set_option maxHeartbeats 400000 in
theorem decode_any (x : Nat) (w : World) (hx : x < 4294967296) : Calls Tryz.prog 37 #[.int .u32 x] w fun e w' => e = .returned (.tuple #[.int .i64 (frm x : Nat), .int .i64 (rts x : Nat), .bool (isT x)]) ∧ w' = w := by
  have h1 := and_int x hx
  by_cases ht : isT x = true
  · have h2 : (bits .and .u32 (x : Int) 2147483648 == 0) = false := by rw [h1, if_pos ht]; rfl
    have h3 := and_int7 x hx
    have h4 := and_int1023 x hx
    rw [show frm x = x / 8 % 1024 from if_pos ht, show rts x = x % 8 from if_pos ht, ht]
    have H3 : Hid (_ = _) := h3
    have H4 : Hid (_ = _) := h4
    clear h1 ht h3 h4
    go_enter Tryz.func37, Tryz.ntmps37
    go_wp2
    go_ret3
    exact ⟨ret_three (by rw [H4.out]; go_arith) (by rw [H3.out]; go_arith) rfl, rfl⟩
  · have h2 : (bits .and .u32 (x : Int) 2147483648 == 0) = true := by rw [h1, if_neg ht]; rfl
    rw [show frm x = 0 from if_neg ht, show rts x = 0 from if_neg ht, Bool.eq_false_iff.2 ht]
    clear h1 ht
    go_enter Tryz.func37, Tryz.ntmps37
    go_wp2
    go_ret3
    exact ⟨rfl, rfl⟩

end Go.Proofs.YtipejahmjdamjaaGreatDoor
namespace Go.Proofs.YtipejahmjdamjaaGreatDoor
open Go.RowKit
set_option linter.unusedVariables false

abbrev Lf.v (l : Lf) : Value := .agg #[.int .i64 l.page, .int .i64 l.frame, .int .i64 l.rights]
abbrev Lf.vs (l : Lf) : List Value := [.int .i64 l.page, .int .i64 l.frame, .int .i64 l.rights]

/-- A leaf is written into its block. -/
abbrev setLf (w : World) (b : Nat) (l : Lf) : World := ((w.setCell ⟨b, 0, none⟩ (.int .i64 l.page)).setCell ⟨b, 1, none⟩ (.int .i64 l.frame)).setCell ⟨b, 2, none⟩ (.int .i64 l.rights)
theorem Blk.setLf {w : World} {b : Nat} {l0 : Lf} {t : TypeId} (h : Blk w b l0.vs t) (l : Lf) : Blk (setLf w b l) b l.vs t := by
  have := ((h.setCell 0 (.int .i64 l.page)).setCell 1 (.int .i64 l.frame)).setCell 2 (.int .i64 l.rights)
  simpa using this
theorem Keeps.setLf {S : Nat → Prop} {w w' : World} (h : Keeps S w w') (b : Nat) (l : Lf) (hb : b < w.heap.size → S b) : Keeps S w (setLf w' b l) :=
  ((h.setCell _ _ hb).setCell _ _ hb).setCell _ _ hb

theorem load_leaf {w : World} {b : Nat} {l : Lf} (h : Blk w b l.vs 64) : (loadVar 64 ⟨b, 0, none⟩).run Tryz.prog w = .ok l.v w :=
  run_loadVar_row w b 64 64 _ _ _ h Tryz.underlying64 (by simp) (by kernel_rfl)

theorem results_cell_tmp {P : Program} {fn : Func} {p u : Tmp} {ty : TypeId} (h : fn.results = #[.cell p ty, .tmp u]) (tmps : Array Value) (w : World) (a : Addr) (v : Value)
    (hp : tmps.getD p undef = .pointer (some a)) (hl : (loadVar ty a).run P w = .ok v w) : (results fn tmps).run P w = .ok (.tuple #[v, tmps.getD u undef]) w := by
  have hp' : tmps[p]?.getD undef = .pointer (some a) := by simpa using hp
  simp [results, h, hp', asAddr, hl]

/-- A memory of n frames. -/
structure Mn (w : World) (b g n : Nat) (xs : List UInt32) : Prop where
  mm : Mm w b g xs
  len : xs.length = n * 16
theorem Mn.kept {S : Nat → Prop} {w w' : World} {b g n : Nat} {xs : List UInt32} (h : Mn w b g n xs) (k : Keeps S w w') (hb : ¬ S b) (hg : ¬ S g) : Mn w' b g n xs := ⟨h.mm.kept k hb hg, h.len⟩
theorem Mn.grown {w w' : World} {b g n : Nat} {xs : List UInt32} (h : Mn w b g n xs) (k : Keeps (fun _ => False) w w') : Mn w' b g n xs := h.kept k (fun e => e) fun e => e
theorem Mn.n_le {w : World} {b g n : Nat} {xs : List UInt32} (h : Mn w b g n xs) : n ≤ 1024 := by have := h.mm.small; have := h.len; omega

set_option maxHeartbeats 400000 in
theorem has_any (b g n : Nat) (xs : List UInt32) (f : Int) (w : World) (h : Mn w b g n xs) :
    Calls Tryz.prog 64 #[.pointer (some ⟨b, 0, none⟩), .int .i64 f] w fun e w' => e = .returned (.bool (inR f n)) ∧ w' = w := by
  have H1 : Hid (Calls _ _ _ _ _) := frames_any b g xs n w h.mm h.len
  have H2 : Hid (Calls _ _ _ _ _) := within_any f n w
  clear h
  go_enter Tryz.func64, Tryz.ntmps64
  go_wp2_with fail
  refine H1.out.mono ?_
  rintro e w1 ⟨rfl, hw⟩
  obtain rfl := hw.symm
  clear hw
  go_wp2_with fail
  refine H2.out.mono ?_
  rintro e w1 ⟨rfl, hw⟩
  obtain rfl := hw.symm
  clear hw
  go_wp2
  go_ret
  exact ⟨rfl, rfl⟩

theorem getD_toNat (xs : List UInt32) (i : Nat) (h : i < xs.length) : (xs.getD i 0) = xs[i] := by simp [List.getD, h]
theorem nat_lt (x : UInt32) : x.toNat < 4294967296 := x.toNat_lt

theorem isT_nm {n x : Nat} (h : isT x = false) : nmE n x = 92 ∧ nmF n x = 0 ∧ nmR n x = 0 := by
  have : nmE n x = 92 := by unfold nmE; rw [h]; rfl
  refine ⟨this, ?_, ?_⟩
  · unfold nmF; rw [this]; rfl
  · unfold nmR; rw [this]; rfl
theorem out_nm {n x : Nat} (h : isT x = true) (hf : ¬ frm x < n) : nmE n x = 91 ∧ nmF n x = 0 ∧ nmR n x = 0 := by
  have : nmE n x = 91 := by unfold nmE; rw [h, if_pos rfl, if_neg hf]
  refine ⟨this, ?_, ?_⟩
  · unfold nmF; rw [this]; rfl
  · unfold nmR; rw [this]; rfl
theorem in_nm {n x : Nat} (h : isT x = true) (hf : frm x < n) : nmE n x = 0 ∧ nmF n x = frm x ∧ nmR n x = rts x := by
  have : nmE n x = 0 := by unfold nmE; rw [h, if_pos rfl, if_pos hf]
  refine ⟨this, ?_, ?_⟩
  · unfold nmF; rw [if_pos this]
  · unfold nmR; rw [if_pos this]

set_option maxHeartbeats 800000 in
theorem named_any (b g n : Nat) (xs : List UInt32) (t i : Nat) (w : World) (h : Mn w b g n xs) (ht : t < n) (hi : i < 16) (x : Nat) (hx : x = (xs.getD (16 * t + i) 0).toNat) :
    Calls Tryz.prog 66 #[.pointer (some ⟨b, 0, none⟩), .int .i64 t, .int .i64 i] w fun e w' => e = .returned (.tuple #[.int .i64 (nmF n x : Nat), .int .i64 (nmR n x : Nat), .int .i64 (nmE n x : Nat)]) ∧ w' = w := by
  have hl := h.len
  have hn := h.n_le
  have hlt : 16 * t + i < xs.length := by omega
  have H1 := read_in b g xs (16 * t + i) w h.mm hlt
  rw [← getD_toNat xs _ hlt, ← hx] at H1
  have e1 : ((16 * t + i : Nat) : Int) = (t : Int) * 16 + i := by omega
  rw [e1] at H1
  have hxl : x < 4294967296 := by rw [hx]; exact nat_lt _
  have H2 : Hid (Calls _ _ _ _ _) := decode_any x w hxl
  have H3 := has_any b g n xs (frm x) w h
  have H1 : Hid (Calls _ _ _ _ _) := H1
  have q1 : (t : Int) < 1024 := by omega
  have q2 : (i : Int) < 16 := by omega
  clear h hl hn hlt e1 hxl hx ht hi
  by_cases c1 : isT x = true
  · by_cases c2 : frm x < n
    · obtain ⟨d1, d2, d3⟩ := in_nm c1 c2
      rw [d1, d2, d3]
      rw [inR_true (by omega) (by omega)] at H3
      have H3 : Hid (Calls _ _ _ _ _) := H3
      rw [c1] at H2
      clear c1 c2 d1 d2 d3
      obtain ⟨F, hF⟩ : ∃ F, F = frm x := ⟨_, rfl⟩
      obtain ⟨R, hR⟩ : ∃ F, F = rts x := ⟨_, rfl⟩
      rw [← hF] at H2 H3 ⊢
      rw [← hR] at H2 ⊢
      clear hF hR
      go_enter Tryz.func66, Tryz.ntmps66
      go_wp2_with fail
      refine H1.out.mono ?_
      rintro e w1 ⟨rfl, hw⟩
      obtain rfl := hw.symm
      clear hw
      go_wp2_with fail
      refine H2.out.mono ?_
      rintro e w1 ⟨rfl, hw⟩
      obtain rfl := hw.symm
      clear hw
      go_wp2_with fail
      refine H3.out.mono ?_
      rintro e w1 ⟨rfl, hw⟩
      obtain rfl := hw.symm
      clear hw
      go_wp2
      go_ret3
      exact ⟨rfl, rfl⟩
    · obtain ⟨d1, d2, d3⟩ := out_nm c1 c2
      rw [d1, d2, d3]
      rw [inR_false (by omega)] at H3
      have H3 : Hid (Calls _ _ _ _ _) := H3
      rw [c1] at H2
      clear c1 c2 d1 d2 d3
      go_enter Tryz.func66, Tryz.ntmps66
      go_wp2_with fail
      refine H1.out.mono ?_
      rintro e w1 ⟨rfl, hw⟩
      obtain rfl := hw.symm
      clear hw
      go_wp2_with fail
      refine H2.out.mono ?_
      rintro e w1 ⟨rfl, hw⟩
      obtain rfl := hw.symm
      clear hw
      go_wp2_with fail
      refine H3.out.mono ?_
      rintro e w1 ⟨rfl, hw⟩
      obtain rfl := hw.symm
      clear hw
      go_wp2
      go_ret3
      exact ⟨rfl, rfl⟩
  · have c1 : isT x = false := Bool.eq_false_iff.2 c1
    obtain ⟨d1, d2, d3⟩ := isT_nm (n := n) c1
    rw [d1, d2, d3]
    rw [c1] at H2
    clear c1 d1 d2 d3 H3
    go_enter Tryz.func66, Tryz.ntmps66
    go_wp2_with fail
    refine H1.out.mono ?_
    rintro e w1 ⟨rfl, hw⟩
    obtain rfl := hw.symm
    clear hw
    go_wp2_with fail
    refine H2.out.mono ?_
    rintro e w1 ⟨rfl, hw⟩
    obtain rfl := hw.symm
    clear hw
    go_wp2
    go_ret3
    exact ⟨rfl, rfl⟩

end Go.Proofs.YtipejahmjdamjaaGreatDoor
namespace Go.Proofs.YtipejahmjdamjaaGreatDoor
open Go.RowKit
set_option linter.unusedVariables false

theorem nmE_cases (n x : Nat) : nmE n x = 0 ∨ nmE n x = 91 ∨ nmE n x = 92 := by
  unfold nmE; split
  · split
    · exact .inl rfl
    · exact .inr (.inl rfl)
  · exact .inr (.inr rfl)
theorem nmE_zero {n x : Nat} (h : nmE n x = 0) : isT x = true ∧ frm x < n ∧ nmF n x = frm x ∧ nmR n x = rts x := by
  by_cases c1 : isT x = true
  · by_cases c2 : frm x < n
    · exact ⟨c1, c2, (in_nm c1 c2).2⟩
    · rw [(out_nm c1 c2).1] at h; omega
  · rw [(isT_nm (Bool.eq_false_iff.2 c1)).1] at h; omega
theorem frm_lt (x : Nat) : frm x < 1024 := by unfold frm; split <;> omega
theorem rts_lt (x : Nat) : rts x < 8 := by unfold rts; split <;> omega

theorem walk_root {n : Nat} {xs : List UInt32} {root page : Int} (h : ¬ (0 ≤ root ∧ root < n)) : walkE n xs root page = 91 ∧ walkL n xs root page = lf0 := by
  have e : walkE n xs root page = 91 := by unfold walkE; rw [if_pos h]
  exact ⟨e, by unfold walkL; rw [e]; rfl⟩
theorem walk_page {n : Nat} {xs : List UInt32} {root page : Int} (h : 0 ≤ root ∧ root < n) (hp : ¬ (0 ≤ page ∧ page < 256)) : walkE n xs root page = 92 ∧ walkL n xs root page = lf0 := by
  have e : walkE n xs root page = 92 := by unfold walkE; rw [if_neg (fun k => k h), if_pos hp]
  exact ⟨e, by unfold walkL; rw [e]; rfl⟩
theorem walk_top {n : Nat} {xs : List UInt32} {root page : Int} (h : 0 ≤ root ∧ root < n) (hp : 0 ≤ page ∧ page < 256) (ht : ¬ nmE n (walkT n xs root page) = 0) : walkE n xs root page = nmE n (walkT n xs root page) ∧ walkL n xs root page = lf0 := by
  have e : walkE n xs root page = nmE n (walkT n xs root page) := by unfold walkE; rw [if_neg (fun k => k h), if_neg (fun k => k hp), if_neg ht]
  exact ⟨e, by unfold walkL; rw [e, if_neg ht]⟩
theorem walk_low {n : Nat} {xs : List UInt32} {root page : Int} (h : 0 ≤ root ∧ root < n) (hp : 0 ≤ page ∧ page < 256) (ht : nmE n (walkT n xs root page) = 0) : walkE n xs root page = nmE n (walkB n xs root page) := by
  unfold walkE; rw [if_neg (fun k => k h), if_neg (fun k => k hp), if_pos ht]

theorem walkE_cases (n : Nat) (xs : List UInt32) (root page : Int) : walkE n xs root page = 0 ∨ walkE n xs root page = 91 ∨ walkE n xs root page = 92 := by
  unfold walkE
  split
  · exact .inr (.inl rfl)
  · split
    · exact .inr (.inr rfl)
    · split
      · exact nmE_cases _ _
      · exact nmE_cases _ _

set_option maxHeartbeats 800000 in
theorem walk_nil (root page : Int) (w : World) : Calls Tryz.prog 31 #[.pointer none, .int .i64 root, .int .i64 page] w fun e w' => e = .returned (.tuple #[lf0.v, .int .i64 3]) ∧ Keeps (fun _ => False) w w' := by
  go_enter Tryz.func31, Tryz.ntmps31
  go_wp2
  refine bodyPost_ret (results_cell_tmp rfl _ _ _ lf0.v rfl (load_leaf (Blk.new w _ 64))) rfl ?_
  exact ⟨rfl, (Keeps.refl _ w).alloc _⟩

set_option maxHeartbeats 2000000 in
theorem walk_any (b g n : Nat) (xs : List UInt32) (root page : Int) (w : World) (h : Mn w b g n xs) :
    Calls Tryz.prog 31 #[.pointer (some ⟨b, 0, none⟩), .int .i64 root, .int .i64 page] w fun e w' =>
      e = .returned (.tuple #[(walkL n xs root page).v, .int .i64 (walkE n xs root page : Nat)]) ∧ Keeps (fun _ => False) w w' := by
  obtain ⟨W, hW⟩ : ∃ W, W = w.alloc (.cells #[.int .i64 0, .int .i64 0, .int .i64 0] 64) := ⟨_, rfl⟩
  have hB : Blk W w.heap.size lf0.vs 64 := by rw [hW]; exact Blk.new w _ 64
  have hK : Keeps (fun _ => False) w W := by rw [hW]; exact (Keeps.refl _ w).alloc _
  have hM := h.grown hK
  have H1 := has_any b g n xs root W hM
  have H2 := within_any page 256 W
  have c0 := hB.cell (i := 0) rfl
  have c1 := hB.cell (i := 1) rfl
  have c2 := hB.cell (i := 2) rfl
  have f0 := hB.frozen 0
  have f1 := hB.frozen 1
  have f2 := hB.frozen 2
  have HB : Hid (Blk W w.heap.size lf0.vs 64 ∧ Keeps (fun _ => False) w W) := ⟨hB, hK⟩
  have HE : Hid (W = w.alloc (.cells #[.int .i64 0, .int .i64 0, .int .i64 0] 64)) := hW
  have fin : ∀ l : Lf, Keeps (fun _ => False) w (setLf W w.heap.size l) := fun l => hK.setLf _ _ fun e => absurd e (Nat.lt_irrefl _)
  have HF : Hid (∀ l : Lf, Keeps (fun _ => False) w (setLf W w.heap.size l)) := fin
  clear fin hB hK h
  by_cases h1 : 0 ≤ root ∧ root < n
  · rw [inR_true h1.1 h1.2] at H1
    have H1 : Hid (Calls _ _ _ _ _) := H1
    by_cases h2 : 0 ≤ page ∧ page < 256
    · rw [inR_true h2.1 h2.2] at H2
      have H2 : Hid (Calls _ _ _ _ _) := H2
      obtain ⟨r, rfl⟩ := Int.eq_ofNat_of_zero_le h1.1
      obtain ⟨p, rfl⟩ := Int.eq_ofNat_of_zero_le h2.1
      obtain ⟨X, hX⟩ : ∃ X, X = walkT n xs (r : Int) (p : Int) := ⟨_, rfl⟩
      have H3 := named_any b g n xs r (p / 16) W hM (by omega) (by omega) X hX
      have hp0 : (p : Int) < 256 := by omega
      have e3 : ((p / 16 : Nat) : Int) = (p : Int) / 16 := by omega
      rw [e3] at H3
      have H3 : Hid (Calls _ _ _ _ _) := H3
      by_cases ht : nmE n X = 0
      · obtain ⟨_, ht2, ht3, _⟩ := nmE_zero ht
        obtain ⟨Y, hY⟩ : ∃ Y, Y = walkB n xs (r : Int) (p : Int) := ⟨_, rfl⟩
        have hY' : Y = (xs.getD (16 * frm X + p % 16) 0).toNat := by rw [hY, hX]; rfl
        have H4 := named_any b g n xs (frm X) (p % 16) W hM ht2 (by omega) Y hY'
        rw [walk_low h1 h2 (by rw [← hX]; exact ht), ← hY]
        rw [show walkL n xs (r : Int) (p : Int) = if nmE n Y = 0 then ⟨p, frm Y, rts Y⟩ else lf0 by
          unfold walkL; rw [walk_low h1 h2 (by rw [← hX]; exact ht), ← hY]; rfl]
        have e4 : ((p % 16 : Nat) : Int) = (p : Int) % 16 := by omega
        rw [e4, ← ht3] at H4
        obtain ⟨T, hT⟩ : ∃ T, T = nmF n X := ⟨_, rfl⟩
        rw [← hT] at H3 H4
        rw [ht] at H3
        have H4 : Hid (Calls _ _ _ _ _) := H4
        clear hT ht3 ht2 hY hY' hX e3 e4 h1 h2 hM ht hW
        by_cases hy : nmE n Y = 0
        · obtain ⟨_, _, hf, hr⟩ := nmE_zero hy
          rw [if_pos hy, hy]
          rw [hf, hr, hy] at H4
          have e5 : ∀ l : Lf, Hid (l = l) := fun l => rfl
          clear hf hr hy
          obtain ⟨F, hF⟩ : ∃ F, F = frm Y := ⟨_, rfl⟩
          obtain ⟨R, hR⟩ : ∃ R, R = rts Y := ⟨_, rfl⟩
          rw [← hF, ← hR] at H4 ⊢
          clear hF hR
          go_enter Tryz.func31, Tryz.ntmps31
          go_wp2_with fail
          rw [← HE.out]
          refine H1.out.mono ?_
          rintro e w1 ⟨rfl, hw⟩
          obtain rfl := hw.symm
          clear hw
          go_wp2_with fail
          refine H2.out.mono ?_
          rintro e w1 ⟨rfl, hw⟩
          obtain rfl := hw.symm
          clear hw
          go_wp2_with fail
          refine H3.out.mono ?_
          rintro e w1 ⟨rfl, hw⟩
          obtain rfl := hw.symm
          clear hw
          go_wp2_with fail
          refine H4.out.mono ?_
          rintro e w1 ⟨rfl, hw⟩
          obtain rfl := hw.symm
          clear hw
          go_wp2
          have HL : Hid (_ = _) := load_leaf (HB.out.1.setLf (⟨p, F, R⟩ : Lf))
          refine bodyPost_ret (results_cell_tmp (p := 6) (u := 7) (ty := 64) rfl _ _ ⟨w.heap.size, 0, none⟩ (⟨p, F, R⟩ : Lf).v rfl HL.out) rfl ?_
          exact ⟨rfl, HF.out (⟨p, F, R⟩ : Lf)⟩
        · rw [if_neg hy]
          obtain ⟨E, hE⟩ : ∃ E, E = nmE n Y := ⟨_, rfl⟩
          rw [← hE] at hy H4 ⊢
          have hy' : ((E : Int) != 0) = true := by rw [bne_iff_ne]; omega
          clear hE hy
          go_enter Tryz.func31, Tryz.ntmps31
          go_wp2_with fail
          rw [← HE.out]
          refine H1.out.mono ?_
          rintro e w1 ⟨rfl, hw⟩
          obtain rfl := hw.symm
          clear hw
          go_wp2_with fail
          refine H2.out.mono ?_
          rintro e w1 ⟨rfl, hw⟩
          obtain rfl := hw.symm
          clear hw
          go_wp2_with fail
          refine H3.out.mono ?_
          rintro e w1 ⟨rfl, hw⟩
          obtain rfl := hw.symm
          clear hw
          go_wp2_with fail
          refine H4.out.mono ?_
          rintro e w1 ⟨rfl, hw⟩
          obtain rfl := hw.symm
          clear hw
          go_wp2
          have HL : Hid (_ = _) := load_leaf (HB.out.1.setLf lf0)
          refine bodyPost_ret (results_cell_tmp (p := 6) (u := 7) (ty := 64) rfl _ _ ⟨w.heap.size, 0, none⟩ lf0.v rfl HL.out) rfl ?_
          exact ⟨rfl, HF.out lf0⟩
      · obtain ⟨q1, q2⟩ := walk_top h1 h2 (show ¬ nmE n (walkT n xs (r : Int) (p : Int)) = 0 by rw [← hX]; exact ht)
        rw [q1, q2, ← hX]
        obtain ⟨E, hE⟩ : ∃ E, E = nmE n X := ⟨_, rfl⟩
        rw [← hE] at ht H3 ⊢
        have hy' : ((E : Int) != 0) = true := by rw [bne_iff_ne]; omega
        clear hE ht q1 q2 hX e3 h1 h2 hM hW
        go_enter Tryz.func31, Tryz.ntmps31
        go_wp2_with fail
        rw [← HE.out]
        refine H1.out.mono ?_
        rintro e w1 ⟨rfl, hw⟩
        obtain rfl := hw.symm
        clear hw
        go_wp2_with fail
        refine H2.out.mono ?_
        rintro e w1 ⟨rfl, hw⟩
        obtain rfl := hw.symm
        clear hw
        go_wp2_with fail
        refine H3.out.mono ?_
        rintro e w1 ⟨rfl, hw⟩
        obtain rfl := hw.symm
        clear hw
        go_wp2
        have HL : Hid (_ = _) := load_leaf (HB.out.1.setLf lf0)
        refine bodyPost_ret (results_cell_tmp (p := 6) (u := 7) (ty := 64) rfl _ _ ⟨w.heap.size, 0, none⟩ lf0.v rfl HL.out) rfl ?_
        exact ⟨rfl, HF.out lf0⟩
    · rw [inR_false h2] at H2
      have H2 : Hid (Calls _ _ _ _ _) := H2
      obtain ⟨q1, q2⟩ := walk_page (xs := xs) h1 h2
      rw [q1, q2]
      clear q1 q2 h1 h2 hM hW
      go_enter Tryz.func31, Tryz.ntmps31
      go_wp2_with fail
      rw [← HE.out]
      refine H1.out.mono ?_
      rintro e w1 ⟨rfl, hw⟩
      obtain rfl := hw.symm
      clear hw
      go_wp2_with fail
      refine H2.out.mono ?_
      rintro e w1 ⟨rfl, hw⟩
      obtain rfl := hw.symm
      clear hw
      go_wp2
      have HL : Hid (_ = _) := load_leaf (HB.out.1.setLf lf0)
      refine bodyPost_ret (results_cell_tmp (p := 6) (u := 7) (ty := 64) rfl _ _ ⟨w.heap.size, 0, none⟩ lf0.v rfl HL.out) rfl ?_
      exact ⟨rfl, HF.out lf0⟩
  · rw [inR_false h1] at H1
    have H1 : Hid (Calls _ _ _ _ _) := H1
    obtain ⟨q1, q2⟩ := walk_root (xs := xs) (page := page) h1
    rw [q1, q2]
    clear q1 q2 h1 hM H2 hW
    go_enter Tryz.func31, Tryz.ntmps31
    go_wp2_with fail
    rw [← HE.out]
    refine H1.out.mono ?_
    rintro e w1 ⟨rfl, hw⟩
    obtain rfl := hw.symm
    clear hw
    go_wp2
    have HL : Hid (_ = _) := load_leaf (HB.out.1.setLf lf0)
    refine bodyPost_ret (results_cell_tmp (p := 6) (u := 7) (ty := 64) rfl _ _ ⟨w.heap.size, 0, none⟩ lf0.v rfl HL.out) rfl ?_
    exact ⟨rfl, HF.out lf0⟩

end Go.Proofs.YtipejahmjdamjaaGreatDoor
namespace Go.Proofs.YtipejahmjdamjaaGreatDoor
open Go.RowKit
set_option linter.unusedVariables false

/-- Are all of these rights among those? -/
def subR (a b : Nat) : Bool := decide (a &&& b = a)
def addrE (n : Nat) (xs : List UInt32) (root a rights : Int) : Nat :=
  if ¬ (0 ≤ rights ∧ rights < 8) then 90 else if ¬ (0 ≤ root ∧ root < n) then 91 else if ¬ (0 ≤ a ∧ a < 4096) then 92 else
  if walkE n xs root (a / 16) ≠ 0 then walkE n xs root (a / 16) else if subR rights.toNat (walkL n xs root (a / 16)).rights then 0 else 93
def addrV (n : Nat) (xs : List UInt32) (root a rights : Int) : Nat := if addrE n xs root a rights = 0 then 16 * (walkL n xs root (a / 16)).frame + a.toNat % 16 else 0

theorem walkL_rights (n : Nat) (xs : List UInt32) (root page : Int) : (walkL n xs root page).rights < 8 := by
  unfold walkL; split
  · exact rts_lt _
  · show 0 < 8; omega
theorem walkL_frame (n : Nat) (xs : List UInt32) (root page : Int) : (walkL n xs root page).frame < 1024 := by
  unfold walkL; split
  · exact frm_lt _
  · show 0 < 1024; omega

theorem andNot_sub (a b : Nat) (ha : a < 8) (hb : b < 8) : (bits .andNot .i64 (a : Int) (b : Int) != 0) = !subR a b := by
  have all : ∀ a : Fin 8, ∀ b : Fin 8, (bits .andNot .i64 ((a.val : Nat) : Int) ((b.val : Nat) : Int) != 0) = !subR a.val b.val := by decide +kernel
  exact all ⟨a, ha⟩ ⟨b, hb⟩

set_option maxHeartbeats 400000 in
theorem address_nil (root a rights : Int) (w : World) : Calls Tryz.prog 35 #[.pointer none, .int .i64 root, .int .i64 a, .int .i64 rights] w fun e w' => e = .returned (.tuple #[.int .i64 0, .int .i64 3]) ∧ w' = w := by
  go_enter Tryz.func35, Tryz.ntmps35
  go_wp2
  go_ret2
  exact ⟨rfl, rfl⟩

set_option maxRecDepth 20000 in
set_option maxHeartbeats 2000000 in
theorem address_any (b g n : Nat) (xs : List UInt32) (root a rights : Int) (w : World) (h : Mn w b g n xs) :
    Calls Tryz.prog 35 #[.pointer (some ⟨b, 0, none⟩), .int .i64 root, .int .i64 a, .int .i64 rights] w fun e w' =>
      e = .returned (.tuple #[.int .i64 (addrV n xs root a rights : Nat), .int .i64 (addrE n xs root a rights : Nat)]) ∧ Keeps (fun _ => False) w w' := by
  have H1 := rights_any rights w
  have H2 := has_any b g n xs root w h
  have H3 := within_any a 4096 w
  by_cases h1 : 0 ≤ rights ∧ rights < 8
  · rw [inR_true h1.1 h1.2] at H1
    by_cases h2 : 0 ≤ root ∧ root < n
    · rw [inR_true h2.1 h2.2] at H2
      by_cases h3 : 0 ≤ a ∧ a < 4096
      · rw [inR_true h3.1 h3.2] at H3
        have H1 : Hid (Calls _ _ _ _ _) := H1
        have H2 : Hid (Calls _ _ _ _ _) := H2
        have H3 : Hid (Calls _ _ _ _ _) := H3
        have H4 : Hid (Calls _ _ _ _ _) := walk_any b g n xs root (a / 16) w h
        have e0 : addrE n xs root a rights = if walkE n xs root (a / 16) ≠ 0 then walkE n xs root (a / 16) else if subR rights.toNat (walkL n xs root (a / 16)).rights then 0 else 93 := by
          unfold addrE; rw [if_neg (fun k => k h1), if_neg (fun k => k h2), if_neg (fun k => k h3)]
        have v0 : addrV n xs root a rights = if addrE n xs root a rights = 0 then 16 * (walkL n xs root (a / 16)).frame + a.toNat % 16 else 0 := rfl
        obtain ⟨X, hX⟩ : ∃ X, X = walkL n xs root (a / 16) := ⟨_, rfl⟩
        obtain ⟨E, hE⟩ : ∃ E, E = walkE n xs root (a / 16) := ⟨_, rfl⟩
        have xr := walkL_rights n xs root (a / 16)
        have xf := walkL_frame n xs root (a / 16)
        rw [← hX] at H4 e0 v0 xr xf
        rw [← hE] at H4 e0
        obtain ⟨at', rfl⟩ := Int.eq_ofNat_of_zero_le h3.1
        obtain ⟨r, rfl⟩ := Int.eq_ofNat_of_zero_le h1.1
        have hal : (at' : Int) < 4096 := by omega
        have hrl : r < 8 := by omega
        rw [v0]
        clear hX hE h2 h3 h1 h v0
        by_cases hw : E = 0
        · subst hw
          rw [if_neg (by omega)] at e0
          have q := andNot_sub r X.rights hrl xr
          obtain ⟨F, hF⟩ : ∃ F, F = X.frame := ⟨_, rfl⟩
          obtain ⟨R, hR⟩ : ∃ R, R = X.rights := ⟨_, rfl⟩
          obtain ⟨P, hP⟩ : ∃ R, R = X.page := ⟨_, rfl⟩
          have hv : X.v = .agg #[.int .i64 P, .int .i64 F, .int .i64 R] := by rw [hF, hR, hP]
          rw [hv] at H4
          rw [← hF] at xf ⊢
          rw [← hR] at xr q e0
          clear hF hR hP hv
          simp only [Int.toNat_natCast] at e0
          by_cases hs : subR r R = true
          · rw [if_pos hs] at e0
            rw [hs] at q
            rw [e0, if_pos rfl]
            simp only [Bool.not_true] at q
            have hf' : (F : Int) < 1024 := by omega
            clear e0 hs hrl xr xf
            go_enter Tryz.func35, Tryz.ntmps35
            go_wp2_with fail
            refine H1.out.mono ?_
            rintro e w1 ⟨rfl, hw⟩
            obtain rfl := hw.symm
            clear hw
            go_wp2_with fail
            refine H2.out.mono ?_
            rintro e w1 ⟨rfl, hw⟩
            obtain rfl := hw.symm
            clear hw
            go_wp2_with fail
            refine H3.out.mono ?_
            rintro e w1 ⟨rfl, hw⟩
            obtain rfl := hw.symm
            clear hw
            go_wp2_with fail
            refine H4.out.mono ?_
            rintro e w1 ⟨rfl, hK⟩
            have HK : Hid (Keeps _ _ _) := hK
            clear hK
            go_wp2
            go_ret2
            exact ⟨ret_two (by omega) rfl, HK.out.alloc _⟩
          · rw [if_neg hs] at e0
            rw [Bool.eq_false_iff.2 hs] at q
            rw [e0]
            simp only [Bool.not_false] at q
            clear e0 hs hrl xr xf
            go_enter Tryz.func35, Tryz.ntmps35
            go_wp2_with fail
            refine H1.out.mono ?_
            rintro e w1 ⟨rfl, hw⟩
            obtain rfl := hw.symm
            clear hw
            go_wp2_with fail
            refine H2.out.mono ?_
            rintro e w1 ⟨rfl, hw⟩
            obtain rfl := hw.symm
            clear hw
            go_wp2_with fail
            refine H3.out.mono ?_
            rintro e w1 ⟨rfl, hw⟩
            obtain rfl := hw.symm
            clear hw
            go_wp2_with fail
            refine H4.out.mono ?_
            rintro e w1 ⟨rfl, hK⟩
            have HK : Hid (Keeps _ _ _) := hK
            clear hK
            go_wp2
            go_ret2
            exact ⟨rfl, HK.out.alloc _⟩
        · rw [if_pos hw] at e0
          rw [e0, if_neg hw]
          have hy' : ((E : Int) != 0) = true := by rw [bne_iff_ne]; omega
          obtain ⟨F, hF⟩ : ∃ F, F = X.frame := ⟨_, rfl⟩
          obtain ⟨R, hR⟩ : ∃ R, R = X.rights := ⟨_, rfl⟩
          obtain ⟨P, hP⟩ : ∃ R, R = X.page := ⟨_, rfl⟩
          have hv : X.v = .agg #[.int .i64 P, .int .i64 F, .int .i64 R] := by rw [hF, hR, hP]
          rw [hv] at H4
          clear e0 hw hF hR hP hv xr xf
          go_enter Tryz.func35, Tryz.ntmps35
          go_wp2_with fail
          refine H1.out.mono ?_
          rintro e w1 ⟨rfl, hw⟩
          obtain rfl := hw.symm
          clear hw
          go_wp2_with fail
          refine H2.out.mono ?_
          rintro e w1 ⟨rfl, hw⟩
          obtain rfl := hw.symm
          clear hw
          go_wp2_with fail
          refine H3.out.mono ?_
          rintro e w1 ⟨rfl, hw⟩
          obtain rfl := hw.symm
          clear hw
          go_wp2_with fail
          refine H4.out.mono ?_
          rintro e w1 ⟨rfl, hK⟩
          have HK : Hid (Keeps _ _ _) := hK
          clear hK
          go_wp2
          go_ret2
          exact ⟨rfl, HK.out.alloc _⟩
      · rw [inR_false h3] at H3
        have e0 : addrE n xs root a rights = 92 := by unfold addrE; rw [if_neg (fun k => k h1), if_neg (fun k => k h2), if_pos h3]
        rw [show addrV n xs root a rights = 0 by unfold addrV; rw [e0]; rfl, e0]
        have H1 : Hid (Calls _ _ _ _ _) := H1
        have H2 : Hid (Calls _ _ _ _ _) := H2
        have H3 : Hid (Calls _ _ _ _ _) := H3
        clear e0 h1 h2 h3 h
        go_enter Tryz.func35, Tryz.ntmps35
        go_wp2_with fail
        refine H1.out.mono ?_
        rintro e w1 ⟨rfl, hw⟩
        obtain rfl := hw.symm
        clear hw
        go_wp2_with fail
        refine H2.out.mono ?_
        rintro e w1 ⟨rfl, hw⟩
        obtain rfl := hw.symm
        clear hw
        go_wp2_with fail
        refine H3.out.mono ?_
        rintro e w1 ⟨rfl, hw⟩
        obtain rfl := hw.symm
        clear hw
        go_wp2
        go_ret2
        exact ⟨rfl, Keeps.refl _ _⟩
    · rw [inR_false h2] at H2
      have e0 : addrE n xs root a rights = 91 := by unfold addrE; rw [if_neg (fun k => k h1), if_pos h2]
      rw [show addrV n xs root a rights = 0 by unfold addrV; rw [e0]; rfl, e0]
      have H1 : Hid (Calls _ _ _ _ _) := H1
      have H2 : Hid (Calls _ _ _ _ _) := H2
      clear e0 h1 h2 h H3
      go_enter Tryz.func35, Tryz.ntmps35
      go_wp2_with fail
      refine H1.out.mono ?_
      rintro e w1 ⟨rfl, hw⟩
      obtain rfl := hw.symm
      clear hw
      go_wp2_with fail
      refine H2.out.mono ?_
      rintro e w1 ⟨rfl, hw⟩
      obtain rfl := hw.symm
      clear hw
      go_wp2
      go_ret2
      exact ⟨rfl, Keeps.refl _ _⟩
  · rw [inR_false h1] at H1
    have e0 : addrE n xs root a rights = 90 := by unfold addrE; rw [if_pos h1]
    rw [show addrV n xs root a rights = 0 by unfold addrV; rw [e0]; rfl, e0]
    have H1 : Hid (Calls _ _ _ _ _) := H1
    clear e0 h1 h H3 H2
    go_enter Tryz.func35, Tryz.ntmps35
    go_wp2_with fail
    refine H1.out.mono ?_
    rintro e w1 ⟨rfl, hw⟩
    obtain rfl := hw.symm
    clear hw
    go_wp2
    go_ret2
    exact ⟨rfl, Keeps.refl _ _⟩

end Go.Proofs.YtipejahmjdamjaaGreatDoor
