import Derived.Test.YtpccdhoaicabcaaE
namespace Go.Proofs.Ytpccdhoaicabcaa
open Go.RowKit
set_option linter.unusedVariables false

abbrev Lf.v (l : Lf) : Value := .agg #[.int .i64 l.page, .int .i64 l.frame, .int .i64 l.rights]
abbrev Lf.vs (l : Lf) : List Value := [.int .i64 l.page, .int .i64 l.frame, .int .i64 l.rights]

/-- A leaf is written into its block. -/
abbrev setLf (w : World) (b : Nat) (l : Lf) : World := ((w.setCell ⟨b, 0, none⟩ (.int .i64 l.page)).setCell ⟨b, 1, none⟩ (.int .i64 l.frame)).setCell ⟨b, 2, none⟩ (.int .i64 l.rights)
theorem Blk.setLf {w : World} {b : Nat} {l0 : Lf} {t : TypeId} (h : Blk w b l0.vs t) (l : Lf) : Blk (setLf w b l) b l.vs t := by
  have := ((h.setCell 0 (.int .i64 l.page)).setCell 1 (.int .i64 l.frame)).setCell 2 (.int .i64 l.rights)
  simpa using this
theorem Keeps.setLf {S : Nat → Prop} {w w' : World} (h : Keeps S w w') (b : Nat) (l : Lf) (hb : b < w.heap.size → S b) : Keeps S w (setLf w' b l) :=
  ((h.setCell _ _ hb).setCell _ _ hb).setCell _ _ hb

theorem load_leaf {w : World} {b : Nat} {l : Lf} (h : Blk w b l.vs 51) : (loadVar 51 ⟨b, 0, none⟩).run Try.prog w = .ok l.v w :=
  run_loadVar_row w b 51 51 _ _ _ h Try.underlying51 (by simp) (by kernel_rfl)

theorem results_cell_tmp {P : Program} {fn : Func} {p u : Tmp} {ty : TypeId} (h : fn.results = #[.cell p ty, .tmp u]) (tmps : Array Value) (w : World) (a : Addr) (v : Value)
    (hp : tmps.getD p undef = .pointer (some a)) (hl : (loadVar ty a).run P w = .ok v w) : (results fn tmps).run P w = .ok (.tuple #[v, tmps.getD u undef]) w := by
  have hp' : tmps[p]?.getD undef = .pointer (some a) := by simpa using hp
  simp [results, h, hp', asAddr, hl]

/-- A memory of n frames. -/
structure Mn (w : World) (b g n : Nat) (xs : List UInt32) : Prop where
  mm : Mm w b g xs
  len : xs.length = n * 16
theorem Mn.kept {S : Nat → Prop} {w w' : World} {b g n : Nat} {xs : List UInt32} (h : Mn w b g n xs) (k : Keeps S w w') (hb : ¬ S b) (hg : ¬ S g) : Mn w' b g n xs := ⟨h.mm.kept k hb hg, h.len⟩
theorem Mn.grown {w w' : World} {b g n : Nat} {xs : List UInt32} (h : Mn w b g n xs) (k : Keeps (fun _ => False) w w') : Mn w' b g n xs := h.kept k (fun e => e) fun e => e
theorem Mn.n_le {w : World} {b g n : Nat} {xs : List UInt32} (h : Mn w b g n xs) : n ≤ 1024 := by have := h.mm.small; have := h.len; omega

set_option maxHeartbeats 400000 in
theorem has_any (b g n : Nat) (xs : List UInt32) (f : Int) (w : World) (h : Mn w b g n xs) :
    Calls Try.prog 39 #[.pointer (some ⟨b, 0, none⟩), .int .i64 f] w fun e w' => e = .returned (.bool (inR f n)) ∧ w' = w := by
  have H1 : Hid (Calls _ _ _ _ _) := frames_any b g xs n w h.mm h.len
  have H2 : Hid (Calls _ _ _ _ _) := within_any f n w
  clear h
  go_enter Try.func39, Try.ntmps39
  go_wp2_with fail
  refine H1.out.mono ?_
  rintro e w1 ⟨rfl, hw⟩
  obtain rfl := hw.symm
  clear hw
  go_wp2_with fail
  refine H2.out.mono ?_
  rintro e w1 ⟨rfl, hw⟩
  obtain rfl := hw.symm
  clear hw
  go_wp2
  go_ret
  exact ⟨rfl, rfl⟩

theorem getD_toNat (xs : List UInt32) (i : Nat) (h : i < xs.length) : (xs.getD i 0) = xs[i] := by simp [List.getD, h]
theorem nat_lt (x : UInt32) : x.toNat < 4294967296 := x.toNat_lt

theorem isT_nm {n x : Nat} (h : isT x = false) : nmE n x = 92 ∧ nmF n x = 0 ∧ nmR n x = 0 := by
  have : nmE n x = 92 := by unfold nmE; rw [h]; rfl
  refine ⟨this, ?_, ?_⟩
  · unfold nmF; rw [this]; rfl
  · unfold nmR; rw [this]; rfl
theorem out_nm {n x : Nat} (h : isT x = true) (hf : ¬ frm x < n) : nmE n x = 91 ∧ nmF n x = 0 ∧ nmR n x = 0 := by
  have : nmE n x = 91 := by unfold nmE; rw [h, if_pos rfl, if_neg hf]
  refine ⟨this, ?_, ?_⟩
  · unfold nmF; rw [this]; rfl
  · unfold nmR; rw [this]; rfl
theorem in_nm {n x : Nat} (h : isT x = true) (hf : frm x < n) : nmE n x = 0 ∧ nmF n x = frm x ∧ nmR n x = rts x := by
  have : nmE n x = 0 := by unfold nmE; rw [h, if_pos rfl, if_pos hf]
  refine ⟨this, ?_, ?_⟩
  · unfold nmF; rw [if_pos this]
  · unfold nmR; rw [if_pos this]

set_option maxHeartbeats 800000 in
theorem named_any (b g n : Nat) (xs : List UInt32) (t i : Nat) (w : World) (h : Mn w b g n xs) (ht : t < n) (hi : i < 16) (x : Nat) (hx : x = (xs.getD (16 * t + i) 0).toNat) :
    Calls Try.prog 41 #[.pointer (some ⟨b, 0, none⟩), .int .i64 t, .int .i64 i] w fun e w' => e = .returned (.tuple #[.int .i64 (nmF n x : Nat), .int .i64 (nmR n x : Nat), .int .i64 (nmE n x : Nat)]) ∧ w' = w := by
  have hl := h.len
  have hn := h.n_le
  have hlt : 16 * t + i < xs.length := by omega
  have H1 := read_in b g xs (16 * t + i) w h.mm hlt
  rw [← getD_toNat xs _ hlt, ← hx] at H1
  have e1 : ((16 * t + i : Nat) : Int) = (t : Int) * 16 + i := by omega
  rw [e1] at H1
  have hxl : x < 4294967296 := by rw [hx]; exact nat_lt _
  have H2 : Hid (Calls _ _ _ _ _) := decode_any x w hxl
  have H3 := has_any b g n xs (frm x) w h
  have H1 : Hid (Calls _ _ _ _ _) := H1
  have q1 : (t : Int) < 1024 := by omega
  have q2 : (i : Int) < 16 := by omega
  clear h hl hn hlt e1 hxl hx ht hi
  by_cases c1 : isT x = true
  · by_cases c2 : frm x < n
    · obtain ⟨d1, d2, d3⟩ := in_nm c1 c2
      rw [d1, d2, d3]
      rw [inR_true (by omega) (by omega)] at H3
      have H3 : Hid (Calls _ _ _ _ _) := H3
      rw [c1] at H2
      clear c1 c2 d1 d2 d3
      obtain ⟨F, hF⟩ : ∃ F, F = frm x := ⟨_, rfl⟩
      obtain ⟨R, hR⟩ : ∃ F, F = rts x := ⟨_, rfl⟩
      rw [← hF] at H2 H3 ⊢
      rw [← hR] at H2 ⊢
      clear hF hR
      go_enter Try.func41, Try.ntmps41
      go_wp2_with fail
      refine H1.out.mono ?_
      rintro e w1 ⟨rfl, hw⟩
      obtain rfl := hw.symm
      clear hw
      go_wp2_with fail
      refine H2.out.mono ?_
      rintro e w1 ⟨rfl, hw⟩
      obtain rfl := hw.symm
      clear hw
      go_wp2_with fail
      refine H3.out.mono ?_
      rintro e w1 ⟨rfl, hw⟩
      obtain rfl := hw.symm
      clear hw
      go_wp2
      go_ret3
      exact ⟨rfl, rfl⟩
    · obtain ⟨d1, d2, d3⟩ := out_nm c1 c2
      rw [d1, d2, d3]
      rw [inR_false (by omega)] at H3
      have H3 : Hid (Calls _ _ _ _ _) := H3
      rw [c1] at H2
      clear c1 c2 d1 d2 d3
      go_enter Try.func41, Try.ntmps41
      go_wp2_with fail
      refine H1.out.mono ?_
      rintro e w1 ⟨rfl, hw⟩
      obtain rfl := hw.symm
      clear hw
      go_wp2_with fail
      refine H2.out.mono ?_
      rintro e w1 ⟨rfl, hw⟩
      obtain rfl := hw.symm
      clear hw
      go_wp2_with fail
      refine H3.out.mono ?_
      rintro e w1 ⟨rfl, hw⟩
      obtain rfl := hw.symm
      clear hw
      go_wp2
      go_ret3
      exact ⟨rfl, rfl⟩
  · have c1 : isT x = false := Bool.eq_false_iff.2 c1
    obtain ⟨d1, d2, d3⟩ := isT_nm (n := n) c1
    rw [d1, d2, d3]
    rw [c1] at H2
    clear c1 d1 d2 d3 H3
    go_enter Try.func41, Try.ntmps41
    go_wp2_with fail
    refine H1.out.mono ?_
    rintro e w1 ⟨rfl, hw⟩
    obtain rfl := hw.symm
    clear hw
    go_wp2_with fail
    refine H2.out.mono ?_
    rintro e w1 ⟨rfl, hw⟩
    obtain rfl := hw.symm
    clear hw
    go_wp2
    go_ret3
    exact ⟨rfl, rfl⟩

end Go.Proofs.Ytpccdhoaicabcaa
