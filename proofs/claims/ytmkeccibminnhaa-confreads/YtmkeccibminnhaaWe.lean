import Derived.Test.YtmkeccibminnhaaWt
namespace Go.Proofs.Ytmkeccibminnhaa
open Go.RowKit
set_option linter.unusedVariables false
set_option maxRecDepth 6000

theorem put_u8 {w : World} {a b : Nat} {g : Option Nat} {xs : List UInt8} {d : Bool} (n : Nat) (h : Wt w a b g xs d) (hx : xs.length + 1 ≤ 140737488355328) (hn : n < 256) :
    Calls Try.prog 56 #[.pointer (some ⟨b, 0, none⟩), .int .u8 n] w fun e w' => e = .returned (.tuple #[]) ∧ Put w a b g xs w' (lowB 1 n) d := by
  refine (wU8_any b n g xs w h.wr hx hn).mono ?_
  rintro e w1 ⟨rfl, g', hW, hg, hK⟩
  exact ⟨rfl, Put.of_bits h hW hg hK⟩

theorem own_new {w w1 : World} {a b : Nat} {g : Option Nat} {xs : List UInt8} {d : Bool} (h : Wt w a b g xs d) {k : Nat} (hk : w.heap.size ≤ k) : ¬ Own a b g k := fun ho => by
  have := h.lt k ho; omega
/-- Behind what only grew. -/
theorem Put.grown {w w1 w2 : World} {a b : Nat} {g : Option Nat} {xs ys : List UInt8} {d : Bool} (hK : Keeps (fun _ => False) w w1) (h : Put w1 a b g xs w2 ys d) : Put w a b g xs w2 ys d := by
  obtain ⟨g', h1, h2, h3⟩ := h
  refine ⟨g', h1, ?_, (hK.mono fun _ _ e => e.elim).trans h3 fun _ _ e => e⟩
  rcases h2 with h2 | ⟨k, h2, h4⟩
  · exact .inl h2
  · exact .inr ⟨k, h2, Nat.le_trans hK.size h4⟩

set_option maxHeartbeats 400000 in
theorem name_any (a b : Nat) (g : Option Nat) (xs : List UInt8) (d : Bool) (s : ByteArray) (w : World) (h : Wt w a b g xs d) (hx : xs.length + 300 ≤ 140737488355328) (hs : s.size ≤ 9223372036854775807) :
    Calls Try.prog 59 #[.pointer (some ⟨a, 0, none⟩), .string s] w fun e w' => e = .returned (.tuple #[]) ∧ Put w a b g xs w' (nameB s) (d || nameW s) := by
  have p0 := h.blk.cell (i := 0) rfl
  have p1 := h.blk.frozen 1
  have p3 := h.blk.cell (i := 1) rfl
  have HH : Hid (Wt w a b g xs d) := h
  by_cases hl : 255 < s.size
  · have hl' : (255 : Int) < s.size := by omega
    clear h
    go_enter Try.func59, Try.ntmps59
    go_wp2
    refine bodyPost_ret (results_none rfl _ _ _) rfl ?_
    refine ⟨rfl, g, ?_, .inl rfl, Keeps.wide⟩
    simp only [nameB, nameW, hl, if_true, List.append_nil, decide_true, Bool.or_true]
    exact HH.out.wide
  · have hl' : ¬ (255 : Int) < s.size := by omega
    clear h
    go_enter Try.func59, Try.ntmps59
    go_wp2_with fail
    refine (wText_any b s g xs w HH.out.wr (by omega) (by omega)).mono ?_
    rintro e w1 ⟨rfl, g', hW, hg, hK⟩
    have HP : Hid (Put w a b g xs w1 (nameB s) (d || nameW s)) := by
      refine (Put.of_bits HH.out hW hg hK).cong ?_ ?_
      · simp [nameB, hl]
      · simp [nameW, hl]
    clear hW hg hK p0 p1 p3
    go_wp2
    go_end0
    exact ⟨rfl, HP.out⟩

theorem numbers_at {w w1 : World} {a b : Nat} (N : Nat) {g : Option Nat} {xs : List UInt8} {d : Bool} (ns : List Int) (h : Wt w a b g xs d) (hK : Keeps (fun _ => False) w w1) (hN : N = w1.heap.size) (hn : ∀ n ∈ ns, I64 n) (hl : ns.length ≤ 8) (hx : xs.length + 32 ≤ 140737488355328) :
    Calls Try.prog 33 #[.pointer (some ⟨a, 0, none⟩),   .slice (some ⟨N, 0, none⟩) ns.length ns.length] (w1.alloc (.cells (ivs ns).toArray 3)) fun e w' => e = .returned (.tuple #[]) ∧ Put w a b g xs w' (nbs ns) (d || wNs ns) := by
  subst hN
  have hK1 : Keeps (fun _ => False) w (w1.alloc (.cells (ivs ns).toArray 3)) := hK.alloc _
  have hB := Blk.new w1 (ivs ns).toArray 3
  refine (numbers_any a b w1.heap.size g xs d ns 3 _ (h.kept hK1 fun _ _ e => e) hB (own_new (w1 := w) h hK.size) hn hl hx).mono ?_
  rintro e w2 ⟨rfl, hP⟩
  exact ⟨rfl, hP.grown hK1⟩

set_option maxHeartbeats 400000 in
theorem window_any (a b : Nat) (g : Option Nat) (xs : List UInt8) (d : Bool) (x : Win) (w : World) (h : Wt w a b g xs d) (hx : xs.length + 300 ≤ 140737488355328) (hf : x.Fine) :
    Calls Try.prog 58 #[.pointer (some ⟨a, 0, none⟩), x.v] w fun e w' => e = .returned (.tuple #[]) ∧ Put w a b g xs w' x.e (d || x.d) := by
  obtain ⟨p, u, s⟩ := x
  have HH : Hid (Wt w a b g xs d ∧ _) := ⟨h, hf⟩
  obtain ⟨q, hq⟩ : ∃ q, IntKind.i64.wrap (p + 1) = q := ⟨_, rfl⟩
  have HQ : Hid (IntKind.i64.wrap (p + 1) = q) := hq
  have HN : Hid (∀ m ∈ ([q, u, s] : List Int), I64 m) := by
    intro m hn
    have := HH.out.2
    unfold Win.Fine at this
    simp only at this
    rw [List.mem_cons, List.mem_cons, List.mem_singleton] at hn
    have hw : IntKind.i64.wrap (p + 1) = q := HQ.out
    rw [IntKind.wrap_i64] at hw
    unfold I64 at *
    rcases hn with rfl | rfl | rfl <;> omega
  clear h hf
  go_enter Try.func58, Try.ntmps58
  go_wp2_with fail
  refine (numbers_at (w1 := w.alloc _) (w.heap.size + 1) [q, u, s] HH.out.1 ((Keeps.refl _ w).alloc _) (by simp) HN.out (by simp) (by omega)).mono ?_
  rintro e w1 ⟨rfl, hP⟩
  have HP : Hid (Put w a b g xs w1 _ _) := hP
  clear hP HN
  go_wp2
  go_end0
  have e1 : ({ p := p, u := u, s := s } : Win).ns = [q, u, s] := by unfold Win.ns inc; rw [HQ.out]
  unfold Win.e Win.d
  rw [e1]
  exact ⟨rfl, HP.out⟩

set_option maxHeartbeats 400000 in
theorem region_any (a b : Nat) (g : Option Nat) (xs : List UInt8) (d : Bool) (x : Rgn) (w : World) (h : Wt w a b g xs d) (hx : xs.length + 300 ≤ 140737488355328) (hf : x.Fine) :
    Calls Try.prog 61 #[.pointer (some ⟨a, 0, none⟩), x.v] w fun e w' => e = .returned (.tuple #[]) ∧ Put w a b g xs w' x.e (d || x.d) := by
  obtain ⟨p, n, f, t⟩ := x
  have HH : Hid (Wt w a b g xs d ∧ _) := ⟨h, hf⟩
  have HN : Hid (∀ m ∈ ([p, n, f, t] : List Int), I64 m) := by
    intro m hn
    have := HH.out.2
    unfold Rgn.Fine at this
    simp only at this
    rw [List.mem_cons, List.mem_cons, List.mem_cons, List.mem_singleton] at hn
    unfold I64 at *; rcases hn with rfl | rfl | rfl | rfl <;> omega
  clear h hf
  go_enter Try.func61, Try.ntmps61
  go_wp2_with fail
  refine (numbers_at (w1 := w.alloc _) (w.heap.size + 1) [p, n, f, t] HH.out.1 ((Keeps.refl _ w).alloc _) (by simp) HN.out (by simp) (by omega)).mono ?_
  rintro e w1 ⟨rfl, hP⟩
  have HP : Hid (Put w a b g xs w1 _ _) := hP
  clear hP HN
  go_wp2
  go_end0
  exact ⟨rfl, HP.out⟩

set_option maxHeartbeats 400000 in
theorem channel_any (a b : Nat) (g : Option Nat) (xs : List UInt8) (d : Bool) (x : Chn) (w : World) (h : Wt w a b g xs d) (hx : xs.length + 300 ≤ 140737488355328) (hf : x.Fine) :
    Calls Try.prog 39 #[.pointer (some ⟨a, 0, none⟩), x.v] w fun e w' => e = .returned (.tuple #[]) ∧ Put w a b g xs w' x.e (d || x.d) := by
  obtain ⟨p, n, f⟩ := x
  have HH : Hid (Wt w a b g xs d ∧ _) := ⟨h, hf⟩
  have HN : Hid (∀ m ∈ ([p, n, f] : List Int), I64 m) := by
    intro m hn
    have := HH.out.2
    unfold Chn.Fine at this
    simp only at this
    rw [List.mem_cons, List.mem_cons, List.mem_singleton] at hn
    unfold I64 at *; rcases hn with rfl | rfl | rfl <;> omega
  clear h hf
  go_enter Try.func39, Try.ntmps39
  go_wp2_with fail
  refine (numbers_at (w1 := w.alloc _) (w.heap.size + 1) [p, n, f] HH.out.1 ((Keeps.refl _ w).alloc _) (by simp) HN.out (by simp) (by omega)).mono ?_
  rintro e w1 ⟨rfl, hP⟩
  have HP : Hid (Put w a b g xs w1 _ _) := hP
  clear hP HN
  go_wp2
  go_end0
  exact ⟨rfl, HP.out⟩

set_option maxHeartbeats 400000 in
theorem port_any (a b : Nat) (g : Option Nat) (xs : List UInt8) (d : Bool) (x : Prt) (w : World) (h : Wt w a b g xs d) (hx : xs.length + 300 ≤ 140737488355328) (hf : x.Fine) :
    Calls Try.prog 63 #[.pointer (some ⟨a, 0, none⟩), x.v] w fun e w' => e = .returned (.tuple #[]) ∧ Put w a b g xs w' x.e (d || x.d) := by
  obtain ⟨c, s⟩ := x
  have HN : Hid (∀ m ∈ ([c] : List Int), I64 m) := by
    intro m hn
    have := hf
    unfold Prt.Fine at this
    simp only at this
    rw [List.mem_singleton] at hn
    rw [hn]; exact this
  have HH : Hid (Wt w a b g xs d) := h
  clear h hf
  go_enter Try.func63, Try.ntmps63
  go_wp2_with fail
  refine (numbers_at (w1 := w.alloc (.cells #[.int .i64 c, .bool s] 107)) (w.heap.size + 1) [c] (HH.out.kept ((Keeps.refl (fun _ => False) w).alloc _) fun _ _ e => e) (Keeps.refl _ _) (by simp) HN.out (by simp) (by omega)).mono ?_
  rintro e w1 ⟨rfl, hP⟩
  have hB : Blk w1 w.heap.size [.int .i64 c, .bool s] 107 := by
    obtain ⟨_, _, _, hK⟩ := hP
    exact (Blk.new w _ 107).kept hK (own_new (w1 := w) HH.out (Nat.le_refl _))
  obtain ⟨g1, hw1, hg1, hK1⟩ := hP.grown ((Keeps.refl _ w).alloc _)
  have q0 := hB.cell (i := 0) rfl
  have q1 := hB.cell (i := 1) rfl
  have p0 := hw1.blk.cell (i := 0) rfl
  have HP : Hid (Wt w1 a b g1 (xs ++ nbs [c]) (d || wNs [c]) ∧ (g1 = g ∨ ∃ k, g1 = some k ∧ w.heap.size ≤ k) ∧ Keeps (Own a b g) w w1) := ⟨hw1, hg1, hK1⟩
  clear hw1 hg1 hK1 hB HN
  cases s
  · go_wp2_with fail
    refine (put_u8 0 HP.out.1 (by rw [List.length_append, nbs_length]; simp; omega) (by omega)).mono ?_
    rintro e w2 ⟨rfl, hP⟩
    have HQ : Hid (Put w a b g xs w2 _ _) := Put.trans HP.out.2.1 HP.out.2.2 hP
    clear hP q0 q1 p0 HP
    go_wp2
    go_end0
    exact ⟨rfl, HQ.out⟩
  · go_wp2_with fail
    refine (put_u8 1 HP.out.1 (by rw [List.length_append, nbs_length]; simp; omega) (by omega)).mono ?_
    rintro e w2 ⟨rfl, hP⟩
    have HQ : Hid (Put w a b g xs w2 _ _) := Put.trans HP.out.2.1 HP.out.2.2 hP
    clear hP q0 q1 p0 HP
    go_wp2
    go_end0
    exact ⟨rfl, HQ.out⟩
end Go.Proofs.Ytmkeccibminnhaa
