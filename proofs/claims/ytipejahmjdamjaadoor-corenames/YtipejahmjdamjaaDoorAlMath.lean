import Derived.Test.YtipejahmjdamjaaDoorTlMa
namespace Go.Proofs.YtipejahmjdamjaaDoor.Tl
open Go.RowKit Go.Shelf
set_option linter.unusedVariables false
set_option maxRecDepth 6000

theorem newT_any (w : World) : Calls Tryd.prog 11 #[] w fun r w' => ∃ t, r = .returned (ptr t) ∧ (∃ F, Tl w' t [] F ∧ ∀ b, F b → w.heap.size ≤ b) ∧ Keeps (fun _ => False) w w' := by
  have H1 : Hid (Calls Tryd.prog 15 #[.int .i64 4] w _) := new_any 4 w (by omega) (by omega)
  go_enter Tryd.func11, Tryd.ntmps11
  go_wp2_with fail
  refine H1.out.mono ?_
  rintro r w1 ⟨rfl, ⟨F, hS, hF⟩, hK⟩
  have HS : Hid (Sf w1 (w.heap.size + 1) 4 [] F ∧ (∀ b, F b → w.heap.size ≤ b) ∧ Keeps (fun _ => False) w w1) := ⟨hS, hF, hK⟩
  clear hS hF hK H1
  go_wp2
  go_ret
  obtain ⟨hS, hF, hK⟩ := HS.out
  have hK1 : Keeps (fun _ => False) w1 (w1.alloc (.cells #[ptr (w.heap.size + 1)] 62)) := (Keeps.refl _ w1).alloc _
  refine ⟨w1.heap.size, rfl, ⟨fun b => w.heap.size ≤ b ∧ b < w1.heap.size + 1, ⟨w.heap.size + 1, F, Blk.new w1 _ 62, hS.kept hK1 fun _ _ h => h, fun h => ?_, ⟨hK.size, by omega⟩, fun b hb => ⟨hF b hb, ?_⟩, fun b hb => ?_⟩, fun b hb => hb.1⟩, hK.trans hK1 fun _ _ h => h⟩
  · have := hS.lt _ h; omega
  · have := hS.lt _ hb; omega
  · simp; exact hb.2

theorem lay_any (t : Nat) (ls : List Lf) (F : Nat → Prop) (l : Lf) (w : World) (h : Tl w t ls F) (hp : I64 l.p) :
    Calls Tryd.prog 71 #[ptr t, l.v] w fun r w' => r = .returned (.tuple #[]) ∧ NowT w w' t (putT l ls) F := by
  have h4 := h.le
  obtain ⟨s, F0, h1, h2, h3, h4', h5, h6⟩ := h
  obtain ⟨W, hW⟩ : ∃ W, W = w.alloc (.cells #[.int .i64 l.p, .int .i64 l.f, .int .i64 l.r] 60) := ⟨_, rfl⟩
  have hB : Blk W w.heap.size l.vs 60 := by rw [hW]; exact Blk.new w _ 60
  have v0 := hB.cell (i := 0) rfl
  have v1 := hB.cell (i := 1) rfl
  have v2 := hB.cell (i := 2) rfl
  have hKW : Keeps (fun _ => False) w W := by rw [hW]; exact (Keeps.refl _ w).alloc _
  have HW : Hid (W = _ ∧ Keeps (fun _ => False) w W) := ⟨hW, hKW⟩
  have h1' : Blk W t [ptr s] 62 := h1.kept hKW fun h => h
  have h2' : Sf W s 4 (kv ls) F0 := h2.kept hKW fun _ _ h => h
  have c0 := h1'.cell (i := 0) rfl
  have hKd : Keeps (fun _ => False) W (W.drewN 1) := (Keeps.refl _ W).drewN 1
  have H1 : Hid (Calls _ _ _ _ _) := put_any s 4 (kv ls) F0 l.p l (W.drewN 1) (h2'.kept hKd fun _ _ h => h) hp
  rw [put_kv l h4] at H1
  clear hKd
  have HH : Hid (Blk W t [ptr s] 62 ∧ ¬ F0 t ∧ F t ∧ (∀ b, F0 b → F b) ∧ ∀ b, F b → b < w.heap.size) := ⟨h1', h3, h4', h5, h6⟩
  clear hW hKW hB h1' h2' h1 h2 h3 h4 h4' h5 h6
  go_enter Tryd.func71, Tryd.ntmps71
  go_wp2_with fail
  rw [← HW.out.1]
  refine region_tail 7 (by kernel_rfl) ?_
  simp only [List.take_succ_cons, List.take_zero, List.drop_succ_cons, List.drop_zero]
  repeat still_step
  refine wpStill_nil ?_
  go_wp2_with fail
  refine H1.out.mono ?_
  rintro r w1 ⟨rfl, hN⟩
  have HN : Hid (Now (W.drewN 1) w1 s 4 (kv (putT l ls)) F0) := hN
  clear hN H1 c0 v0 v1 v2
  go_wp2
  go_end0
  obtain ⟨h1, h3, h4, h5, h6⟩ := HH.out
  exact ⟨rfl, nowT_of (HW.out.2.drewN 1) h1 h3 h4 h5 h6 HN.out⟩

theorem nowT_same {w w' : World} {t : Nat} {ls : List Lf} {F : Nat → Prop} (h : Tl w t ls F) (hK : Keeps (fun _ => False) w w') : NowT w w' t ls F :=
  ⟨⟨F, h.kept hK fun _ _ h => h, fun b hb => .inl hb⟩, hK.mono fun _ _ h => h.elim⟩

theorem putT_no (t : Nat) (ls : List Lf) (F : Nat → Prop) (l : Lf) (w : World) (h : Tl w t ls F) (hm : mayB l = false) :
    Calls Tryd.prog 46 #[ptr t, l.v] w fun r w' => r = .returned (.int .i64 80) ∧ NowT w w' t ls F := by
  obtain ⟨W, hW⟩ : ∃ W, W = w.alloc (.cells #[.int .i64 l.p, .int .i64 l.f, .int .i64 l.r] 60) := ⟨_, rfl⟩
  have hB : Blk W w.heap.size l.vs 60 := by rw [hW]; exact Blk.new w _ 60
  have v0 := hB.cell (i := 0) rfl
  have v1 := hB.cell (i := 1) rfl
  have v2 := hB.cell (i := 2) rfl
  have hKW : Keeps (fun _ => False) w W := by rw [hW]; exact (Keeps.refl _ w).alloc _
  have HW : Hid (W = _ ∧ Keeps (fun _ => False) w W ∧ Tl w t ls F) := ⟨hW, hKW, h⟩
  have H1 : Hid (Calls _ _ _ _ _) := mayBe_any l W
  rw [hm] at H1
  clear hW hKW hB h hm
  go_enter Tryd.func46, Tryd.ntmps46
  go_wp2_with fail
  rw [← HW.out.1]
  refine H1.out.mono ?_
  rintro r w1 ⟨rfl, hK⟩
  have HK : Hid (Keeps (fun _ => False) W w1) := hK
  clear hK v0 v1 v2 H1
  go_wp2
  go_ret
  exact ⟨rfl, nowT_same HW.out.2.2 (HW.out.2.1.trans HK.out fun _ _ h => h)⟩

theorem mayB_p {l : Lf} (h : mayB l = true) : I64 l.p := by
  simp [mayB, inB] at h
  exact ⟨by omega, by omega⟩

theorem NowT.first {w w1 w' : World} {t : Nat} {ls : List Lf} {F : Nat → Prop} (hK : Keeps (fun _ => False) w w1) (h6 : ∀ b, F b → b < w.heap.size) (h : NowT w1 w' t ls F) : NowT w w' t ls F := by
  obtain ⟨⟨F', h1, h2⟩, h3⟩ := h
  refine ⟨⟨F', h1, fun b hb => ?_⟩, (hK.mono fun _ _ h => h.elim).trans h3 fun _ _ h => h⟩
  rcases h2 b hb with h | h
  · exact .inl h
  · exact .inr (by have := hK.size; omega)

theorem putT_yes (t : Nat) (ls : List Lf) (F : Nat → Prop) (l : Lf) (w : World) (h : Tl w t ls F) (hm : mayB l = true) :
    Calls Tryd.prog 46 #[ptr t, l.v] w fun r w' => r = .returned (.int .i64 0) ∧ NowT w w' t (putT l ls) F := by
  obtain ⟨W, hW⟩ : ∃ W, W = w.alloc (.cells #[.int .i64 l.p, .int .i64 l.f, .int .i64 l.r] 60) := ⟨_, rfl⟩
  have hB : Blk W w.heap.size l.vs 60 := by rw [hW]; exact Blk.new w _ 60
  have v0 := hB.cell (i := 0) rfl
  have v1 := hB.cell (i := 1) rfl
  have v2 := hB.cell (i := 2) rfl
  have hKW : Keeps (fun _ => False) w W := by rw [hW]; exact (Keeps.refl _ w).alloc _
  have HW : Hid (W = _ ∧ Keeps (fun _ => False) w W ∧ Tl w t ls F ∧ Blk W w.heap.size l.vs 60 ∧ I64 l.p) := ⟨hW, hKW, h, hB, mayB_p hm⟩
  have H1 : Hid (Calls _ _ _ _ _) := mayBe_any l W
  rw [hm] at H1
  clear hW hKW hB h hm
  go_enter Tryd.func46, Tryd.ntmps46
  go_wp2_with fail
  rw [← HW.out.1]
  refine H1.out.mono ?_
  rintro r w1 ⟨rfl, hK⟩
  have hKw : Keeps (fun _ => False) w w1 := HW.out.2.1.trans hK fun _ _ h => h
  have HK : Hid (Keeps (fun _ => False) w w1) := hKw
  have H2 : Hid (Calls _ _ _ _ _) := lay_any t ls F l w1 (HW.out.2.2.1.kept hKw fun _ _ h => h) HW.out.2.2.2.2
  have hB1 : Blk w1 w.heap.size l.vs 60 := HW.out.2.2.2.1.kept hK fun h => h
  clear hK v0 v1 v2 H1 hKw
  have v0 := hB1.cell (i := 0) rfl
  have v1 := hB1.cell (i := 1) rfl
  have v2 := hB1.cell (i := 2) rfl
  clear hB1
  go_wp2_with fail
  refine H2.out.mono ?_
  rintro r w2 ⟨rfl, hN⟩
  have HN : Hid (NowT w1 w2 t (putT l ls) F) := hN
  clear hN v0 v1 v2 H2
  go_wp2
  go_ret
  exact ⟨rfl, HN.out.first HK.out HW.out.2.2.1.lt⟩

theorem nowT_mk {w w' : World} {t s : Nat} {ls : List Lf} {F F0 F' : Nat → Prop} (h1 : Blk w' t [ptr s] 62) (h3 : ¬ F0 t) (h4 : F t) (h5 : ∀ b, F0 b → F b) (h6 : ∀ b, F b → b < w.heap.size)
    (hS : Sf w' s 4 (kv ls) F') (hF : ∀ b, F' b → F0 b ∨ w.heap.size ≤ b) (hK : Keeps F w w') : NowT w w' t ls F := by
  refine ⟨⟨fun b => (F b ∨ w.heap.size ≤ b) ∧ b < w'.heap.size, ⟨s, F', h1, hS, ?_, ⟨.inl h4, Nat.lt_of_lt_of_le (h6 t h4) hK.size⟩, fun b hb => ⟨?_, hS.lt b hb⟩, fun b hb => hb.2⟩, fun b hb => hb.1⟩, hK⟩
  · intro hb
    rcases hF t hb with h | h
    · exact h3 h
    · have := h6 t h4; omega
  · rcases hF b hb with h | h
    · exact .inl (h5 b h)
    · exact .inr h

set_option maxHeartbeats 400000 in
theorem findT_any (t : Nat) (ls : List Lf) (F : Nat → Prop) (p : Int) (w : World) (h : Tl w t ls F) (hp : I64 p) :
    Calls Tryd.prog 44 #[ptr t, .int .i64 p] w fun r w' => r = .returned (.tuple #[((findT p ls).getD Lf.none).v, .bool (findT p ls).isSome]) ∧ NowT w w' t (touchT p ls) F := by
  obtain ⟨s, F0, h1, h2, h3, h4', h5, h6⟩ := h
  obtain ⟨W, hW⟩ : ∃ W, W = w.alloc (.cells #[.int .i64 0, .int .i64 0, .int .i64 0] 60) := ⟨_, rfl⟩
  have hB : Blk W w.heap.size Lf.none.vs 60 := by rw [hW]; exact Blk.new w _ 60
  have hKW : Keeps (fun _ => False) w W := by rw [hW]; exact (Keeps.refl _ w).alloc _
  have HW : Hid (W = _ ∧ Keeps (fun _ => False) w W ∧ Blk W w.heap.size Lf.none.vs 60) := ⟨hW, hKW, hB⟩
  have h1' : Blk W t [ptr s] 62 := h1.kept hKW fun h => h
  have h2' : Sf W s 4 (kv ls) F0 := h2.kept hKW fun _ _ h => h
  have c0 := h1'.cell (i := 0) rfl
  rw [hW] at c0
  have H1 : Hid (Calls _ _ _ _ _) := get_any s 4 (kv ls) F0 p W h2' hp
  rw [look_kv, touch_kv] at H1
  have HH : Hid (Blk W t [ptr s] 62 ∧ ¬ F0 t ∧ F t ∧ (∀ b, F0 b → F b) ∧ ∀ b, F b → b < w.heap.size) := ⟨h1', h3, h4', h5, h6⟩
  clear hW hKW hB h1' h2' h1 h2 h3 h4' h5 h6
  obtain ⟨x, hx⟩ : ∃ x, x = (findT p ls).getD Lf.none := ⟨_, rfl⟩
  rw [← hx] at H1 ⊢
  clear hx
  go_enter Tryd.func44, Tryd.ntmps44
  go_wp2_with fail
  rw [← HW.out.1]
  refine H1.out.mono ?_
  rintro r w1 ⟨rfl, hN⟩
  have HN : Hid (Now W w1 s 4 (kv (touchT p ls)) F0) := hN
  have hB1 : Blk w1 w.heap.size Lf.none.vs 60 := HW.out.2.2.kept hN.2 fun h => by have := HH.out.2.2.2.2 _ (HH.out.2.2.2.1 _ h); omega
  have HB : Hid (Blk w1 w.heap.size Lf.none.vs 60) := hB1
  clear hN H1 c0
  have c0 := hB1.cell (i := 0) rfl
  have c1 := hB1.cell (i := 1) rfl
  have c2 := hB1.cell (i := 2) rfl
  have f0 := hB1.frozen 0
  have f1 := hB1.frozen 1
  have f2 := hB1.frozen 2
  clear hB1
  go_wp2
  refine bodyPost_ret (results_cell_tmp rfl _ _ _ x.v rfl (load_leaf (HB.out.setLeaf x))) rfl ?_
  obtain ⟨h1, h3, h4, h5, h6⟩ := HH.out
  obtain ⟨⟨F', hN1, hN2⟩, hK⟩ := HN.out
  have hz := HW.out.2.2.lt
  have hK4 := (Keeps.refl (fun b => b = w.heap.size) w1).setLeaf w.heap.size x (fun _ => rfl)
  refine ⟨rfl, nowT_mk ((h1.kept hK h3).kept hK4 ?_) h3 h4 h5 h6 (hN1.kept hK4 fun b hb he => ?_) (fun b hb => ?_) ?_⟩
  · have := h6 t h4; omega
  · rcases hN2 b hb with h | h
    · have := h6 b (h5 b h); omega
    · omega
  · rcases hN2 b hb with h | h
    · exact .inl h
    · exact .inr (by omega)
  · exact ((HW.out.2.1.mono fun _ _ h => h.elim).trans hK fun b _ hb => h5 b hb).trans hK4 fun b hb he => by omega

end Go.Proofs.YtipejahmjdamjaaDoor.Tl
namespace Go.Proofs.YtipejahmjdamjaaDoor.Al

/-- One round of the product that is added up place by place. -/
theorem times_odd (n x y : Nat) (hy : y % 2 = 1) : ((n + x) % 4294967296 + (2 * x) % 4294967296 * (y / 2)) % 4294967296 = (n + x * y) % 4294967296 := by
  have e : x * y = x + 2 * x * (y / 2) := by
    have : y = 2 * (y / 2) + 1 := by omega
    calc x * y = x * (2 * (y / 2) + 1) := by rw [← this]
      _ = x + 2 * x * (y / 2) := by rw [Nat.mul_add, Nat.mul_one, Nat.add_comm, ← Nat.mul_assoc, Nat.mul_comm x 2]
  rw [e, ← Nat.add_assoc, Nat.add_mod, Nat.mod_mod, Nat.mul_mod, Nat.mod_mod, ← Nat.mul_mod, ← Nat.add_mod]
theorem times_even (n x y : Nat) (hy : y % 2 = 0) : (n + (2 * x) % 4294967296 * (y / 2)) % 4294967296 = (n + x * y) % 4294967296 := by
  have e : x * y = 2 * x * (y / 2) := by
    have : y = 2 * (y / 2) := by omega
    calc x * y = x * (2 * (y / 2)) := by rw [← this]
      _ = 2 * x * (y / 2) := by rw [← Nat.mul_assoc, Nat.mul_comm x 2]
  rw [e, Nat.add_mod, Nat.mul_mod, Nat.mod_mod, ← Nat.mul_mod, ← Nat.add_mod]

/-- One round of the quotient, from the highest place on. -/
theorem place (N i : Nat) : N / 2 ^ i = 2 * (N / 2 ^ (i + 1)) + N / 2 ^ i % 2 := by
  rw [Nat.pow_succ, ← Nat.div_div_eq_div_mul]
  omega
theorem quot_step (m m' q r d b : Nat) (hm : m' = 2 * m + b) (h : m = q * d + r) (hr : r < d) (hb : b < 2) :
    (d ≤ 2 * r + b → m' = (2 * q + 1) * d + (2 * r + b - d) ∧ 2 * r + b - d < d) ∧ (¬ d ≤ 2 * r + b → m' = 2 * q * d + (2 * r + b) ∧ 2 * r + b < d) := by
  have e : 2 * (q * d) = 2 * q * d := by rw [Nat.mul_assoc]
  have e2 : (2 * q + 1) * d = 2 * q * d + d := by rw [Nat.add_mul, Nat.one_mul]
  constructor
  · intro h1
    rw [e2]
    constructor <;> omega
  · intro h1
    constructor <;> omega
theorem quot_end (N q r d : Nat) (h : N = q * d + r) (hr : r < d) : q = N / d ∧ r = N % d := by
  subst h
  constructor
  · rw [Nat.mul_comm, Nat.mul_add_div (by omega), Nat.div_eq_of_lt hr]; rfl
  · rw [Nat.mul_comm, Nat.mul_add_mod, Nat.mod_eq_of_lt hr]

/-- A bit as a number. -/
theorem bit_and (x y i : Nat) : (x &&& y) / 2 ^ i % 2 = if x / 2 ^ i % 2 + y / 2 ^ i % 2 = 2 then 1 else 0 := by
  have h := Nat.testBit_and x y i
  simp only [Nat.testBit_eq_decide_div_mod_eq] at h
  have a := Nat.mod_two_eq_zero_or_one (x / 2 ^ i)
  have b := Nat.mod_two_eq_zero_or_one (y / 2 ^ i)
  have c := Nat.mod_two_eq_zero_or_one ((x &&& y) / 2 ^ i)
  rcases a with a | a <;> rcases b with b | b <;> rcases c with c | c <;> simp_all
theorem bit_or (x y i : Nat) : (x ||| y) / 2 ^ i % 2 = if 0 < x / 2 ^ i % 2 + y / 2 ^ i % 2 then 1 else 0 := by
  have h := Nat.testBit_or x y i
  simp only [Nat.testBit_eq_decide_div_mod_eq] at h
  have a := Nat.mod_two_eq_zero_or_one (x / 2 ^ i)
  have b := Nat.mod_two_eq_zero_or_one (y / 2 ^ i)
  have c := Nat.mod_two_eq_zero_or_one ((x ||| y) / 2 ^ i)
  rcases a with a | a <;> rcases b with b | b <;> rcases c with c | c <;> simp_all
theorem bit_xor (x y i : Nat) : (x ^^^ y) / 2 ^ i % 2 = if x / 2 ^ i % 2 + y / 2 ^ i % 2 = 1 then 1 else 0 := by
  have h := Nat.testBit_xor x y i
  simp only [Nat.testBit_eq_decide_div_mod_eq] at h
  have a := Nat.mod_two_eq_zero_or_one (x / 2 ^ i)
  have b := Nat.mod_two_eq_zero_or_one (y / 2 ^ i)
  have c := Nat.mod_two_eq_zero_or_one ((x ^^^ y) / 2 ^ i)
  rcases a with a | a <;> rcases b with b | b <;> rcases c with c | c <;> simp_all

/-- Moved by one place and then by n. -/
theorem shl_step (x n : Nat) : (2 * x % 4294967296) * 2 ^ n % 4294967296 = x * 2 ^ (n + 1) % 4294967296 := by
  rw [Nat.mul_mod, Nat.mod_mod, ← Nat.mul_mod, Nat.pow_succ, Nat.mul_comm 2 x, Nat.mul_assoc, Nat.mul_comm 2 (2 ^ n)]
theorem shr_step (x n : Nat) : x / 2 / 2 ^ n = x / 2 ^ (n + 1) := by
  rw [Nat.div_div_eq_div_mul, Nat.pow_succ, Nat.mul_comm]

theorem low_and (x y : Nat) : (x &&& y) % 2 = if x % 2 + y % 2 = 2 then 1 else 0 := by simpa using bit_and x y 0
theorem low_or (x y : Nat) : (x ||| y) % 2 = if 0 < x % 2 + y % 2 then 1 else 0 := by simpa using bit_or x y 0
theorem low_xor (x y : Nat) : (x ^^^ y) % 2 = if x % 2 + y % 2 = 1 then 1 else 0 := by simpa using bit_xor x y 0
/-- Parted and joined again. -/
theorem and_add_or (n : Nat) : ∀ x y : Nat, x < 2 ^ n → y < 2 ^ n → (x &&& y) + (x ||| y) = x + y ∧ (x &&& y) + (x ^^^ y) = x ||| y := by
  induction n with
  | zero =>
    intro x y hx hy
    obtain rfl : x = 0 := by simpa using hx
    obtain rfl : y = 0 := by simpa using hy
    decide
  | succ n ih =>
    intro x y hx hy
    rw [Nat.pow_succ] at hx hy
    obtain ⟨h1, h2⟩ := ih (x / 2) (y / 2) (by omega) (by omega)
    have a := low_and x y
    have o := low_or x y
    have r := low_xor x y
    have a2 : (x &&& y) / 2 = x / 2 &&& y / 2 := Nat.and_div_two
    have o2 : (x ||| y) / 2 = x / 2 ||| y / 2 := Nat.or_div_two
    have r2 : (x ^^^ y) / 2 = x / 2 ^^^ y / 2 := Nat.xor_div_two
    rw [← a2, ← o2] at h1
    rw [← a2, ← r2, ← o2] at h2
    have mx := Nat.mod_two_eq_zero_or_one x
    have my := Nat.mod_two_eq_zero_or_one y
    generalize x &&& y = A at *
    generalize x ||| y = O at *
    generalize x ^^^ y = R at *
    rcases mx with mx | mx <;> rcases my with my | my <;> rw [mx, my] at a o r <;> split at a <;> split at o <;> split at r <;> constructor <;> omega

/-- Signed. -/
def sg (x : Nat) : Int := if 2147483648 ≤ x then (x : Int) - 4294967296 else x
theorem sg_bd (x : Nat) (h : x < 4294967296) : -2147483648 ≤ sg x ∧ sg x < 2147483648 := by unfold sg; split <;> omega
theorem sg_mod (x : Nat) (h : x < 4294967296) : sg x % 4294967296 = x := by unfold sg; split <;> omega
/-- The quotient cut towards zero, by the magnitudes. -/
theorem tdiv_mag (n d : Int) : Int.tdiv n d = if (decide (n < 0) != decide (d < 0)) = true then -((n.natAbs / d.natAbs : Nat) : Int) else ((n.natAbs / d.natAbs : Nat) : Int) := by
  by_cases hn : n < 0
  · obtain ⟨m, rfl⟩ : ∃ m : Nat, n = -(m : Int) := ⟨n.natAbs, by omega⟩
    by_cases hd : d < 0
    · obtain ⟨k, rfl⟩ : ∃ k : Nat, d = -(k : Int) := ⟨d.natAbs, by omega⟩
      simp only [Int.neg_tdiv, Int.tdiv_neg, hn, hd, Int.natAbs_neg, Int.natAbs_natCast]
      simp
    · obtain ⟨k, rfl⟩ : ∃ k : Nat, d = (k : Int) := ⟨d.natAbs, by omega⟩
      simp only [Int.neg_tdiv, hn, hd, Int.natAbs_neg, Int.natAbs_natCast]
      simp
  · obtain ⟨m, rfl⟩ : ∃ m : Nat, n = (m : Int) := ⟨n.natAbs, by omega⟩
    by_cases hd : d < 0
    · obtain ⟨k, rfl⟩ : ∃ k : Nat, d = -(k : Int) := ⟨d.natAbs, by omega⟩
      simp only [Int.tdiv_neg, hn, hd, Int.natAbs_neg, Int.natAbs_natCast]
      simp
    · obtain ⟨k, rfl⟩ : ∃ k : Nat, d = (k : Int) := ⟨d.natAbs, by omega⟩
      simp only [hn, hd, Int.natAbs_natCast]
      simp
theorem tmod_mag (n d : Int) : Int.tmod n d = if n < 0 then -((n.natAbs % d.natAbs : Nat) : Int) else ((n.natAbs % d.natAbs : Nat) : Int) := by
  have e : Int.tmod n d = Int.tmod n (d.natAbs : Int) := by
    rcases Int.natAbs_eq d with hd | hd
    · rw [← hd]
    · generalize d.natAbs = k at *
      rw [hd, Int.tmod_neg]
  rw [e]
  by_cases hn : n < 0
  · obtain ⟨m, rfl⟩ : ∃ m : Nat, n = -(m : Int) := ⟨n.natAbs, by omega⟩
    rw [if_pos hn, Int.neg_tmod, Int.natAbs_neg, Int.natAbs_natCast]
    rfl
  · obtain ⟨m, rfl⟩ : ∃ m : Nat, n = (m : Int) := ⟨n.natAbs, by omega⟩
    rw [if_neg hn, Int.natAbs_natCast]
    rfl
theorem sar_high (x : Nat) (h : x < 4294967296) (hh : 2147483648 ≤ x) : sg (x / 2 + 2147483648) = sg x / 2 := by
  unfold sg
  rw [if_pos (by omega), if_pos hh]
  omega
theorem sar_low (x : Nat) (hh : ¬ 2147483648 ≤ x) : sg (x / 2) = sg x / 2 := by
  unfold sg
  rw [if_neg (by omega), if_neg hh]
  omega
theorem sar_step (z : Int) (n : Nat) : z / 2 / 2 ^ n = z / 2 ^ (n + 1) := by
  rw [Int.ediv_ediv_of_nonneg (by omega), Int.pow_succ, Int.mul_comm]
/-- The highest bit. -/
theorem high_bit (x : Nat) (h : x < 4294967296) : x / 2147483648 % 2 = if 2147483648 ≤ x then 1 else 0 := by
  split <;> omega
end Go.Proofs.YtipejahmjdamjaaDoor.Al
