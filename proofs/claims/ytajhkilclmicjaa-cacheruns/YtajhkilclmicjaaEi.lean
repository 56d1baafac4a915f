import Derived.Test.YtajhkilclmicjaaEh
namespace Go.Proofs.Ytajhkilclmicjaa
open Go.RowKit Go.Shelf
set_option linter.unusedVariables false
set_option linter.unusedSimpArgs false
set_option maxRecDepth 6000

/-- A call of the script. -/
structure OpV where
  dd : Int
  one : Int
  at' : Int
  ad : Option Addr
  ls : List (List Int)
  cap : Nat
def OpV.v (o : OpV) : Value := .agg #[.int .i64 o.dd, .int .i64 o.one, .int .i64 o.at', .slice o.ad o.ls.length o.cap]
structure OpAt (w : World) (g q : Nat) (o : OpV) : Prop where
  c0 : w.cell? ⟨g, q, none⟩ = some (.int .i64 o.dd)
  c1 : w.cell? ⟨g, q + 1, none⟩ = some (.int .i64 o.one)
  c2 : w.cell? ⟨g, q + 2, none⟩ = some (.int .i64 o.at')
  c3 : w.cell? ⟨g, q + 3, none⟩ = some (.slice o.ad o.ls.length o.cap)
  seg : SegL w o.ad o.ls
  len : (o.ls.length : Int) ≤ 9223372036854775807
def SegO (w : World) (ad : Option Addr) (os : List OpV) : Prop := os = [] ∨ ∃ g q, ad = some ⟨g, q, none⟩ ∧ ∀ (j : Nat) (o : OpV), os[j]? = some o → OpAt w g (q + j * 4) o
theorem OpAt.kept {w w' : World} {g q : Nat} {o : OpV} (h : OpAt w g q o) (hK : Keeps (fun _ => False) w w') : OpAt w' g q o :=
  ⟨cell_kept h.c0 hK fun h => h, cell_kept h.c1 hK fun h => h, cell_kept h.c2 hK fun h => h, cell_kept h.c3 hK fun h => h, h.seg.kept hK, h.len⟩

/-- Two pairs, apart from one another and from all that was there. -/
structure Du (w0 w : World) (a x b y : Nat) : Prop where
  keeps : Keeps (fun _ => False) w0 w
  two : ∃ D1 D2, Pr w a x D1 ∧ Pr w b y D2 ∧ (∀ k, D1 k → ¬ D2 k) ∧ (∀ k, D1 k → w0.heap.size ≤ k) ∧ ∀ k, D2 k → w0.heap.size ≤ k
theorem Du.swap {w0 w : World} {a x b y : Nat} (h : Du w0 w a x b y) : Du w0 w b y a x := by
  obtain ⟨h1, D1, D2, h2, h3, h4, h5, h6⟩ := h
  exact ⟨h1, D2, D1, h3, h2, fun k hk hk2 => h4 k hk2 hk, h6, h5⟩
theorem Du.kept {w0 w w' : World} {a x b y : Nat} (h : Du w0 w a x b y) (hK : Keeps (fun _ => False) w w') : Du w0 w' a x b y := by
  obtain ⟨h1, D1, D2, h2, h3, h4, h5, h6⟩ := h
  exact ⟨h1.trans hK fun _ _ h => h, D1, D2, h2.kept hK fun _ _ h => h, h3.kept hK fun _ _ h => h, h4, h5, h6⟩
theorem keeps_from {w0 w w' : World} {D : Nat → Prop} (h : Keeps (fun _ => False) w0 w) (hD : ∀ k, D k → w0.heap.size ≤ k) (hK : Keeps D w w') : Keeps (fun _ => False) w0 w' :=
  h.trans hK fun k hk hd => by have := hD k hd; omega
theorem Du.step {w0 w : World} {a x b y : Nat} (h : Du w0 w a x b y) (o : OpV) (g q : Nat) (hO : OpAt w0 g q o) :
    Calls Try.prog 11 #[ptr a, ptr x, o.v] w fun r w' => r = .returned (.bool true) ∧ Du w0 w' a x b y := by
  obtain ⟨h1, D1, D2, h2, h3, h4, h5, h6⟩ := h
  refine (one_any (D := D1) o.dd o.one o.at' o.ad o.ls o.cap h2 (fun w' hK => hO.seg.kept (keeps_from h1 h5 hK)) hO.len).mono ?_
  rintro r w' ⟨rfl, ⟨D', g1, g2⟩, g3⟩
  refine ⟨rfl, keeps_from h1 h5 g3, D', D2, g1, h3.kept g3 fun k hk hk1 => h4 k hk1 hk, fun k hk hk2 => ?_, fun k hk => ?_, h6⟩
  · rcases g2 k hk with h | h
    · exact h4 k h hk2
    · have := h3.lt k hk2; omega
  · rcases g2 k hk with h | h
    · exact h5 k h
    · have := h1.size; omega

/-- Both tell the same lines. -/
def LinP (w0 w' : World) (a x b y : Nat) (lls : List (List Int)) (r : Ending) : Prop := ∃ a1 p1, r = .returned (.slice a1 4 p1) ∧ SegL w' a1 lls ∧ Du w0 w' a x b y
theorem Du.lines {w0 w : World} {a x b y : Nat} (h : Du w0 w a x b y) : ∃ lls : List (List Int), lls.length = 4 ∧ (∀ w', Keeps (fun _ => False) w w' → Calls Try.prog 12 #[ptr a] w' fun r w2 => ∃ a1 p1, r = .returned (.slice a1 4 p1) ∧ SegL w2 a1 lls ∧ Keeps (fun _ => False) w' w2) ∧
    ∀ w', Keeps (fun _ => False) w w' → Calls Try.prog 14 #[ptr x] w' fun r w2 => ∃ a1 p1, r = .returned (.slice a1 4 p1) ∧ SegL w2 a1 lls ∧ Keeps (fun _ => False) w' w2 := by
  obtain ⟨h1, D1, D2, ⟨st, us, hs⟩, h3, h4, h5, h6⟩ := h
  have hr := hs.rel
  have hf := hs.few
  refine ⟨[st 0, st 1, st 2, st 3], rfl, fun w' hK => ?_, fun w' hK => ?_⟩
  · obtain ⟨_, u, F1, F2, g1, g2, g3, g4, g5, g6⟩ := hs.kept hK fun _ _ h => h
    refine (lines_any a st F1 w' g1).mono ?_
    rintro r w2 ⟨G, vs, rfl, k1, k2, k3⟩
    exact ⟨_, _, rfl, Four.segL (D := fun _ => True) k1.lst fun i hi => (hf i hi).2, k3⟩
  · obtain ⟨_, u, F1, F2, g1, g2, g3, g4, g5, g6⟩ := hs.kept hK fun _ _ h => h
    refine (linesR_any x us u F2 w' g2 hr.pos).mono ?_
    rintro r w3 ⟨G, vs, p2, rfl, k1, k2⟩
    refine ⟨_, _, rfl, ?_, k2⟩
    have e := Four.segL (D := fun _ => True) k1.lst fun i hi => hd_len _ _
    rw [show hd ((0 : Nat) : Int) us = st 0 from hr.eq 0 (by omega), show hd ((1 : Nat) : Int) us = st 1 from hr.eq 1 (by omega), show hd ((2 : Nat) : Int) us = st 2 from hr.eq 2 (by omega), show hd ((3 : Nat) : Int) us = st 3 from hr.eq 3 (by omega)] at e
    exact e

theorem pr_new {w w1 : World} {c b : Nat} {u : Value} {F1 F2 : Nat → Prop} (h1 : Ca w1 c (fun _ => []) F1) (h2 : Rc w1 b [] u F2) (h3 : ∀ k, F1 k → ¬ F2 k) : Pr w1 c b (fun k => F1 k ∨ F2 k) :=
  ⟨_, _, rel_none, u, F1, F2, h1, h2, h3, fun k hk => .inl hk, fun k hk => .inr hk, fun k hk => hk.elim (h1.lt k) (h2.lt k)⟩

set_option maxHeartbeats 4000000 in
theorem cacheRuns_any (ad : Option Addr) (os : List OpV) (cp : Nat) (w : World) (hl : os.length ≤ maxLen) (hs : SegO w ad os) :
    Calls Try.prog 3 #[.slice ad os.length cp] w fun r w' => r = .returned (.bool true) ∧ Keeps (fun _ => False) w w' := by
  obtain ⟨n, hn⟩ : ∃ n, n = os.length := ⟨_, rfl⟩
  have HS : Hid (SegO w ad os ∧ n = os.length) := ⟨hs, hn⟩
  have hc3 : (n : Int) ≤ 9223372036854775807 := by unfold maxLen at hl; omega
  rw [← hn]
  clear hl hs hn
  have H1 : Hid (Calls _ _ _ _ _) := newC_any w
  go_enter Try.func3, Try.ntmps3
  go_wp2_with fail
  refine H1.out.mono ?_
  rintro r w1 ⟨rfl, ⟨Fa, ha1, ha2⟩, hk1⟩
  have H2 : Hid (Calls _ _ _ _ _) := newC_any w1
  have HA : Hid (Ca w1 w.heap.size (fun _ => []) Fa ∧ (∀ k, Fa k → w.heap.size ≤ k) ∧ Keeps (fun _ => False) w w1) := ⟨ha1, ha2, hk1⟩
  clear H1 ha1 ha2 hk1
  obtain ⟨a, ea⟩ : ∃ a, a = w.heap.size := ⟨_, rfl⟩
  rw [← ea] at HA ⊢
  have HEA : Hid (a = w.heap.size) := ea
  clear ea
  go_wp2_with fail
  refine H2.out.mono ?_
  rintro r w2 ⟨rfl, ⟨Fb, hb1, hb2⟩, hk2⟩
  have H3 : Hid (Calls _ _ _ _ _) := newR_any w2
  have HB : Hid (Ca w2 w1.heap.size (fun _ => []) Fb ∧ (∀ k, Fb k → w1.heap.size ≤ k) ∧ Keeps (fun _ => False) w1 w2) := ⟨hb1, hb2, hk2⟩
  clear H2 hb1 hb2 hk2
  obtain ⟨b, eb⟩ : ∃ b, b = w1.heap.size := ⟨_, rfl⟩
  rw [← eb] at HB ⊢
  have HEB : Hid (b = w1.heap.size) := eb
  clear eb
  go_wp2_with fail
  refine H3.out.mono ?_
  rintro r w3 ⟨rfl, ⟨ux, Fx, hx1, hx2⟩, hk3⟩
  have H4 : Hid (Calls _ _ _ _ _) := newR_any w3
  have HX : Hid (Rc w3 w2.heap.size [] ux Fx ∧ (∀ k, Fx k → w2.heap.size ≤ k) ∧ Keeps (fun _ => False) w2 w3) := ⟨hx1, hx2, hk3⟩
  clear H3 hx1 hx2 hk3
  obtain ⟨x, ex⟩ : ∃ x, x = w2.heap.size := ⟨_, rfl⟩
  rw [← ex] at HX ⊢
  have HEX : Hid (x = w2.heap.size) := ex
  clear ex
  go_wp2_with fail
  refine H4.out.mono ?_
  rintro r w4 ⟨rfl, ⟨uy, Fy, hy1, hy2⟩, hk4⟩
  have HD : Hid (Du w w4 a x b w3.heap.size) := by
    obtain ⟨a1, a2, a3⟩ := HA.out
    obtain ⟨b1, b2, b3⟩ := HB.out
    obtain ⟨x1, x2, x3⟩ := HX.out
    have eb := HEB.out
    have ex := HEX.out
    have q1 := a3.size
    have q2 := b3.size
    have q3 := x3.size
    have lt1 := a1.lt
    have lt2 := b1.lt
    have lt3 := x1.lt
    refine ⟨((a3.trans b3 fun _ _ h => h).trans x3 fun _ _ h => h).trans hk4 fun _ _ h => h, _, _, pr_new (w := w) (((a1.kept b3 fun _ _ h => h).kept x3 fun _ _ h => h).kept hk4 fun _ _ h => h) (x1.kept hk4 fun _ _ h => h) ?_, pr_new (w := w) ((b1.kept x3 fun _ _ h => h).kept hk4 fun _ _ h => h) hy1 ?_, ?_, ?_, ?_⟩
    · intro k h1 h2
      have := lt1 k h1; have := x2 k h2; omega
    · intro k h1 h2
      have := lt2 k h1; have := hy2 k h2; omega
    · rintro k (h1 | h1) (h2 | h2)
      · have := lt1 k h1; have := b2 k h2; omega
      · have := lt1 k h1; have := hy2 k h2; omega
      · have := x2 k h1; have := lt2 k h2; omega
      · have := lt3 k h1; have := hy2 k h2; omega
    · rintro k (h1 | h1)
      · have := a2 k h1; have := HEA.out; omega
      · have := x2 k h1; omega
    · rintro k (h1 | h1)
      · have := b2 k h1; omega
      · have := hy2 k h1; omega
  obtain ⟨y, ey⟩ : ∃ y, y = w3.heap.size := ⟨_, rfl⟩
  rw [← ey] at HD ⊢
  clear H4 hy1 hy2 hk4 HA HB HX HEB HEX HEA ey
  go_wp2
  go_loopw [17] (fun i wr => ∃ (j : Nat), j ≤ n ∧ i = .int .i64 j ∧ Du w wr a x b y) (fun i _ => n - (intOf i).toNat)
  case atStart => exact ⟨0, by omega, rfl, HD.out⟩
  case round =>
    clear HD
    obtain ⟨j, hj, rfl, hD⟩ := hrel
    by_cases hlt : j < n
    · obtain ⟨o, ho⟩ : ∃ o, os[j]? = some o := ⟨_, List.getElem?_eq_getElem (by have := HS.out.2; omega)⟩
      obtain ⟨g, q, rfl, hO⟩ : ∃ g q, ad = some ⟨g, q, none⟩ ∧ OpAt w g (q + j * 4) o := by
        rcases HS.out.1 with h | ⟨g, q, ha, h⟩
        · rw [h] at ho; simp at ho
        · exact ⟨g, q, ha, h j o ho⟩
      obtain ⟨o0, o1, o2, o3, _, _⟩ := hO.kept hD.keeps
      have hlt' : (j : Int) < n := by omega
      by_cases h0 : o.one = 0
      · have H5 : Hid (Calls _ _ _ _ _) := hD.step o g _ hO
        have f0 : (o.one == 0) = true := by simpa using h0
        unfold OpV.v at H5
        clear hD hO ho h0
        go_wp2_with fail
        refine H5.out.mono ?_
        rintro r w5 ⟨rfl, hD5⟩
        have HD5 : Hid (Du w w5 a x b y) := hD5
        clear H5 hD5 o0 o1 o2 o3 f0
        go_wp2
        go_roundw
        case rel => exact ⟨j + 1, by omega, by go_num, HD5.out⟩
        case measure => simp [intOf]; omega
      · have f0 : (o.one == 0) = false := by simpa using h0
        by_cases h1 : o.one = 1
        · have H5 : Hid (Calls _ _ _ _ _) := hD.swap.step o g _ hO
          have f1 : (o.one == 1) = true := by simpa using h1
          unfold OpV.v at H5
          clear hD hO ho h0 h1
          go_wp2_with fail
          refine H5.out.mono ?_
          rintro r w5 ⟨rfl, hD5⟩
          have HD5 : Hid (Du w w5 a x b y) := hD5.swap
          clear H5 hD5 o0 o1 o2 o3 f0 f1
          go_wp2
          go_roundw
          case rel => exact ⟨j + 1, by omega, by go_num, HD5.out⟩
          case measure => simp [intOf]; omega
        · have f1 : (o.one == 1) = false := by simpa using h1
          have H5 : Hid (Calls _ _ _ _ _) := one_nil o.dd o.one o.at' o.ad o.ls o.cap wr (hO.seg.kept hD.keeps) hO.len
          have HDr : Hid (Du w wr a x b y) := hD
          clear hD hO ho h0 h1
          go_wp2_with fail
          refine H5.out.mono ?_
          rintro r w5 ⟨rfl, hK5⟩
          have HD5 : Hid (Du w w5 a x b y) := HDr.out.kept hK5
          clear H5 hK5 o0 o1 o2 o3 f0 f1 HDr
          go_wp2
          go_roundw
          case rel => exact ⟨j + 1, by omega, by go_num, HD5.out⟩
          case measure => simp [intOf]; omega
    · obtain rfl : j = n := by omega
      obtain ⟨la, hla, L1, L2⟩ := hD.lines
      obtain ⟨lb, hlb, M1, M2⟩ := hD.swap.lines
      have HK : Hid (Keeps (fun _ => False) w wr) := hD.keeps
      have HL1 : Hid (Calls _ _ _ _ _) := L1 wr (Keeps.refl _ _)
      have HL2 : Hid (∀ w', Keeps (fun _ => False) wr w' → Calls _ _ _ _ _) := L2
      have HM1 : Hid (∀ w', Keeps (fun _ => False) wr w' → Calls _ _ _ _ _) := M1
      have HM2 : Hid (∀ w', Keeps (fun _ => False) wr w' → Calls _ _ _ _ _) := M2
      have HLn : Hid (la.length = 4 ∧ lb.length = 4) := ⟨hla, hlb⟩
      clear L1 L2 M1 M2 hla hlb hD
      go_wp2_with fail
      refine HL1.out.mono ?_
      rintro r w5 ⟨a5, p5, rfl, s5, k5⟩
      have H6 : Hid (Calls _ _ _ _ _) := HM1.out w5 k5
      have S5 : Hid (SegL w5 a5 la ∧ Keeps (fun _ => False) wr w5) := ⟨s5, k5⟩
      clear HL1 HM1 s5 k5
      go_wp2_with fail
      refine H6.out.mono ?_
      rintro r w6 ⟨a6, p6, rfl, s6, k6⟩
      have H7 : Hid (Calls _ _ _ _ _) := HL2.out w6 (S5.out.2.trans k6 fun _ _ h => h)
      have S6 : Hid (SegL w6 a5 la ∧ SegL w6 a6 lb ∧ Keeps (fun _ => False) wr w6) := ⟨S5.out.1.kept k6, s6, S5.out.2.trans k6 fun _ _ h => h⟩
      clear H6 HL2 s6 k6 S5
      go_wp2_with fail
      refine H7.out.mono ?_
      rintro r w7 ⟨a7, p7, rfl, s7, k7⟩
      have H8 : Hid (Calls _ _ _ _ _) := same_all a5 a7 la p5 p7 w7 (S6.out.1.kept k7) s7 (by rw [HLn.out.1]; omega)
      rw [HLn.out.1] at H8
      have S7 : Hid (SegL w7 a6 lb ∧ Keeps (fun _ => False) wr w7) := ⟨S6.out.2.1.kept k7, S6.out.2.2.trans k7 fun _ _ h => h⟩
      clear H7 s7 k7 S6
      go_wp2_with fail
      refine H8.out.mono ?_
      rintro r w8 ⟨rfl, k8⟩
      have H9 : Hid (Calls _ _ _ _ _) := HM2.out w8 (S7.out.2.trans k8 fun _ _ h => h)
      have S8 : Hid (SegL w8 a6 lb ∧ Keeps (fun _ => False) wr w8) := ⟨S7.out.1.kept k8, S7.out.2.trans k8 fun _ _ h => h⟩
      clear H8 k8 S7 HM2
      go_wp2_with fail
      refine H9.out.mono ?_
      rintro r w9 ⟨a9, p9, rfl, s9, k9⟩
      have HA9 : Hid (Calls _ _ _ _ _) := same_all a6 a9 lb p6 p9 w9 (S8.out.1.kept k9) s9 (by rw [HLn.out.2]; omega)
      rw [HLn.out.2] at HA9
      have S9 : Hid (Keeps (fun _ => False) w w9) := (HK.out.trans S8.out.2 fun _ _ h => h).trans k9 fun _ _ h => h
      clear H9 s9 k9 S8
      go_wp2_with fail
      refine HA9.out.mono ?_
      rintro r w10 ⟨rfl, k10⟩
      have S10 : Hid (Keeps (fun _ => False) w w10) := S9.out.trans k10 fun _ _ h => h
      clear HA9 k10 S9
      go_wp2
      go_ret
      exact ⟨rfl, S10.out⟩

end Go.Proofs.Ytajhkilclmicjaa
