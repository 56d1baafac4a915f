import Derived.Test.YtadhldpeklkcmaaRd
namespace Go.Proofs.Ytadhldpeklkcmaa
open Go.RowKit
set_option linter.unusedVariables false

set_option maxHeartbeats 1000000 in
theorem rrestore_no (a1 a2 : Option Addr) (c1 c2 n t : Nat) (h : Int) (asked : Bool) (w : World) (hn : n ≤ 4294967296) (ht : t ≤ 4294967296) (hc : canB n h asked t = false) :
    Calls Try.prog 44 #[.slice a1 n c1, .int .i64 h, .bool asked, .slice a2 t c2] w fun e w' => e = .returned (.tuple #[.pointer none, .int .i64 1]) ∧ Keeps (fun _ => False) w w' := by
  have hn2 : (n : Int) ≤ 4294967296 := by omega
  have ht2 : (t : Int) ≤ 4294967296 := by omega
  unfold canB at hc
  by_cases h0 : 0 ≤ h ∧ h ≤ n
  · rw [decide_eq_true h0, Bool.true_and] at hc
    obtain ⟨h1, h2⟩ := h0
    cases asked with
    | true =>
      rw [if_pos rfl] at hc
      by_cases h3 : h = n
      · subst h3
        clear hc
        go_enter Try.func44, Try.ntmps44
        go_wp2
        go_ret2
        exact ⟨rfl, Keeps.refl _ _⟩
      · have h4 : h < n := by omega
        rw [decide_eq_true h4, Bool.true_and] at hc
        have h5 : ¬ ((t : Int) = h + 1) := by simpa using hc
        have h6 : IntKind.i64.wrap (h + 1) = h + 1 := by rw [IntKind.wrap_i64]; omega
        have h3a : (h == (n : Int)) = false := beq_eq_false_iff_ne.2 h3
        have h5a : ((t : Int) != h + 1) = true := bne_iff_ne.2 h5
        clear hc
        go_enter Try.func44, Try.ntmps44
        go_wp2
        go_ret2
        exact ⟨rfl, Keeps.refl _ _⟩
    | false =>
      rw [if_neg (by simp)] at hc
      have h5 : ¬ ((t : Int) = h) := by simpa using hc
      have h5a : ((t : Int) != h) = true := bne_iff_ne.2 h5
      clear hc
      go_enter Try.func44, Try.ntmps44
      go_wp2
      go_ret2
      exact ⟨rfl, Keeps.refl _ _⟩
  · clear hc
    by_cases h1 : h < 0
    · clear h0
      go_enter Try.func44, Try.ntmps44
      go_wp2
      go_ret2
      exact ⟨rfl, Keeps.refl _ _⟩
    · have h2 : (n : Int) < h := by omega
      clear h0
      go_enter Try.func44, Try.ntmps44
      go_wp2
      go_ret2
      exact ⟨rfl, Keeps.refl _ _⟩

def rrestP (a : Bool) (lk : List Int) (tk : List UInt32) (w : World) (X : Chn) (w' : World) : Prop := RkP lk tk (if a then 2 else settledN lk tk) w X w'

set_option maxHeartbeats 1000000 in
theorem rrestore_ok (a1 a2 : Option Addr) (c1 c2 : Nat) (zs : List Int) (ts : List UInt32) (h : Int) (asked : Bool) (w : World) (hx : SegI w a1 zs) (hy : SegW w a2 ts) (hl : zs.length ≤ 4294967296) (hc : canB zs.length h asked ts.length = true) :
    Calls Try.prog 44 #[.slice a1 zs.length c1, .int .i64 h, .bool asked, .slice a2 ts.length c2] w fun e w' => ∃ X, e = .returned (.tuple #[.pointer (some ⟨X.b, 0, none⟩), .int .i64 0]) ∧ rrestP asked zs ts w X w' := by
  have hok := canB_ok hc
  have htl : ts.length ≤ zs.length := by rcases hok with h | h <;> omega
  have hbd : 0 ≤ h ∧ h ≤ zs.length ∧ h ≤ 4294967296 := by rcases hok with h | h <;> omega
  obtain ⟨hb1, hb2, hb3⟩ := hbd
  have HC : Hid (Calls _ _ _ _ _) := rnewc_any a1 c1 zs w hx hl
  have HAP := fun w1 (hk : Keeps (fun _ => False) w w1) => nil_app_words a2 c2 ts w1 (hy.kept hk fun _ _ e => e) (by omega)
  have HAP : Hid (∀ w1, Keeps (fun _ => False) w w1 → _) := HAP
  have hneq : asked = true → ¬ h = (zs.length : Int) := by intro e; rcases hok with h1 | h1; omega; rw [h1.1] at e; cases e
  have hwant : asked = true → (ts.length : Int) = h + 1 := by intro e; rcases hok with h1 | h1; omega; rw [h1.1] at e; cases e
  have hwant2 : asked = false → (ts.length : Int) = h := by intro e; rcases hok with h1 | h1; rw [h1.1] at e; cases e; exact h1.2.2.symm
  obtain ⟨n, hn⟩ : ∃ n, n = zs.length := ⟨_, rfl⟩
  obtain ⟨t, ht⟩ : ∃ t, t = ts.length := ⟨_, rfl⟩
  obtain ⟨ST, hST⟩ : ∃ ST, ST = (if asked then 2 else settledN zs ts) := ⟨_, rfl⟩
  have HL : Hid (n = zs.length ∧ t = ts.length ∧ zs.length ≤ 4294967296 ∧ StOk zs.length ts.length ST ∧ askedB ST = asked ∧ h = (heldN ts ST : Nat)) := by
    have hsn : settledN zs ts ≠ 2 := by unfold settledN; split <;> omega
    refine ⟨hn, ht, hl, ?_, ?_, ?_⟩
    · rw [hST]
      cases asked with
      | true => exact .inr (.inr ⟨rfl, by have := hwant rfl; omega, htl⟩)
      | false =>
        rw [if_neg (by simp)]
        unfold settledN
        split
        · rename_i h6; exact .inl ⟨rfl, h6⟩
        · rename_i h6; exact .inr (.inl ⟨rfl, by omega⟩)
    · rw [hST]
      cases asked with
      | true => rfl
      | false => unfold askedB; exact decide_eq_false (by rw [if_neg (by simp)]; exact hsn)
    · rw [hST]
      unfold heldN
      cases asked with
      | true => have := hwant rfl; simp; omega
      | false => have := hwant2 rfl; simp [hsn]; omega
  unfold rrestP
  rw [← hST]
  clear hST
  rw [← hn] at HC hneq hb2 ⊢
  rw [← ht] at hwant hwant2 HAP ⊢
  have h6 : IntKind.i64.wrap (h + 1) = h + 1 := by rw [IntKind.wrap_i64]; omega
  clear hx hy hl hc hok htl hn ht
  cases asked with
  | true =>
    have h3 := hneq rfl
    have h3a : (h == (n : Int)) = false := beq_eq_false_iff_ne.2 h3
    have h5 := hwant rfl
    have h5a : ((t : Int) != h + 1) = false := by rw [h5]; simp
    clear hneq hwant hwant2 h5
    go_enter Try.func44, Try.ntmps44
    go_wp2_with fail
    refine HC.out.mono ?_
    rintro e w1 ⟨X, rfl, hvt, e1, e2, e3, hX, hXf, hk1⟩
    have hB1 := hX.blk
    rw [hvt] at hB1
    obtain ⟨xb, hxb⟩ : ∃ xb, xb = X.b := ⟨_, rfl⟩
    rw [← hxb] at hB1 ⊢
    have g1 := hB1.cell (i := 1) rfl
    have g2 := hB1.cell (i := 2) rfl
    have g3 := hB1.cell (i := 3) rfl
    have y1 := hB1.frozen 1
    have y2 := hB1.frozen 2
    obtain ⟨w2, hw2⟩ : ∃ w2, w2 = (w1.setCell ⟨xb, 1, none⟩ (.int .i64 h)).setCell ⟨xb, 2, none⟩ (.bool true) := ⟨_, rfl⟩
    have hB2 : Blk w2 xb [X.vl, .int .i64 h, .bool true, .slice none 0 0] 93 := by rw [hw2]; exact (hB1.setCell 1 _).setCell 2 _
    have hK12 : Keeps (· = xb) w1 w2 := by rw [hw2]; exact ((Keeps.refl (· = xb) w1).setCell _ _ fun _ => rfl).setCell _ _ fun _ => rfl
    have hxlt : w.heap.size ≤ xb := by rw [hxb]; exact hXf _ (.inl rfl)
    have hk2 : Keeps (fun _ => False) w w2 := hk1.trans hK12 fun b hb e => by omega
    obtain ⟨v', W', hap, v'', hv, how, hfr, hk⟩ := HAP.out w2 hk2
    cases hv
    obtain ⟨a', c', hv', -, -⟩ := owns_slice how
    subst hv'
    have hBW := hB2.kept hk (fun e => e)
    have f3 := hBW.cell (i := 3) rfl
    have z3 := hBW.frozen 3
    have HF : Hid (RkP zs ts ST w ⟨xb, X.vl, .slice a' t c', zs, ts, ST⟩ (W'.setCell ⟨xb, 3, none⟩ (.slice a' t c'))) := by
      have hKB : Keeps (· = xb) W' (W'.setCell ⟨xb, 3, none⟩ (.slice a' t c')) := (Keeps.refl _ _).setCell _ _ fun _ => rfl
      have hszx : xb < w1.heap.size := hB1.lt
      have hsz12 := hK12.size
      have hob : ∀ k, (Value.slice a' t c').ownBlock = some k → w2.heap.size ≤ k := by
        intro k hk'
        rcases hfr with h | ⟨k', h, h2⟩
        · rw [h] at hk'; cases hk'
        · rw [h] at hk'; cases hk'; exact h2
      have hvl : ∀ k, X.vl.ownBlock = some k → k < w1.heap.size ∧ k ≠ xb := by
        intro k hk'
        exact ⟨owns_lt hX.lrow hk', fun e => by rw [e, hxb] at hk'; exact hX.nl hk'⟩
      have hlr := hX.lrow
      rw [e1] at hlr
      have hhd := HL.out.2.2.2.2.2
      refine ⟨rfl, rfl, rfl, ⟨?_, ?_, ?_, ?_, ?_, ?_, HL.out.2.2.1, ?_⟩, ?_, ?_⟩
      · show Blk _ xb [X.vl, .int .i64 (heldN ts ST : Nat), .bool (askedB ST), .slice a' t c'] 93
        rw [← hhd, HL.out.2.2.2.2.1]
        exact hBW.setCell 3 _
      · exact owns_kept (owns_kept (owns_kept hlr hK12 fun k hk' e => (hvl k hk').2 e) hk fun _ _ e => e) hKB fun k hk' e => (hvl k hk').2 e
      · show World.ownsRow _ 0 26 1 _ ts.length (wvs ts)
        rw [← HL.out.2.1]
        refine owns_kept how hKB fun k hk' e => ?_
        have := hob k hk'; omega
      · intro e; exact (hvl _ e).2 rfl
      · intro e; have := hob _ e; simp only at this; omega
      · intro k hk' e
        have := hob k e
        have := (hvl k hk').1
        omega
      · exact HL.out.2.2.2.1
      · rintro k (rfl | h1 | h1)
        · exact hxlt
        · exact hXf k (.inr (.inl h1))
        · have := hob k h1; have := hk2.size; omega
      · exact ((hk2.trans hk fun _ _ e => e).setCell _ _ fun e => by simp only at e; omega)
    have hsz : w2.heap.size = w1.heap.size := by rw [hw2]; simp
    rw [hw2] at hap
    have HAP2 : Hid (∀ ty, _) := hap
    clear hX hXf hk1 hB1 hvt hxb hB2 hK12 hxlt hk2 hap how hfr hk hBW hw2 HC HAP e1 e2 e3 hsz
    go_wp2_with (at_builtin; go_must (refine wpList_append_run rfl (.tmp 51) (.tmp 52) 28 28 rfl (.slice none 0 0) (.slice a2 t c2) (.slice a' t c') W' rfl rfl HAP2.out ?_; refine Hid.out ?_))
    unfold Hid
    clear HAP2
    go_wp2
    go_ret2
    exact ⟨_, rfl, HF.out⟩
  | false =>
    have h5 := hwant2 rfl
    have h5a : ((t : Int) != h) = false := by rw [h5]; simp
    clear hneq hwant hwant2 h5
    go_enter Try.func44, Try.ntmps44
    go_wp2_with fail
    refine HC.out.mono ?_
    rintro e w1 ⟨X, rfl, hvt, e1, e2, e3, hX, hXf, hk1⟩
    have hB1 := hX.blk
    rw [hvt] at hB1
    obtain ⟨xb, hxb⟩ : ∃ xb, xb = X.b := ⟨_, rfl⟩
    rw [← hxb] at hB1 ⊢
    have g1 := hB1.cell (i := 1) rfl
    have g2 := hB1.cell (i := 2) rfl
    have g3 := hB1.cell (i := 3) rfl
    have y1 := hB1.frozen 1
    have y2 := hB1.frozen 2
    obtain ⟨w2, hw2⟩ : ∃ w2, w2 = (w1.setCell ⟨xb, 1, none⟩ (.int .i64 h)).setCell ⟨xb, 2, none⟩ (.bool false) := ⟨_, rfl⟩
    have hB2 : Blk w2 xb [X.vl, .int .i64 h, .bool false, .slice none 0 0] 93 := by rw [hw2]; exact (hB1.setCell 1 _).setCell 2 _
    have hK12 : Keeps (· = xb) w1 w2 := by rw [hw2]; exact ((Keeps.refl (· = xb) w1).setCell _ _ fun _ => rfl).setCell _ _ fun _ => rfl
    have hxlt : w.heap.size ≤ xb := by rw [hxb]; exact hXf _ (.inl rfl)
    have hk2 : Keeps (fun _ => False) w w2 := hk1.trans hK12 fun b hb e => by omega
    obtain ⟨v', W', hap, v'', hv, how, hfr, hk⟩ := HAP.out w2 hk2
    cases hv
    obtain ⟨a', c', hv', -, -⟩ := owns_slice how
    subst hv'
    have hBW := hB2.kept hk (fun e => e)
    have f3 := hBW.cell (i := 3) rfl
    have z3 := hBW.frozen 3
    have HF : Hid (RkP zs ts ST w ⟨xb, X.vl, .slice a' t c', zs, ts, ST⟩ (W'.setCell ⟨xb, 3, none⟩ (.slice a' t c'))) := by
      have hKB : Keeps (· = xb) W' (W'.setCell ⟨xb, 3, none⟩ (.slice a' t c')) := (Keeps.refl _ _).setCell _ _ fun _ => rfl
      have hszx : xb < w1.heap.size := hB1.lt
      have hsz12 := hK12.size
      have hob : ∀ k, (Value.slice a' t c').ownBlock = some k → w2.heap.size ≤ k := by
        intro k hk'
        rcases hfr with h | ⟨k', h, h2⟩
        · rw [h] at hk'; cases hk'
        · rw [h] at hk'; cases hk'; exact h2
      have hvl : ∀ k, X.vl.ownBlock = some k → k < w1.heap.size ∧ k ≠ xb := by
        intro k hk'
        exact ⟨owns_lt hX.lrow hk', fun e => by rw [e, hxb] at hk'; exact hX.nl hk'⟩
      have hlr := hX.lrow
      rw [e1] at hlr
      have hhd := HL.out.2.2.2.2.2
      refine ⟨rfl, rfl, rfl, ⟨?_, ?_, ?_, ?_, ?_, ?_, HL.out.2.2.1, ?_⟩, ?_, ?_⟩
      · show Blk _ xb [X.vl, .int .i64 (heldN ts ST : Nat), .bool (askedB ST), .slice a' t c'] 93
        rw [← hhd, HL.out.2.2.2.2.1]
        exact hBW.setCell 3 _
      · exact owns_kept (owns_kept (owns_kept hlr hK12 fun k hk' e => (hvl k hk').2 e) hk fun _ _ e => e) hKB fun k hk' e => (hvl k hk').2 e
      · show World.ownsRow _ 0 26 1 _ ts.length (wvs ts)
        rw [← HL.out.2.1]
        refine owns_kept how hKB fun k hk' e => ?_
        have := hob k hk'; omega
      · intro e; exact (hvl _ e).2 rfl
      · intro e; have := hob _ e; simp only at this; omega
      · intro k hk' e
        have := hob k e
        have := (hvl k hk').1
        omega
      · exact HL.out.2.2.2.1
      · rintro k (rfl | h1 | h1)
        · exact hxlt
        · exact hXf k (.inr (.inl h1))
        · have := hob k h1; have := hk2.size; omega
      · exact ((hk2.trans hk fun _ _ e => e).setCell _ _ fun e => by simp only at e; omega)
    have hsz : w2.heap.size = w1.heap.size := by rw [hw2]; simp
    rw [hw2] at hap
    have HAP2 : Hid (∀ ty, _) := hap
    clear hX hXf hk1 hB1 hvt hxb hB2 hK12 hxlt hk2 hap how hfr hk hBW hw2 HC HAP e1 e2 e3 hsz
    go_wp2_with (at_builtin; go_must (refine wpList_append_run rfl (.tmp 51) (.tmp 52) 28 28 rfl (.slice none 0 0) (.slice a2 t c2) (.slice a' t c') W' rfl rfl HAP2.out ?_; refine Hid.out ?_))
    unfold Hid
    clear HAP2
    go_wp2
    go_ret2
    exact ⟨_, rfl, HF.out⟩

end Go.Proofs.Ytadhldpeklkcmaa
