import Derived.Test.YtadhldpeklkcmaaK
import Derived.Deep.RegionHeld3
namespace Go.Proofs.Ytadhldpeklkcmaa
open Go.RowKit
set_option linter.unusedVariables false

/-- Can a chain of n locks be so far, with t tickets? -/
def canB (n : Nat) (h : Int) (asked : Bool) (t : Nat) : Bool :=
  decide (0 ≤ h ∧ h ≤ n) && (if asked then decide (h < n) && decide ((t : Int) = h + 1) else decide ((t : Int) = h))

set_option maxHeartbeats 400000 in
theorem canBe_any (n : Nat) (h : Int) (asked : Bool) (t : Nat) (w : World) (hn : n ≤ 4294967296) :
    Calls Try.prog 61 #[.int .i64 n, .int .i64 h, .bool asked, .int .i64 t] w fun e w' => e = .returned (.bool (canB n h asked t)) ∧ w' = w := by
  have hn2 : (n : Int) ≤ 4294967296 := by omega
  unfold canB
  by_cases h0 : 0 ≤ h ∧ h ≤ n
  · rw [decide_eq_true h0, Bool.true_and]
    obtain ⟨h1, h2⟩ := h0
    have h3 : IntKind.i64.wrap (h + 1) = h + 1 := by rw [IntKind.wrap_i64]; omega
    cases asked with
    | true =>
      rw [if_pos rfl]
      by_cases h4 : h < n
      · rw [decide_eq_true h4, Bool.true_and]
        go_enter Try.func61, Try.ntmps61
        go_wp2
        go_ret
        exact ⟨ret_bool rfl, rfl⟩
      · rw [decide_eq_false h4, Bool.false_and]
        go_enter Try.func61, Try.ntmps61
        go_wp2
        go_ret
        exact ⟨rfl, rfl⟩
    | false =>
      rw [if_neg (by simp)]
      go_enter Try.func61, Try.ntmps61
      go_wp2
      go_ret
      exact ⟨ret_bool rfl, rfl⟩
  · rw [decide_eq_false h0, Bool.false_and]
    by_cases h1 : h < 0
    · clear h0
      go_enter Try.func61, Try.ntmps61
      go_wp2
      go_ret
      exact ⟨rfl, rfl⟩
    · have h2 : (n : Int) < h := by omega
      clear h0
      go_enter Try.func61, Try.ntmps61
      go_wp2
      go_ret
      exact ⟨rfl, rfl⟩

theorem canB_ok {n : Nat} {h : Int} {t : Nat} {asked : Bool} (hc : canB n h asked t = true) : (asked = true ∧ 0 < t ∧ t ≤ n ∧ h = (t : Int) - 1) ∨ (asked = false ∧ t ≤ n ∧ h = t) := by
  unfold canB at hc
  cases asked <;> simp at hc
  · right; exact ⟨rfl, by omega, by omega⟩
  · left; exact ⟨rfl, by omega, by omega, by omega⟩

def restP (a : Bool) (lk : List Int) (tk : List UInt32) (w : World) (X : Chn) (w' : World) : Prop := MkP lk tk (if a then 2 else settledN lk tk) w X w'

set_option maxHeartbeats 1000000 in
theorem restore_no (a1 a2 : Option Addr) (c1 c2 n t : Nat) (h : Int) (asked : Bool) (w : World) (hn : n ≤ 4294967296) (hc : canB n h asked t = false) :
    Calls Try.prog 27 #[.slice a1 n c1, .int .i64 h, .bool asked, .slice a2 t c2] w fun e w' => e = .returned (.tuple #[.pointer none, .int .i64 1]) ∧ Keeps (fun _ => False) w w' := by
  have HC := canBe_any n h asked t w hn
  rw [hc] at HC
  have HC : Hid (Calls _ _ _ _ _) := HC
  clear hc
  go_enter Try.func27, Try.ntmps27
  go_wp2_with fail
  refine HC.out.mono ?_
  rintro e w1 ⟨rfl, hw⟩
  obtain rfl := hw.symm
  clear hw
  go_wp2
  go_ret2
  exact ⟨rfl, Keeps.refl _ _⟩

set_option maxHeartbeats 1000000 in
theorem restore_ok (a1 a2 : Option Addr) (c1 c2 : Nat) (zs : List Int) (ts : List UInt32) (h : Int) (asked : Bool) (w : World) (hx : SegI w a1 zs) (hy : SegW w a2 ts) (hl : zs.length ≤ 4294967296) (ht : ∀ z ∈ zs, z ≤ 9223372036854775807) (hc : canB zs.length h asked ts.length = true) :
    Calls Try.prog 27 #[.slice a1 zs.length c1, .int .i64 h, .bool asked, .slice a2 ts.length c2] w fun e w' => ∃ X, e = .returned (.tuple #[.pointer (some ⟨X.b, 0, none⟩), .int .i64 0]) ∧ restP asked zs ts w X w' := by
  have HC := canBe_any zs.length h asked ts.length w hl
  rw [hc] at HC
  have HC : Hid (Calls _ _ _ _ _) := HC
  have hok := canB_ok hc
  have htl : ts.length ≤ zs.length := by rcases hok with h | h <;> omega
  have H1 : Hid (Calls _ _ _ _ _) := clone_ints a1 c1 zs w hx hl
  have H2 : ∀ w1, Keeps (fun _ => False) w w1 → Calls _ _ _ _ _ := fun w1 hk => clone_words a2 c2 ts w1 (hy.kept hk fun _ _ e => e) (by omega)
  obtain ⟨n, hn⟩ : ∃ n, n = zs.length := ⟨_, rfl⟩
  obtain ⟨t, ht'⟩ : ∃ t, t = ts.length := ⟨_, rfl⟩
  rw [← hn] at HC H1 ⊢
  rw [← ht'] at HC H2 ⊢
  have H2 : Hid (∀ w1, Keeps (fun _ => False) w w1 → Calls _ _ _ _ _) := H2
  have HL : Hid (n = zs.length ∧ t = ts.length ∧ zs.length ≤ 4294967296 ∧ (∀ z ∈ zs, z ≤ 9223372036854775807) ∧ t ≤ n ∧ (asked = true → 0 < t)) := ⟨hn, ht', hl, ht, by omega, fun h => by rcases hok with h1 | h1; omega; rw [h1.1] at h; cases h⟩
  clear hx hy hl ht hc hok htl hn ht'
  go_enter Try.func27, Try.ntmps27
  go_wp2_with fail
  refine HC.out.mono ?_
  rintro e w1 ⟨rfl, hw⟩
  obtain rfl := hw.symm
  clear hw HC
  go_wp2_with fail
  refine H1.out.mono ?_
  rintro e w1 ⟨v1, rfl, ho1, hf1, hk1⟩
  obtain ⟨al, cl, rfl, -, -⟩ := owns_slice ho1
  have HO1 : Hid (_ ∧ _ ∧ Keeps (fun _ => False) w w1) := ⟨ho1, hf1, hk1⟩
  clear ho1 hf1 hk1 H1
  go_wp2_with fail
  refine (H2.out w1 HO1.out.2.2).mono ?_
  rintro e w2 ⟨v2, rfl, ho2, hf2, hk2⟩
  obtain ⟨at', ct, rfl, -, -⟩ := owns_slice ho2
  have HO2 : Hid (_ ∧ _ ∧ Keeps (fun _ => False) w1 w2) := ⟨ho2, hf2, hk2⟩
  clear ho2 hf2 hk2 H2
  have hX : ∀ st, StOk n t st → ∀ w3, Keeps (fun _ => False) w2 w3 → Blk w3 w2.heap.size [.slice al n cl, .slice at' t ct, .int .i64 (st : Int)] 112 → MkP zs ts st w ⟨w2.heap.size, .slice al n cl, .slice at' t ct, zs, ts, st⟩ w3 := by
    intro st hst w3 hk3 hB
    have hn := HL.out.1
    have ht := HL.out.2.1
    have hs1 := HO1.out.2.2.size
    have hs2 := HO2.out.2.2.size
    have hk23 := HO2.out.2.2.trans hk3 fun _ _ e => e
    refine ⟨rfl, rfl, rfl, ⟨hB, ?_, ?_, ?_, ?_, ?_, HL.out.2.2.1, HL.out.2.2.2.1, ?_⟩, ?_, ?_⟩
    · show World.ownsRow _ 0 3 1 _ zs.length (ivs zs)
      rw [← hn]
      exact owns_kept HO1.out.1 hk23 (fun _ _ e => e)
    · show World.ownsRow _ 0 26 1 _ ts.length (wvs ts)
      rw [← ht]
      exact owns_kept HO2.out.1 hk3 (fun _ _ e => e)
    · intro h
      have := owns_lt HO1.out.1 h
      simp only at this
      omega
    · intro h
      have := owns_lt HO2.out.1 h
      simp only at this
      omega
    · intro k hk h
      have h3 := owns_lt HO1.out.1 hk
      rcases HO2.out.2.1 with h1 | ⟨k', h1, h2⟩
      · rw [h1] at h; cases h
      · rw [h1] at h; cases h; omega
    · show StOk zs.length ts.length st
      rw [← hn, ← ht]; exact hst
    · rintro k (rfl | h | h)
      · show w.heap.size ≤ w2.heap.size
        omega
      · rcases HO1.out.2.1 with h1 | ⟨k', h1, h2⟩
        · rw [h1] at h; cases h
        · rw [h1] at h; cases h; exact h2
      · rcases HO2.out.2.1 with h1 | ⟨k', h1, h2⟩
        · rw [h1] at h; cases h
        · rw [h1] at h; cases h; omega
    · exact HO1.out.2.2.trans hk23 fun _ _ e => e
  have HX : Hid (∀ st, _) := hX
  clear hX
  cases asked with
  | true =>
    have HF : Hid (restP true zs ts w ⟨w2.heap.size, .slice al n cl, .slice at' t ct, zs, ts, 2⟩ (w2.alloc (.cells #[.slice al n cl, .slice at' t ct, .int .i64 2] 112))) :=
      HX.out 2 (.inr (.inr ⟨rfl, HL.out.2.2.2.2.2 rfl, HL.out.2.2.2.2.1⟩)) _ ((Keeps.refl _ _).alloc _) (Blk.new w2 #[.slice al n cl, .slice at' t ct, .int .i64 2] 112)
    clear HX
    go_wp2
    go_ret2
    exact ⟨_, rfl, HF.out⟩
  | false =>
    go_wp2_with fail
    have HS := settled_any w2.heap.size n cl t ct al at' (.int .i64 2) (w2.alloc (.cells #[.slice al n cl, .slice at' t ct, .int .i64 2] 112)) (Blk.new w2 #[.slice al n cl, .slice at' t ct, .int .i64 2] 112)
    have hset : (if t = n then (0 : Int) else 1) = ((settledN zs ts : Nat) : Int) := by unfold settledN; rw [← HL.out.1, ← HL.out.2.1]; split <;> rfl
    rw [hset] at HS
    refine HS.mono ?_
    rintro e w3 ⟨rfl, hk3⟩
    have hB := (Blk.new w2 #[.slice al n cl, .slice at' t ct, .int .i64 2] 112).kept hk3 (fun e => e)
    have c2 := hB.cell (i := 2) rfl
    have z2 := hB.frozen 2
    have hk23 : Keeps (fun _ => False) w2 w3 := ((Keeps.refl _ _).alloc _).trans hk3 fun _ _ e => e
    have hK4 : Keeps (fun _ => False) w2 (w3.setCell ⟨w2.heap.size, 2, none⟩ (.int .i64 (settledN zs ts : Nat))) := hk23.setCell _ _ fun h => by simp at h
    have HF : Hid (restP false zs ts w ⟨w2.heap.size, .slice al n cl, .slice at' t ct, zs, ts, settledN zs ts⟩ (w3.setCell ⟨w2.heap.size, 2, none⟩ (.int .i64 (settledN zs ts : Nat)))) := by
      refine HX.out (settledN zs ts) ?_ _ hK4 (hB.setCell 2 _)
      unfold settledN
      rw [← HL.out.1, ← HL.out.2.1]
      have := HL.out.2.2.2.2.1
      split
      · exact .inl ⟨rfl, by assumption⟩
      · exact .inr (.inl ⟨rfl, by omega⟩)
    obtain ⟨sn, hsn⟩ : ∃ sn, sn = settledN zs ts := ⟨_, rfl⟩
    rw [← hsn] at HF ⊢
    clear hB hk23 hk3 HS hset hsn HX hK4
    go_wp2
    go_ret2
    exact ⟨_, rfl, HF.out⟩

end Go.Proofs.Ytadhldpeklkcmaa
