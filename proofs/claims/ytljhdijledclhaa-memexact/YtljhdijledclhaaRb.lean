import Derived.Test.YtljhdijledclhaaRc
import Derived.Test.YtljhdijledclhaaBa
namespace Go.Proofs.Ytljhdijledclhaa
open Go.RowKit
set_option linter.unusedVariables false
set_option linter.unusedSimpArgs false

theorem Try.mixd : Try.prog.follows Departure.mixedOrders = true := by kernel_rfl
def win (xs : List UInt32) (p m : Nat) : List UInt32 := (xs.drop p).take m
theorem win_length (xs : List UInt32) (p m : Nat) (h : p + m ≤ xs.length) : (win xs p m).length = m := by simp [win]; omega
theorem lay_get? (xs : List UInt32) (q : Nat) (ys : List UInt32) (h : q + ys.length ≤ xs.length) (i : Nat) : (lay xs q ys)[i]? = if q ≤ i ∧ i < q + ys.length then ys[i - q]? else xs[i]? := by
  have hq : min q xs.length = q := by omega
  unfold lay
  by_cases h1 : i < q
  · rw [if_neg (by omega), List.append_assoc, List.getElem?_append_left (by simp; omega), List.getElem?_take, if_pos h1]
  · by_cases h2 : i < q + ys.length
    · rw [if_pos ⟨by omega, h2⟩, List.getElem?_append_left (by simp; omega), List.getElem?_append_right (by simp; omega)]
      simp [hq]
    · rw [if_neg (by omega), List.getElem?_append_right (by simp; omega), List.getElem?_drop]
      congr 1
      simp [hq]; omega


theorem append_word {w : World} (x : Int) (v : Value) (n : Nat) (vs : List Value) (hown : w.ownsRow 0 26 1 v n vs) (hn : n ≤ 4294967296) :
    ∃ v' W', (∀ ty, (Builtin.append_ #[27, 27] ty #[v, .slice (some ⟨w.heap.size, 0, none⟩) 1 1]).run Try.prog (w.alloc (.cells #[.int .u32 x] 26)) = .ok v' W') ∧ W'.ownsRow 0 26 1 v' (n + 1) (vs ++ [.int .u32 x]) ∧
      (v'.ownBlock = v.ownBlock ∨ ∃ k, v'.ownBlock = some k ∧ w.heap.size ≤ k) ∧ Keeps (fun k => some k = v.ownBlock) w W' := by
  obtain ⟨i0, hi, hz0, hz1, hz2⟩ := info_parts Try.info26
  exact append_new 27 26 i0 _ 1 4 Try.underlying27 hi hz0 hz1 hz2 rfl (by omega) v n vs hown #[.int .u32 x] rfl (by intro u hu; simp at hu; rw [hu]; rfl) (by unfold maxLen; omega) (by omega)

def inN (p n : Int) (N : Nat) : Bool := decide (0 ≤ p ∧ 0 ≤ n ∧ p + n ≤ N)

set_option maxHeartbeats 400000 in
theorem rrun_n (b g : Nat) (xs : List UInt32) (p n : Int) (w : World) (h : Rm w b g xs) (hp1 : -9223372036854775808 ≤ p) (hp2 : p ≤ 9223372036854775807) :
    Calls Try.prog 58 #[.pointer (some ⟨b, 0, none⟩), .int .i64 p, .int .i64 n] w fun e w' => e = .returned (.bool (inN p n xs.length)) ∧ w' = w := by
  obtain ⟨c, hc, hb⟩ := h.blk
  have cb := hb.cell (i := 0) rfl
  have hs := h.small
  obtain ⟨N, hN⟩ : ∃ N, N = xs.length := ⟨_, rfl⟩
  rw [← hN] at cb ⊢
  have hN2 : (N : Int) ≤ 16384 := by omega
  clear h hs hN hc hb
  by_cases h0 : 0 ≤ p
  · by_cases hn : 0 ≤ n
    · by_cases h1 : p ≤ N
      · have h3 : IntKind.i64.wrap ((N : Int) - p) = N - p := by rw [IntKind.wrap_i64]; omega
        by_cases h2 : n ≤ N - p
        · go_enter Try.func58, Try.ntmps58
          go_wp2
          go_ret
          exact ⟨ret_bool (by unfold inN; rw [decide_eq_true (by omega)]), rfl⟩
        · go_enter Try.func58, Try.ntmps58
          go_wp2
          go_ret
          exact ⟨ret_bool (by unfold inN; rw [decide_eq_false (by omega)]), rfl⟩
      · go_enter Try.func58, Try.ntmps58
        go_wp2
        go_ret
        exact ⟨ret_bool (by unfold inN; rw [decide_eq_false (by omega)]), rfl⟩
    · go_enter Try.func58, Try.ntmps58
      go_wp2
      go_ret
      exact ⟨ret_bool (by unfold inN; rw [decide_eq_false (by omega)]), rfl⟩
  · go_enter Try.func58, Try.ntmps58
    go_wp2
    go_ret
    exact ⟨ret_bool (by unfold inN; rw [decide_eq_false (by omega)]), rfl⟩

/-- A row of words of one's own. -/
structure OwnW (w wr : World) (v : Value) (ks : List UInt32) : Prop where
  own : wr.ownsRow 0 26 1 v ks.length (wvs ks)
  new : ∀ k, v.ownBlock = some k → w.heap.size ≤ k
  k : Keeps (fun _ => False) w wr

theorem OwnW.step {w wr : World} {v : Value} {ks : List UInt32} (h : OwnW w wr v ks) (hl : ks.length ≤ 4294967296) (x : UInt32) :
    ∃ v' W', (∀ ty, (Builtin.append_ #[27, 27] ty #[v, .slice (some ⟨wr.heap.size, 0, none⟩) 1 1]).run Try.prog (wr.alloc (.cells #[.int .u32 (x.toNat : Int)] 26)) = .ok v' W') ∧ OwnW w W' v' (ks ++ [x]) := by
  obtain ⟨v', W', hr, hown, hf, hK⟩ := append_word (x.toNat : Int) v ks.length _ h.own hl
  refine ⟨v', W', hr, ?_, ?_, ?_⟩
  · rw [List.length_append, wvs_append]; exact hown
  · intro k hk
    rcases hf with e | ⟨q, e, hq⟩
    · exact h.new k (by rw [← e]; exact hk)
    · rw [e] at hk; cases hk; have := h.k.size; omega
  · exact h.k.trans hK fun b hb e => by have := h.new b e.symm; omega
theorem OwnW.form {w wr : World} {v : Value} {ks : List UInt32} (h : OwnW w wr v ks) (h0 : ks ≠ []) : ∃ G c, v = .slice (some ⟨G, 0, none⟩) ks.length c ∧ (ks.length ≤ c ∧ c ≤ maxLen) ∧ SegW wr (some ⟨G, 0, none⟩) ks ∧ w.heap.size ≤ G := by
  have hcl := fun g hg => h.own.cells (g := g) hg
  have hn := h.new
  rcases h.own.2 with ⟨rfl, h1⟩ | ⟨g, cap, cur, rfl, _, _, h2, h3, _⟩
  · exact absurd (List.eq_nil_of_length_eq_zero h1) h0
  · refine ⟨g, cap, rfl, ⟨h2, h3⟩, .inr ⟨g, 0, rfl, fun j hj => ?_⟩, hn g rfl⟩
    have := hcl g rfl j _ (wvs_get ks j hj)
    rw [addr_add] at this
    exact this
theorem OwnW.any {w wr : World} {v : Value} {ks : List UInt32} (h : OwnW w wr v ks) : ∃ a c, v = .slice a ks.length c := by
  rcases h.own.2 with ⟨rfl, h1⟩ | ⟨g, cap, cur, rfl, _⟩
  · exact ⟨none, 0, by rw [h1]⟩
  · exact ⟨_, _, rfl⟩

theorem win_snoc {xs : List UInt32} {p j : Nat} (h : p + j < xs.length) : win xs p (j + 1) = win xs p j ++ [xs[p + j]] := by
  unfold win
  rw [List.take_add_one, List.getElem?_drop, List.getElem?_eq_getElem h]
  rfl

set_option maxHeartbeats 1000000 in
theorem rtake_in (b g : Nat) (xs : List UInt32) (p m : Nat) (w : World) (h : Rm w b g xs) (hf : p + m ≤ xs.length) :
    Calls Try.prog 45 #[.pointer (some ⟨b, 0, none⟩), .int .i64 p, .int .i64 m] w fun e w' => ∃ a c, e = .returned (.tuple #[.slice a m c, .int .i64 0]) ∧ OwnW w w' (.slice a m c) (win xs p m) := by
  have H1 := rrun_n b g xs p m w h (by omega) (by have := h.small; omega)
  rw [show inN p m xs.length = true by unfold inN; rw [decide_eq_true (by omega)]] at H1
  have H1 : Hid (Calls _ _ _ _ _) := H1
  have HP : Hid (Rm w b g xs ∧ p + m ≤ xs.length ∧ m ≤ 16384) := ⟨h, hf, by have := h.small; omega⟩
  have HO0 : Hid (OwnW w w (.slice none 0 0) (win xs p 0)) := ⟨⟨by simp [win, wvs], .inl ⟨rfl, by simp [win]⟩⟩, (fun k e => by cases e), Keeps.refl _ _⟩
  have b1 : (m : Int) ≤ 16384 := by have := h.small; omega
  have b2 : (p : Int) ≤ 16384 := by have := h.small; omega
  have hlen : ∀ j, j ≤ m → (win xs p j).length = j := fun j hj => win_length _ _ _ (by omega)
  have HLn : Hid (∀ j, j ≤ m → (win xs p j).length = j) := hlen
  obtain ⟨N, hN⟩ : ∃ N, N = xs.length := ⟨_, rfl⟩
  have HN : Hid (N = xs.length) := hN
  have b3 : (p : Int) + (m : Int) ≤ N := by omega
  clear h hf hlen hN
  go_enter Try.func45, Try.ntmps45
  go_wp2_with fail
  refine H1.out.mono ?_
  rintro e w1 ⟨rfl, hw⟩
  obtain rfl := hw.symm
  clear hw H1
  go_wp2
  go_loopw [8, 9] (fun v i wr => ∃ j : Nat, j ≤ m ∧ i = .int .i64 j ∧ OwnW w wr v (win xs p j)) (fun _ i _ => m - (intOf i).toNat)
  case atStart => exact ⟨0, by omega, rfl, HO0.out⟩
  case round =>
    obtain ⟨j, hj, rfl, hO⟩ := hrel
    by_cases hlt : j < m
    · have hlt' : (j : Int) < m := by omega
      have hR := HP.out.1.grown hO.k
      have hpj : p + j < xs.length := by have := HP.out.2.1; omega
      have cw := hR.cell (p + j) hpj
      obtain ⟨c, hc, hb⟩ := hR.blk
      have cb := hb.cell (i := 0) rfl
      rw [← HN.out] at cb
      obtain ⟨v', W', hap, hO'⟩ := hO.step (by rw [HLn.out j hj]; have := HP.out.2.2; omega) (xs[p + j]'hpj)
      rw [← win_snoc hpj] at hO'
      obtain ⟨av, cv, rfl⟩ := hO.any
      rw [HLn.out j hj] at hap ⊢
      obtain ⟨x, hx⟩ : ∃ x : Nat, x = (xs[p + j]'hpj).toNat := ⟨_, rfl⟩
      rw [← hx] at cw hap
      have HAP : Hid (∀ ty, (Builtin.append_ #[27, 27] ty #[.slice av j cv, .slice (some ⟨wr.heap.size, 0, none⟩) 1 1]).run Try.prog (wr.alloc (.cells #[.int .u32 (x : Int)] 26)) = .ok v' W') := hap
      have HO' : Hid (OwnW w W' v' (win xs p (j + 1))) := hO'
      have q1 : (p : Int) + (j : Int) < N := by omega
      clear hap hO' hO hR hpj hc hb hx hj
      go_wp2_with (at_builtin; go_must (refine wpList_append_run rfl (.tmp 22) (.tmp 32) 27 27 rfl (.slice av j cv) (.slice (some ⟨wr.heap.size, 0, none⟩) 1 1) v' W' rfl rfl HAP.out ?_; refine Hid.out ?_))
      unfold Hid
      go_wp2
      go_roundw
      case rel => exact ⟨j + 1, by omega, by go_num, HO'.out⟩
      case measure => simp [intOf]; omega
    · obtain rfl : j = m := by omega
      have hl := HLn.out j (Nat.le_refl _)
      obtain ⟨av, cv, rfl⟩ := hO.any
      rw [hl] at hO ⊢
      have HF : Hid (OwnW w wr (.slice av j cv) (win xs p j)) := hO
      clear hO hl hlt hj
      go_wp2
      go_ret2
      exact ⟨av, cv, rfl, HF.out⟩

set_option maxHeartbeats 400000 in
theorem rtake_out (b g : Nat) (xs : List UInt32) (p m : Int) (w : World) (h : Rm w b g xs) (hp1 : -9223372036854775808 ≤ p) (hp2 : p ≤ 9223372036854775807) (hf : ¬ (0 ≤ p ∧ 0 ≤ m ∧ p + m ≤ xs.length)) :
    Calls Try.prog 45 #[.pointer (some ⟨b, 0, none⟩), .int .i64 p, .int .i64 m] w fun e w' => e = .returned (.tuple #[.slice none 0 0, .int .i64 51]) ∧ w' = w := by
  have H1 := rrun_n b g xs p m w h hp1 hp2
  rw [show inN p m xs.length = false by unfold inN; rw [decide_eq_false (by omega)]] at H1
  have H1 : Hid (Calls _ _ _ _ _) := H1
  clear h hp1 hp2 hf
  go_enter Try.func45, Try.ntmps45
  go_wp2_with fail
  refine H1.out.mono ?_
  rintro e w1 ⟨rfl, hw⟩
  obtain rfl := hw.symm
  clear hw H1
  go_wp2
  go_ret2
  exact ⟨rfl, rfl⟩

theorem lay_snoc {xs : List UInt32} {p j : Nat} {ys : List UInt32} (hj : j < ys.length) (hf : p + ys.length ≤ xs.length) : lay xs p (ys.take (j + 1)) = lay (lay xs p (ys.take j)) (p + j) [ys[j]] := by
  have h1 : (ys.take (j + 1)).length = j + 1 := by simp; omega
  have h2 : (ys.take j).length = j := by simp; omega
  have h3 : (lay xs p (ys.take j)).length = xs.length := lay_length _ _ _ (by omega)
  apply List.ext_getElem?
  intro i
  rw [lay_get? _ _ _ (by omega), lay_get? _ _ _ (by simp; omega), lay_get? _ _ _ (by omega), h1, h2]
  by_cases c1 : p ≤ i ∧ i < p + (j + 1)
  · rw [if_pos c1, List.getElem?_take, if_pos (by omega)]
    by_cases c2 : i = p + j
    · subst c2
      simp [hj]
    · rw [if_neg (by simp; omega), if_pos (by omega), List.getElem?_take, if_pos (by omega)]
  · rw [if_neg c1, if_neg (by simp; omega), if_neg (by omega)]

set_option maxRecDepth 20000 in
set_option maxHeartbeats 1000000 in
theorem rlay_in (b g : Nat) (xs : List UInt32) (p : Nat) (a : Option Addr) (c : Nat) (ys : List UInt32) (w : World) (h : Rm w b g xs) (hy : SegW w a ys) (hn : ∀ x, a = some x → ys ≠ [] → x.block ≠ g) (hf : p + ys.length ≤ xs.length) :
    Calls Try.prog 47 #[.pointer (some ⟨b, 0, none⟩), .int .i64 p, .slice a ys.length c] w fun e w' => e = .returned (.int .i64 0) ∧ Rm w' b g (lay xs p ys) ∧ Keeps (· = g) w w' := by
  have H1 := rrun_n b g xs p ys.length w h (by omega) (by have := h.small; omega)
  rw [show inN p ys.length xs.length = true by unfold inN; rw [decide_eq_true (by omega)]] at H1
  have HP : Hid (Rm w b g xs ∧ SegW w a ys ∧ (∀ x, a = some x → ys ≠ [] → x.block ≠ g) ∧ p + ys.length ≤ xs.length) := ⟨h, hy, hn, hf⟩
  have b2 : (p : Int) ≤ 16384 := by have := h.small; omega
  obtain ⟨m, hm⟩ : ∃ m, m = ys.length := ⟨_, rfl⟩
  have HM : Hid (m = ys.length) := hm
  rw [← hm] at H1 ⊢
  have b1 : (m : Int) ≤ 16384 := by have := h.small; omega
  have H1 : Hid (Calls _ _ _ _ _) := H1
  obtain ⟨N, hN⟩ : ∃ N, N = xs.length := ⟨_, rfl⟩
  have HN : Hid (N = xs.length) := hN
  have b3 : (p : Int) + (m : Int) ≤ N := by omega
  clear h hy hn hf hm hN
  go_enter Try.func47, Try.ntmps47
  go_wp2_with fail
  refine H1.out.mono ?_
  rintro e w1 ⟨rfl, hw⟩
  obtain rfl := hw.symm
  clear hw H1
  go_wp2
  go_loopw [7] (fun i wr => ∃ j : Nat, j ≤ m ∧ i = .int .i64 j ∧ Rm wr b g (lay xs p (ys.take j)) ∧ Keeps (· = g) w wr) (fun i _ => m - (intOf i).toNat)
  case atStart => exact ⟨0, by omega, rfl, by simpa [lay] using HP.out.1, Keeps.refl _ _⟩
  case round =>
    obtain ⟨j, hj, rfl, hR, hK⟩ := hrel
    by_cases hlt : j < m
    · have hlt' : (j : Int) < m := by omega
      have hjy : j < ys.length := by rw [← HM.out]; exact hlt
      have hf := HP.out.2.2.2
      have hlen : (lay xs p (ys.take j)).length = xs.length := lay_length _ _ _ (by rw [List.length_take]; omega)
      have hpj : p + j < (lay xs p (ys.take j)).length := by omega
      have hb0 := HP.out.1.ltb
      have hy0 : ys ≠ [] := fun e => by rw [e] at hjy; simp at hjy
      rcases HP.out.2.1.kept hK (fun x hx => HP.out.2.2.1 x hx hy0) with h0 | ⟨gy, oy, rfl, hcy⟩
      · rw [h0] at hjy; simp at hjy
      have cy := hcy j hjy
      have cu := hR.cell (p + j) hpj
      have fu := hR.frozen (p + j)
      obtain ⟨c0, hc, hb⟩ := hR.blk
      have cb := hb.cell (i := 0) rfl
      rw [hlen, ← HN.out] at cb
      have HR' : Hid (Rm (wr.setCell ⟨g, p + j, none⟩ (.int .u32 ((ys[j]'hjy).toNat : Int))) b g (lay xs p (ys.take (j + 1))) ∧ Keeps (· = g) w (wr.setCell ⟨g, p + j, none⟩ (.int .u32 ((ys[j]'hjy).toNat : Int)))) := by
        rw [lay_snoc hjy hf]
        exact ⟨hR.set (p + j) _ hpj, hK.setCell _ _ fun _ => rfl⟩
      obtain ⟨x, hx⟩ : ∃ x : Nat, x = (ys[j]'hjy).toNat := ⟨_, rfl⟩
      obtain ⟨u, hu⟩ : ∃ x : Nat, x = ((lay xs p (ys.take j))[p + j]'hpj).toNat := ⟨_, rfl⟩
      rw [← hx] at cy HR'
      rw [← hu] at cu
      have q1 : (p : Int) + (j : Int) < N := by omega
      have hS : wr.cell? ⟨b, 0, none⟩ = some (.slice (some ⟨g, 0, none⟩) N c0) ∧ wr.cell? ⟨gy, oy + j, none⟩ = some (.int .u32 (x : Int)) := ⟨cb, cy⟩
      have hwr : IntKind.i64.wrap ((p : Int) + (j : Int)) = (p : Int) + (j : Int) := by rw [IntKind.wrap_i64]; omega
      have q0 : (0 : Int) ≤ (p : Int) + (j : Int) := by omega
      have q2 : p + j < N := by omega
      have n1 : ¬ b = g := hR.ne
      have n2 : ¬ gy = g := HP.out.2.2.1 _ rfl hy0
      clear hy0 hjy hf hlen hpj hb0 hcy hR hK hc hb hx hu hj
      go_wp2
      refine wp_region_held_drew (S := (fun w' => w'.cell? ⟨b, 0, none⟩ = some (.slice (some ⟨g, 0, none⟩) N c0) ∧ w'.cell? ⟨gy, oy + j, none⟩ = some (.int .u32 (x : Int)))) Try.mixd hS (fun hHeld => ?_)
      simp only [List.size_toArray, List.length_cons, List.length_nil, Nat.reduceAdd, Array.replicate_succ, Array.replicate_zero, List.push_toArray, List.append_toArray, List.nil_append, List.cons_append]
      refine wpAnyH_take (i := 0) (oi := { dst := some 22, op := Op.move (Operand.tmp 0), type := 76, pos := "ref.go:90", after := #[], guard := none }) (v := .pointer (some ⟨b, 0, none⟩)) rfl (by kernel_rfl) (by kernel_rfl) (by kernel_rfl) (fun _ _ _ h => h) (Or.inl ⟨by kernel_rfl, by (intro w hSw; (try dsimp only at hSw); go_simp)⟩) hHeld ?_
      simp only [Act.put, List.setIfInBounds_toArray, List.set_cons_zero, List.set_cons_succ]
      refine wpAnyH_take (i := 1) (oi := { dst := some 23, op := Op.nilCheck (Operand.tmp 22), type := 0, pos := "ref.go:90", after := #[{ on := 0, ground := Ground.data }], guard := none }) (v := .pointer (some ⟨b, 0, none⟩)) rfl (by kernel_rfl) (by kernel_rfl) (by kernel_rfl) (fun _ _ _ h => h) (Or.inl ⟨by kernel_rfl, by (intro w hSw; (try dsimp only at hSw); go_simp)⟩) hHeld ?_
      simp only [Act.put, List.setIfInBounds_toArray, List.set_cons_zero, List.set_cons_succ]
      refine wpAnyH_take (i := 2) (oi := { dst := some 24, op := Op.fieldAddr 98 (Operand.tmp 23) 0, type := 0, pos := "ref.go:90", after := #[{ on := 1, ground := Ground.data }], guard := none }) (v := .pointer (some ⟨b, 0, none⟩)) rfl (by kernel_rfl) (by kernel_rfl) (by kernel_rfl) (fun _ _ _ h => h) (Or.inl ⟨by kernel_rfl, by (intro w hSw; (try dsimp only at hSw); go_simp)⟩) hHeld ?_
      simp only [Act.put, List.setIfInBounds_toArray, List.set_cons_zero, List.set_cons_succ]
      refine wpAnyH_take (i := 3) (oi := { dst := some 25, op := Op.load 27 (Operand.tmp 24), type := 27, pos := "ref.go:90", after := #[{ on := 2, ground := Ground.data }], guard := none }) (v := .slice (some ⟨g, 0, none⟩) N c0) rfl (by kernel_rfl) (by kernel_rfl) (by kernel_rfl) (fun _ _ _ h => h) (Or.inl ⟨by kernel_rfl, by (intro w hSw; (try dsimp only at hSw); go_simp)⟩) hHeld ?_
      simp only [Act.put, List.setIfInBounds_toArray, List.set_cons_zero, List.set_cons_succ]
      refine wpAnyH_take (i := 4) (oi := { dst := some 26, op := Op.move (Operand.tmp 1), type := 3, pos := "ref.go:90", after := #[], guard := none }) (v := .int .i64 (p : Int)) rfl (by kernel_rfl) (by kernel_rfl) (by kernel_rfl) (fun _ _ _ h => h) (Or.inl ⟨by kernel_rfl, by (intro w hSw; (try dsimp only at hSw); go_simp)⟩) hHeld ?_
      simp only [Act.put, List.setIfInBounds_toArray, List.set_cons_zero, List.set_cons_succ]
      refine wpAnyH_take (i := 5) (oi := { dst := some 27, op := Op.move (Operand.tmp 7), type := 3, pos := "ref.go:90", after := #[], guard := none }) (v := .int .i64 (j : Int)) rfl (by kernel_rfl) (by kernel_rfl) (by kernel_rfl) (fun _ _ _ h => h) (Or.inl ⟨by kernel_rfl, by (intro w hSw; (try dsimp only at hSw); go_simp)⟩) hHeld ?_
      simp only [Act.put, List.setIfInBounds_toArray, List.set_cons_zero, List.set_cons_succ]
      refine wpAnyH_take (i := 6) (oi := { dst := some 28, op := Op.binOp BinOp.add 3 (Operand.tmp 26) (Operand.tmp 27) 3, type := 3, pos := "ref.go:90", after := #[{ on := 4, ground := Ground.data }, { on := 5, ground := Ground.data }], guard := none }) (v := .int .i64 ((p : Int) + (j : Int))) rfl (by kernel_rfl) (by kernel_rfl) (by kernel_rfl) (fun _ _ _ h => h) (Or.inl ⟨by kernel_rfl, by (intro w hSw; (try dsimp only at hSw); go_simp)⟩) hHeld ?_
      simp only [Act.put, List.setIfInBounds_toArray, List.set_cons_zero, List.set_cons_succ]
      refine wpAnyH_take (i := 7) (oi := { dst := some 29, op := Op.move (Operand.tmp 2), type := 27, pos := "ref.go:90", after := #[], guard := none }) (v := .slice (some ⟨gy, oy, none⟩) m c) rfl (by kernel_rfl) (by kernel_rfl) (by kernel_rfl) (fun _ _ _ h => h) (Or.inl ⟨by kernel_rfl, by (intro w hSw; (try dsimp only at hSw); go_simp)⟩) hHeld ?_
      simp only [Act.put, List.setIfInBounds_toArray, List.set_cons_zero, List.set_cons_succ]
      refine wpAnyH_take (i := 8) (oi := { dst := some 30, op := Op.move (Operand.tmp 7), type := 3, pos := "ref.go:90", after := #[], guard := none }) (v := .int .i64 (j : Int)) rfl (by kernel_rfl) (by kernel_rfl) (by kernel_rfl) (fun _ _ _ h => h) (Or.inl ⟨by kernel_rfl, by (intro w hSw; (try dsimp only at hSw); go_simp)⟩) hHeld ?_
      simp only [Act.put, List.setIfInBounds_toArray, List.set_cons_zero, List.set_cons_succ]
      refine wpAnyH_take (i := 9) (oi := { dst := some 31, op := Op.indexAddr 27 (Operand.tmp 29) (Operand.tmp 30), type := 0, pos := "ref.go:90", after := #[{ on := 7, ground := Ground.data }, { on := 8, ground := Ground.data }], guard := none }) (v := .pointer (some ⟨gy, oy + j, none⟩)) rfl (by kernel_rfl) (by kernel_rfl) (by kernel_rfl) (fun _ _ _ h => h) (Or.inl ⟨by kernel_rfl, by (intro w hSw; (try dsimp only at hSw); go_simp)⟩) hHeld ?_
      simp only [Act.put, List.setIfInBounds_toArray, List.set_cons_zero, List.set_cons_succ]
      refine wpAnyH_take (i := 10) (oi := { dst := some 32, op := Op.load 26 (Operand.tmp 31), type := 26, pos := "ref.go:90", after := #[{ on := 9, ground := Ground.data }], guard := none }) (v := .int .u32 (x : Int)) rfl (by kernel_rfl) (by kernel_rfl) (by kernel_rfl) (fun _ _ _ h => h) (Or.inl ⟨by kernel_rfl, by (intro w hSw; (try dsimp only at hSw); go_simp)⟩) hHeld ?_
      simp only [Act.put, List.setIfInBounds_toArray, List.set_cons_zero, List.set_cons_succ]
      refine wpAnyH_take (i := 11) (oi := { dst := some 33, op := Op.indexAddr 27 (Operand.tmp 25) (Operand.tmp 28), type := 0, pos := "ref.go:90", after := #[{ on := 3, ground := Ground.data }, { on := 6, ground := Ground.data }, { on := 0, ground := Ground.phase }, { on := 1, ground := Ground.phase }, { on := 2, ground := Ground.phase }, { on := 3, ground := Ground.phase }, { on := 4, ground := Ground.phase }, { on := 5, ground := Ground.phase }, { on := 6, ground := Ground.phase }, { on := 7, ground := Ground.phase }, { on := 8, ground := Ground.phase }, { on := 9, ground := Ground.phase }, { on := 10, ground := Ground.phase }], guard := none }) (v := .pointer (some ⟨g, p + j, none⟩)) rfl (by kernel_rfl) (by kernel_rfl) (by kernel_rfl) (fun _ _ _ h => h) (Or.inl ⟨by kernel_rfl, by (intro w hSw; (try dsimp only at hSw); go_simp)⟩) hHeld ?_
      simp only [Act.put, List.setIfInBounds_toArray, List.set_cons_zero, List.set_cons_succ]
      refine wpAnyH_ready (rs := [12]) (by kernel_rfl) (by simp) ?_
      refine AllReadyH.cons (o := { dst := none, op := Op.store 26 (Operand.tmp 33) (Operand.tmp 32), type := 0, pos := "ref.go:90", after := #[{ on := 11, ground := Ground.data }, { on := 10, ground := Ground.data }, { on := 0, ground := Ground.phase }, { on := 1, ground := Ground.phase }, { on := 2, ground := Ground.phase }, { on := 3, ground := Ground.phase }, { on := 4, ground := Ground.phase }, { on := 5, ground := Ground.phase }, { on := 6, ground := Ground.phase }, { on := 7, ground := Ground.phase }, { on := 8, ground := Ground.phase }, { on := 9, ground := Ground.phase }, { on := 10, ground := Ground.phase }], guard := none }) rfl (fun K hK => ?_) AllReadyH.nil
      have cu2 : wr.drew.cell? ⟨g, p + j, none⟩ = some (.int .u32 (u : Int)) := cu
      have fu2 : wr.drew.frozen? ⟨g, p + j, none⟩ = false := fu
      go_wp2
      have hk9 : Keeps (· = g) wr (wr.setCell ⟨g, p + j, none⟩ (.int .u32 (x : Int))) := (Keeps.refl _ wr).setCell _ _ fun _ => rfl
      refine hK.out _ _ (have e1 := cell_kept (S := (· = g)) cb hk9 n1; have e2 := cell_kept (S := (· = g)) cy hk9 n2; ⟨e1, e2⟩) (fun hHeld => ?_)
      simp only [Act.put, List.setIfInBounds_toArray, List.set_cons_zero, List.set_cons_succ]
      refine wpAnyH_done (by kernel_rfl) ?_ _
      clear hHeld
      go_wp2
      go_roundw
      case rel => exact ⟨j + 1, by omega, by go_num, (HR'.out.1.kept ((Keeps.refl (fun _ => False) _).drew) (fun e => e) (fun e => e)), HR'.out.2.drew⟩
      case measure => simp [intOf]; omega
    · obtain rfl : j = m := by omega
      have HF : Hid (Rm wr b g (lay xs p ys) ∧ Keeps (· = g) w wr) := by
        rw [List.take_of_length_le (by have := HM.out; omega)] at hR
        exact ⟨hR, hK⟩
      clear hR hK hlt hj
      go_wp2
      go_ret
      exact ⟨rfl, HF.out⟩

set_option maxHeartbeats 400000 in
theorem rlay_out (b g : Nat) (xs : List UInt32) (p : Int) (a : Option Addr) (c m : Nat) (w : World) (h : Rm w b g xs) (hp1 : -9223372036854775808 ≤ p) (hp2 : p ≤ 9223372036854775807) (hf : ¬ (0 ≤ p ∧ p + m ≤ xs.length)) :
    Calls Try.prog 47 #[.pointer (some ⟨b, 0, none⟩), .int .i64 p, .slice a m c] w fun e w' => e = .returned (.int .i64 51) ∧ w' = w := by
  have H1 := rrun_n b g xs p m w h hp1 hp2
  rw [show inN p m xs.length = false by unfold inN; rw [decide_eq_false (by omega)]] at H1
  have H1 : Hid (Calls _ _ _ _ _) := H1
  clear h hp1 hp2 hf
  go_enter Try.func47, Try.ntmps47
  go_wp2_with fail
  refine H1.out.mono ?_
  rintro e w1 ⟨rfl, hw⟩
  obtain rfl := hw.symm
  clear hw H1
  go_wp2
  go_ret
  exact ⟨rfl, rfl⟩

end Go.Proofs.Ytljhdijledclhaa
