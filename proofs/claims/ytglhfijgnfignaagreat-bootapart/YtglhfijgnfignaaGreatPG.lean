import Derived.Test.YtglhfijgnfignaaGreatPX
import Derived.Handy
namespace Go.Proofs.YtglhfijgnfignaaGreat
namespace Mq
open Go.RowKit
set_option linter.unusedVariables false
set_option linter.unusedSimpArgs false
def enc (f r : Nat) : UInt32 := UInt32.ofNat (2147483648 + f * 8 + r)
theorem enc_nat (f r : Nat) (hf : f < 1024) (hr : r < 8) : (enc f r).toNat = 2147483648 + f * 8 + r := by
 unfold enc
 rw [UInt32.toNat_ofNat']
 omega
def isT (x : Nat) : Bool := decide (2147483648 ≤ x)
def frm (x : Nat) : Nat := if isT x then x / 8 % 1024 else 0
def rts (x : Nat) : Nat := if isT x then x % 8 else 0
theorem or_shape (f r : Nat) (hf : f < 1024) (hr : r < 8) : (2147483648 ||| f <<< 3) ||| r = 2147483648 + f * 8 + r := by
 have h1 : f <<< 3 = f * 8 := by rw [Nat.shiftLeft_eq]
 have h2 : 2147483648 ||| f <<< 3 = 2147483648 + f * 8 := by
  have := Nat.two_pow_add_eq_or_of_lt (i := 31) (b := f * 8) (by omega) 1
  rw [h1]
  exact this.symm
 have h3 : (2147483648 + f * 8) ||| r = 2147483648 + f * 8 + r := by
  have := Nat.two_pow_add_eq_or_of_lt (i := 3) (b := r) (by omega) (268435456 + f)
  have e : 2 ^ 3 * (268435456 + f) = 2147483648 + f * 8 := by omega
  rw [e] at this
  exact this.symm
 rw [h2, h3]
theorem and_top (x : Nat) (h : x < 4294967296) : x &&& 2147483648 = if isT x then 2147483648 else 0 := by
 have e : x &&& 2147483648 = 2147483648 * (x / 2147483648 % 2) := by
  apply Nat.eq_of_testBit_eq
  intro i
  rw [show (2147483648 : Nat) = 2 ^ 31 from rfl, Nat.testBit_and, Nat.testBit_two_pow_mul, Nat.testBit_two_pow, ← Nat.shiftRight_eq_div_pow]
  by_cases hi : 31 ≤ i
  ·
   by_cases h31 : i = 31
   ·
    subst h31
    have : (x >>> 31 % 2).testBit 0 = x.testBit 31 := by
     rw [Nat.testBit_zero, Nat.testBit_eq_decide_div_mod_eq, Nat.shiftRight_eq_div_pow]
     simp
    simp [this]
   ·
    have hb : (x >>> 31 % 2).testBit (i - 31) = false := by
     apply Nat.testBit_lt_two_pow
     have : 2 ^ 1 ≤ 2 ^ (i - 31) := Nat.pow_le_pow_right (by omega) (by omega)
     omega
    have : ¬ 31 = i := fun e => h31 e.symm
    simp [this, hb]
  ·
   have : ¬ 31 = i := by omega
   simp [this, hi]
 rw [e]
 unfold isT
 by_cases hx : 2147483648 ≤ x
 ·
  rw [if_pos (decide_eq_true hx)]
  have : x / 2147483648 = 1 := by omega
  rw [this]
 ·
  rw [if_neg (by simp; omega)]
  have : x / 2147483648 = 0 := by omega
  rw [this]
structure Lf where
 page : Nat
 frame : Nat
 rights : Nat
deriving DecidableEq
def lf0 : Lf := ⟨0, 0, 0⟩
def nmE (n x : Nat) : Nat := if isT x then (if frm x < n then 0 else 91) else 92
def nmF (n x : Nat) : Nat := if nmE n x = 0 then frm x else 0
def nmR (n x : Nat) : Nat := if nmE n x = 0 then rts x else 0
def walkT (n : Nat) (xs : List UInt32) (root page : Int) : Nat := (xs.getD (16 * root.toNat + page.toNat / 16) 0).toNat
def walkB (n : Nat) (xs : List UInt32) (root page : Int) : Nat := (xs.getD (16 * frm (walkT n xs root page) + page.toNat % 16) 0).toNat
def walkE (n : Nat) (xs : List UInt32) (root page : Int) : Nat :=
 if ¬ (0 ≤ root ∧ root < n) then 91 else if ¬ (0 ≤ page ∧ page < 256) then 92 else
 if nmE n (walkT n xs root page) = 0 then nmE n (walkB n xs root page) else nmE n (walkT n xs root page)
def walkL (n : Nat) (xs : List UInt32) (root page : Int) : Lf :=
 if walkE n xs root page = 0 then ⟨page.toNat, frm (walkB n xs root page), rts (walkB n xs root page)⟩ else lf0
end Mq
end Go.Proofs.YtglhfijgnfignaaGreat
namespace Go.Proofs.YtglhfijgnfignaaGreat
namespace Mq
open Go.RowKit
set_option linter.unusedVariables false
set_option linter.unusedSimpArgs false
def inR (n m : Int) : Bool := decide (0 ≤ n) && decide (n < m)
theorem inR_true {n m : Int} (h1 : 0 ≤ n) (h2 : n < m) : inR n m = true := by simp [inR, h1, h2]
theorem inR_false {n m : Int} (h : ¬ (0 ≤ n ∧ n < m)) : inR n m = false := by
 rw [Bool.eq_false_iff]; intro e; simp [inR] at e; exact h e
theorem ret_two {k k' : IntKind} {a b c d : Int} (h : a = b) (h' : c = d) : Ending.returned (.tuple #[.int k a, .int k' c]) = .returned (.tuple #[.int k b, .int k' d]) := by rw [h, h']
theorem ret_three {k k' : IntKind} {a b c d : Int} {x y : Bool} (h : a = b) (h' : c = d) (h'' : x = y) : Ending.returned (.tuple #[.int k a, .int k' c, .bool x]) = .returned (.tuple #[.int k b, .int k' d, .bool y]) := by rw [h, h', h'']
set_option maxHeartbeats 400000 in
theorem within_any (n m : Int) (w : World) : Calls Tryz.prog 26 #[.int .i64 n, .int .i64 m] w fun e w' => e = .returned (.bool (inR n m)) ∧ w' = w := by
 by_cases h1 : 0 ≤ n <;> by_cases h2 : n < m
 all_goals
  go_enter Tryz.func26, Tryz.ntmps26
  go_wp2
  go_ret
  exact ⟨ret_bool (by simp [inR, h1, h2]), rfl⟩
set_option maxHeartbeats 400000 in
theorem rights_any (n : Int) (w : World) : Calls Tryz.prog 55 #[.int .i64 n] w fun e w' => e = .returned (.bool (inR n 8)) ∧ w' = w := by
 have HC : Hid (Calls _ _ _ _ _) := within_any n 8 w
 go_enter Tryz.func55, Tryz.ntmps55
 go_wp2_with fail
 refine HC.out.mono ?_
 rintro e w1 ⟨rfl, hw⟩
 obtain rfl := hw.symm
 clear hw
 go_wp2
 go_ret
 exact ⟨rfl, rfl⟩
theorem or_int (f r : Nat) (hf : f < 1024) (hr : r < 8) : bits .or .u32 (bits .or .u32 2147483648 ((f : Int) * 8)) (r : Int) = ((enc f r).toNat : Int) := by
 have e1 : (f : Int) * (8 : Int) = ((f <<< 3 : Nat) : Int) := by rw [Nat.shiftLeft_eq]; omega
 have e2 : (2147483648 : Int) = ((2147483648 : Nat) : Int) := rfl
 have hs : f <<< 3 < 4294967296 := by rw [Nat.shiftLeft_eq]; omega
 have ho : 2147483648 ||| f <<< 3 < 4294967296 := Nat.or_lt_two_pow (n := 32) (by decide) hs
 rw [show ((f : Int) * (8 : Int)) = ((f <<< 3 : Nat) : Int) from e1, e2, u32_or_nat _ _ (by omega) hs, u32_or_nat _ _ ho (by omega), or_shape f r hf hr, enc_nat f r hf hr]
set_option maxHeartbeats 400000 in
theorem encode_in (f r : Nat) (w : World) (hf : f < 1024) (hr : r < 8) : Calls Tryz.prog 104 #[.int .i64 f, .int .i64 r] w fun e w' => e = .returned (.tuple #[.int .u32 ((enc f r).toNat : Int), .int .i64 0]) ∧ w' = w := by
 have HC := within_any f 1024 w
 have HD := rights_any r w
 rw [inR_true (by omega) (by omega)] at HC HD
 have HC : Hid (Calls _ _ _ _ _) := HC
 have HD : Hid (Calls _ _ _ _ _) := HD
 go_enter Tryz.func104, Tryz.ntmps104
 go_wp2_with fail
 refine HC.out.mono ?_
 rintro e w1 ⟨rfl, hw⟩
 obtain rfl := hw.symm
 clear hw HC
 go_wp2_with fail
 refine HD.out.mono ?_
 rintro e w1 ⟨rfl, hw⟩
 obtain rfl := hw.symm
 clear hw HD
 go_wp2
 go_ret2
 exact ⟨ret_two (or_int f r hf hr) rfl, rfl⟩
theorem and_int (x : Nat) (h : x < 4294967296) : bits .and .u32 (x : Int) 2147483648 = if isT x then 2147483648 else 0 := by
 have e2 : (2147483648 : Int) = ((2147483648 : Nat) : Int) := rfl
 rw [e2, u32_and_nat _ _ h (by omega), and_top x h]
 split <;> rfl
theorem and_int7 (x : Nat) (h : x < 4294967296) : bits .and .u32 (x : Int) 7 = ((x % 8 : Nat) : Int) := by
 have e2 : (7 : Int) = ((2 ^ 3 - 1 : Nat) : Int) := rfl
 rw [e2, u32_and_nat _ _ h (by omega), Nat.and_two_pow_sub_one_eq_mod]
theorem and_int1023 (x : Nat) (h : x < 4294967296) : bits .and .u32 ((x : Int) / 8) 1023 = ((x / 8 % 1024 : Nat) : Int) := by
 have e2 : (1023 : Int) = ((2 ^ 10 - 1 : Nat) : Int) := rfl
 have e3 : (x : Int) / 8 = ((x / 8 : Nat) : Int) := by omega
 rw [e2, e3, u32_and_nat _ _ (by omega) (by omega), Nat.and_two_pow_sub_one_eq_mod]
set_option maxHeartbeats 400000 in
theorem decode_any (x : Nat) (w : World) (hx : x < 4294967296) : Calls Tryz.prog 54 #[.int .u32 x] w fun e w' => e = .returned (.tuple #[.int .i64 (frm x : Nat), .int .i64 (rts x : Nat), .bool (isT x)]) ∧ w' = w := by
 have h1 := and_int x hx
 by_cases ht : isT x = true
 ·
  have h2 : (bits .and .u32 (x : Int) 2147483648 == 0) = false := by rw [h1, if_pos ht]; rfl
  have h3 := and_int7 x hx
  have h4 := and_int1023 x hx
  rw [show frm x = x / 8 % 1024 from if_pos ht, show rts x = x % 8 from if_pos ht, ht]
  have H3 : Hid (_ = _) := h3
  have H4 : Hid (_ = _) := h4
  clear h1 ht h3 h4
  go_enter Tryz.func54, Tryz.ntmps54
  go_wp2
  go_ret3
  exact ⟨ret_three (by rw [H4.out]; go_arith) (by rw [H3.out]; go_arith) rfl, rfl⟩
 ·
  have h2 : (bits .and .u32 (x : Int) 2147483648 == 0) = true := by rw [h1, if_neg ht]; rfl
  rw [show frm x = 0 from if_neg ht, show rts x = 0 from if_neg ht, Bool.eq_false_iff.2 ht]
  clear h1 ht
  go_enter Tryz.func54, Tryz.ntmps54
  go_wp2
  go_ret3
  exact ⟨rfl, rfl⟩
end Mq
end Go.Proofs.YtglhfijgnfignaaGreat
namespace Go.Proofs.YtglhfijgnfignaaGreat
namespace Mq
open Go.RowKit
set_option linter.unusedVariables false
set_option linter.unusedSimpArgs false
abbrev Lf.v (l : Lf) : Value := .agg #[.int .i64 l.page, .int .i64 l.frame, .int .i64 l.rights]
abbrev Lf.vs (l : Lf) : List Value := [.int .i64 l.page, .int .i64 l.frame, .int .i64 l.rights]
abbrev setLf (w : World) (b : Nat) (l : Lf) : World := ((w.setCell ⟨b, 0, none⟩ (.int .i64 l.page)).setCell ⟨b, 1, none⟩ (.int .i64 l.frame)).setCell ⟨b, 2, none⟩ (.int .i64 l.rights)
theorem _root_.Go.Proofs.YtglhfijgnfignaaGreat.Blk.setLf {w : World} {b : Nat} {l0 : Lf} {t : TypeId} (h : Blk w b l0.vs t) (l : Lf) : Blk (setLf w b l) b l.vs t := by
 have := ((h.setCell 0 (.int .i64 l.page)).setCell 1 (.int .i64 l.frame)).setCell 2 (.int .i64 l.rights)
 simpa using this
theorem _root_.Go.Proofs.YtglhfijgnfignaaGreat.Keeps.setLf {S : Nat → Prop} {w w' : World} (h : Keeps S w w') (b : Nat) (l : Lf) (hb : b < w.heap.size → S b) : Keeps S w (setLf w' b l) :=
 ((h.setCell _ _ hb).setCell _ _ hb).setCell _ _ hb
theorem load_leaf {w : World} {b : Nat} {l : Lf} (h : Blk w b l.vs 45) : (loadVar 45 ⟨b, 0, none⟩).run Tryz.prog w = .ok l.v w :=
 run_loadVar_row w b 45 45 _ _ _ h Tryz.underlying45 (by simp) (by kernel_rfl)
theorem results_cell_tmp {P : Program} {fn : Func} {p u : Tmp} {ty : TypeId} (h : fn.results = #[.cell p ty, .tmp u]) (tmps : Array Value) (w : World) (a : Addr) (v : Value)
  (hp : tmps.getD p undef = .pointer (some a)) (hl : (loadVar ty a).run P w = .ok v w) : (results fn tmps).run P w = .ok (.tuple #[v, tmps.getD u undef]) w := by
 have hp' : tmps[p]?.getD undef = .pointer (some a) := by simpa using hp
 simp [results, h, hp', asAddr, hl]
structure Mn (w : World) (b g n : Nat) (xs : List UInt32) : Prop where
 mm : Mm w b g xs
 len : xs.length = n * 16
theorem Mn.kept {S : Nat → Prop} {w w' : World} {b g n : Nat} {xs : List UInt32} (h : Mn w b g n xs) (k : Keeps S w w') (hb : ¬ S b) (hg : ¬ S g) : Mn w' b g n xs := ⟨h.mm.kept k hb hg, h.len⟩
theorem Mn.grown {w w' : World} {b g n : Nat} {xs : List UInt32} (h : Mn w b g n xs) (k : Keeps (fun _ => False) w w') : Mn w' b g n xs := h.kept k (fun e => e) fun e => e
theorem Mn.n_le {w : World} {b g n : Nat} {xs : List UInt32} (h : Mn w b g n xs) : n ≤ 1024 := by have := h.mm.small; have := h.len; omega
set_option maxHeartbeats 400000 in
theorem has_any (b g n : Nat) (xs : List UInt32) (f : Int) (w : World) (h : Mn w b g n xs) :
  Calls Tryz.prog 25 #[.pointer (some ⟨b, 0, none⟩), .int .i64 f] w fun e w' => e = .returned (.bool (inR f n)) ∧ w' = w := by
 have H1 : Hid (Calls _ _ _ _ _) := framesN_any b g xs n w h.mm h.len
 have H2 : Hid (Calls _ _ _ _ _) := within_any f n w
 clear h
 go_enter Tryz.func25, Tryz.ntmps25
 go_wp2_with fail
 refine H1.out.mono ?_
 rintro e w1 ⟨rfl, hw⟩
 obtain rfl := hw.symm
 clear hw
 go_wp2_with fail
 refine H2.out.mono ?_
 rintro e w1 ⟨rfl, hw⟩
 obtain rfl := hw.symm
 clear hw
 go_wp2
 go_ret
 exact ⟨rfl, rfl⟩
theorem getD_toNat (xs : List UInt32) (i : Nat) (h : i < xs.length) : (xs.getD i 0) = xs[i] := by simp [List.getD, h]
theorem nat_lt (x : UInt32) : x.toNat < 4294967296 := x.toNat_lt
theorem isT_nm {n x : Nat} (h : isT x = false) : nmE n x = 92 ∧ nmF n x = 0 ∧ nmR n x = 0 := by
 have : nmE n x = 92 := by unfold nmE; rw [h]; rfl
 refine ⟨this, ?_, ?_⟩
 ·
  unfold nmF; rw [this]; rfl
 ·
  unfold nmR; rw [this]; rfl
theorem out_nm {n x : Nat} (h : isT x = true) (hf : ¬ frm x < n) : nmE n x = 91 ∧ nmF n x = 0 ∧ nmR n x = 0 := by
 have : nmE n x = 91 := by unfold nmE; rw [h, if_pos rfl, if_neg hf]
 refine ⟨this, ?_, ?_⟩
 ·
  unfold nmF; rw [this]; rfl
 ·
  unfold nmR; rw [this]; rfl
theorem in_nm {n x : Nat} (h : isT x = true) (hf : frm x < n) : nmE n x = 0 ∧ nmF n x = frm x ∧ nmR n x = rts x := by
 have : nmE n x = 0 := by unfold nmE; rw [h, if_pos rfl, if_pos hf]
 refine ⟨this, ?_, ?_⟩
 ·
  unfold nmF; rw [if_pos this]
 ·
  unfold nmR; rw [if_pos this]
set_option maxHeartbeats 800000 in
theorem named_any (b g n : Nat) (xs : List UInt32) (t i : Nat) (w : World) (h : Mn w b g n xs) (ht : t < n) (hi : i < 16) (x : Nat) (hx : x = (xs.getD (16 * t + i) 0).toNat) :
  Calls Tryz.prog 27 #[.pointer (some ⟨b, 0, none⟩), .int .i64 t, .int .i64 i] w fun e w' => e = .returned (.tuple #[.int .i64 (nmF n x : Nat), .int .i64 (nmR n x : Nat), .int .i64 (nmE n x : Nat)]) ∧ w' = w := by
 have hl := h.len
 have hn := h.n_le
 have hlt : 16 * t + i < xs.length := by omega
 have H1 := read_in b g xs (16 * t + i) w h.mm hlt
 rw [← getD_toNat xs _ hlt, ← hx] at H1
 have e1 : ((16 * t + i : Nat) : Int) = (t : Int) * 16 + i := by omega
 rw [e1] at H1
 have hxl : x < 4294967296 := by rw [hx]; exact nat_lt _
 have H2 : Hid (Calls _ _ _ _ _) := decode_any x w hxl
 have H3 := has_any b g n xs (frm x) w h
 have H1 : Hid (Calls _ _ _ _ _) := H1
 have q1 : (t : Int) < 1024 := by omega
 have q2 : (i : Int) < 16 := by omega
 clear h hl hn hlt e1 hxl hx ht hi
 by_cases c1 : isT x = true
 ·
  by_cases c2 : frm x < n
  ·
   obtain ⟨d1, d2, d3⟩ := in_nm c1 c2
   rw [d1, d2, d3]
   rw [inR_true (by omega) (by omega)] at H3
   have H3 : Hid (Calls _ _ _ _ _) := H3
   rw [c1] at H2
   clear c1 c2 d1 d2 d3
   obtain ⟨F, hF⟩ : ∃ F, F = frm x := ⟨_, rfl⟩
   obtain ⟨R, hR⟩ : ∃ F, F = rts x := ⟨_, rfl⟩
   rw [← hF] at H2 H3 ⊢
   rw [← hR] at H2 ⊢
   clear hF hR
   go_enter Tryz.func27, Tryz.ntmps27
   go_wp2_with fail
   refine H1.out.mono ?_
   rintro e w1 ⟨rfl, hw⟩
   obtain rfl := hw.symm
   clear hw
   go_wp2_with fail
   refine H2.out.mono ?_
   rintro e w1 ⟨rfl, hw⟩
   obtain rfl := hw.symm
   clear hw
   go_wp2_with fail
   refine H3.out.mono ?_
   rintro e w1 ⟨rfl, hw⟩
   obtain rfl := hw.symm
   clear hw
   go_wp2
   go_ret3
   exact ⟨rfl, rfl⟩
  ·
   obtain ⟨d1, d2, d3⟩ := out_nm c1 c2
   rw [d1, d2, d3]
   rw [inR_false (by omega)] at H3
   have H3 : Hid (Calls _ _ _ _ _) := H3
   rw [c1] at H2
   clear c1 c2 d1 d2 d3
   go_enter Tryz.func27, Tryz.ntmps27
   go_wp2_with fail
   refine H1.out.mono ?_
   rintro e w1 ⟨rfl, hw⟩
   obtain rfl := hw.symm
   clear hw
   go_wp2_with fail
   refine H2.out.mono ?_
   rintro e w1 ⟨rfl, hw⟩
   obtain rfl := hw.symm
   clear hw
   go_wp2_with fail
   refine H3.out.mono ?_
   rintro e w1 ⟨rfl, hw⟩
   obtain rfl := hw.symm
   clear hw
   go_wp2
   go_ret3
   exact ⟨rfl, rfl⟩
 ·
  have c1 : isT x = false := Bool.eq_false_iff.2 c1
  obtain ⟨d1, d2, d3⟩ := isT_nm (n := n) c1
  rw [d1, d2, d3]
  rw [c1] at H2
  clear c1 d1 d2 d3 H3
  go_enter Tryz.func27, Tryz.ntmps27
  go_wp2_with fail
  refine H1.out.mono ?_
  rintro e w1 ⟨rfl, hw⟩
  obtain rfl := hw.symm
  clear hw
  go_wp2_with fail
  refine H2.out.mono ?_
  rintro e w1 ⟨rfl, hw⟩
  obtain rfl := hw.symm
  clear hw
  go_wp2
  go_ret3
  exact ⟨rfl, rfl⟩
end Mq
end Go.Proofs.YtglhfijgnfignaaGreat
namespace Go.Proofs.YtglhfijgnfignaaGreat
namespace Mq
open Go.RowKit
set_option linter.unusedVariables false
set_option linter.unusedSimpArgs false
theorem nmE_zero {n x : Nat} (h : nmE n x = 0) : isT x = true ∧ frm x < n ∧ nmF n x = frm x ∧ nmR n x = rts x := by
 by_cases c1 : isT x = true
 ·
  by_cases c2 : frm x < n
  ·
   exact ⟨c1, c2, (in_nm c1 c2).2⟩
  ·
   rw [(out_nm c1 c2).1] at h; omega
 ·
  rw [(isT_nm (Bool.eq_false_iff.2 c1)).1] at h; omega
theorem frm_lt (x : Nat) : frm x < 1024 := by unfold frm; split <;> omega
theorem rts_lt (x : Nat) : rts x < 8 := by unfold rts; split <;> omega
theorem walk_root {n : Nat} {xs : List UInt32} {root page : Int} (h : ¬ (0 ≤ root ∧ root < n)) : walkE n xs root page = 91 ∧ walkL n xs root page = lf0 := by
 have e : walkE n xs root page = 91 := by unfold walkE; rw [if_pos h]
 exact ⟨e, by unfold walkL; rw [e]; rfl⟩
theorem walk_page {n : Nat} {xs : List UInt32} {root page : Int} (h : 0 ≤ root ∧ root < n) (hp : ¬ (0 ≤ page ∧ page < 256)) : walkE n xs root page = 92 ∧ walkL n xs root page = lf0 := by
 have e : walkE n xs root page = 92 := by unfold walkE; rw [if_neg (fun k => k h), if_pos hp]
 exact ⟨e, by unfold walkL; rw [e]; rfl⟩
theorem walk_top {n : Nat} {xs : List UInt32} {root page : Int} (h : 0 ≤ root ∧ root < n) (hp : 0 ≤ page ∧ page < 256) (ht : ¬ nmE n (walkT n xs root page) = 0) : walkE n xs root page = nmE n (walkT n xs root page) ∧ walkL n xs root page = lf0 := by
 have e : walkE n xs root page = nmE n (walkT n xs root page) := by unfold walkE; rw [if_neg (fun k => k h), if_neg (fun k => k hp), if_neg ht]
 exact ⟨e, by unfold walkL; rw [e, if_neg ht]⟩
theorem walk_low {n : Nat} {xs : List UInt32} {root page : Int} (h : 0 ≤ root ∧ root < n) (hp : 0 ≤ page ∧ page < 256) (ht : nmE n (walkT n xs root page) = 0) : walkE n xs root page = nmE n (walkB n xs root page) := by
 unfold walkE; rw [if_neg (fun k => k h), if_neg (fun k => k hp), if_pos ht]
set_option maxHeartbeats 2000000 in
theorem walk_any (b g n : Nat) (xs : List UInt32) (root page : Int) (w : World) (h : Mn w b g n xs) :
  Calls Tryz.prog 9 #[.pointer (some ⟨b, 0, none⟩), .int .i64 root, .int .i64 page] w fun e w' =>
   e = .returned (.tuple #[(walkL n xs root page).v, .int .i64 (walkE n xs root page : Nat)]) ∧ Keeps (fun _ => False) w w' := by
 obtain ⟨W, hW⟩ : ∃ W, W = w.alloc (.cells #[.int .i64 0, .int .i64 0, .int .i64 0] 45) := ⟨_, rfl⟩
 have hB : Blk W w.heap.size lf0.vs 45 := by rw [hW]; exact Blk.new w _ 45
 have hK : Keeps (fun _ => False) w W := by rw [hW]; exact (Keeps.refl _ w).alloc _
 have hM := h.grown hK
 have H1 := has_any b g n xs root W hM
 have H2 := within_any page 256 W
 have c0 := hB.cell (i := 0) rfl
 have c1 := hB.cell (i := 1) rfl
 have c2 := hB.cell (i := 2) rfl
 have f0 := hB.frozen 0
 have f1 := hB.frozen 1
 have f2 := hB.frozen 2
 have HB : Hid (Blk W w.heap.size lf0.vs 45 ∧ Keeps (fun _ => False) w W) := ⟨hB, hK⟩
 have HE : Hid (W = w.alloc (.cells #[.int .i64 0, .int .i64 0, .int .i64 0] 45)) := hW
 have fin : ∀ l : Lf, Keeps (fun _ => False) w (setLf W w.heap.size l) := fun l => hK.setLf _ _ fun e => absurd e (Nat.lt_irrefl _)
 have HF : Hid (∀ l : Lf, Keeps (fun _ => False) w (setLf W w.heap.size l)) := fin
 clear fin hB hK h
 by_cases h1 : 0 ≤ root ∧ root < n
 ·
  rw [inR_true h1.1 h1.2] at H1
  have H1 : Hid (Calls _ _ _ _ _) := H1
  by_cases h2 : 0 ≤ page ∧ page < 256
  ·
   rw [inR_true h2.1 h2.2] at H2
   have H2 : Hid (Calls _ _ _ _ _) := H2
   obtain ⟨r, rfl⟩ := Int.eq_ofNat_of_zero_le h1.1
   obtain ⟨p, rfl⟩ := Int.eq_ofNat_of_zero_le h2.1
   obtain ⟨X, hX⟩ : ∃ X, X = walkT n xs (r : Int) (p : Int) := ⟨_, rfl⟩
   have H3 := named_any b g n xs r (p / 16) W hM (by omega) (by omega) X hX
   have hp0 : (p : Int) < 256 := by omega
   have e3 : ((p / 16 : Nat) : Int) = (p : Int) / 16 := by omega
   rw [e3] at H3
   have H3 : Hid (Calls _ _ _ _ _) := H3
   by_cases ht : nmE n X = 0
   ·
    obtain ⟨_, ht2, ht3, _⟩ := nmE_zero ht
    obtain ⟨Y, hY⟩ : ∃ Y, Y = walkB n xs (r : Int) (p : Int) := ⟨_, rfl⟩
    have hY' : Y = (xs.getD (16 * frm X + p % 16) 0).toNat := by rw [hY, hX]; rfl
    have H4 := named_any b g n xs (frm X) (p % 16) W hM ht2 (by omega) Y hY'
    rw [walk_low h1 h2 (by rw [← hX]; exact ht), ← hY]
    rw [show walkL n xs (r : Int) (p : Int) = if nmE n Y = 0 then ⟨p, frm Y, rts Y⟩ else lf0 by
     unfold walkL; rw [walk_low h1 h2 (by rw [← hX]; exact ht), ← hY]; rfl]
    have e4 : ((p % 16 : Nat) : Int) = (p : Int) % 16 := by omega
    rw [e4, ← ht3] at H4
    obtain ⟨T, hT⟩ : ∃ T, T = nmF n X := ⟨_, rfl⟩
    rw [← hT] at H3 H4
    rw [ht] at H3
    have H4 : Hid (Calls _ _ _ _ _) := H4
    clear hT ht3 ht2 hY hY' hX e3 e4 h1 h2 hM ht hW
    by_cases hy : nmE n Y = 0
    ·
     obtain ⟨_, _, hf, hr⟩ := nmE_zero hy
     rw [if_pos hy, hy]
     rw [hf, hr, hy] at H4
     have e5 : ∀ l : Lf, Hid (l = l) := fun l => rfl
     clear hf hr hy
     obtain ⟨F, hF⟩ : ∃ F, F = frm Y := ⟨_, rfl⟩
     obtain ⟨R, hR⟩ : ∃ R, R = rts Y := ⟨_, rfl⟩
     rw [← hF, ← hR] at H4 ⊢
     clear hF hR
     go_enter Tryz.func9, Tryz.ntmps9
     go_wp2_with fail
     rw [← HE.out]
     refine H1.out.mono ?_
     rintro e w1 ⟨rfl, hw⟩
     obtain rfl := hw.symm
     clear hw
     go_wp2_with fail
     refine H2.out.mono ?_
     rintro e w1 ⟨rfl, hw⟩
     obtain rfl := hw.symm
     clear hw
     go_wp2_with fail
     refine H3.out.mono ?_
     rintro e w1 ⟨rfl, hw⟩
     obtain rfl := hw.symm
     clear hw
     go_wp2_with fail
     refine H4.out.mono ?_
     rintro e w1 ⟨rfl, hw⟩
     obtain rfl := hw.symm
     clear hw
     go_wp2
     have HL : Hid (_ = _) := load_leaf (HB.out.1.setLf (⟨p, F, R⟩ : Lf))
     refine bodyPost_ret (results_cell_tmp (p := 6) (u := 7) (ty := 45) rfl _ _ ⟨w.heap.size, 0, none⟩ (⟨p, F, R⟩ : Lf).v rfl HL.out) rfl ?_
     exact ⟨rfl, HF.out (⟨p, F, R⟩ : Lf)⟩
    ·
     rw [if_neg hy]
     obtain ⟨E, hE⟩ : ∃ E, E = nmE n Y := ⟨_, rfl⟩
     rw [← hE] at hy H4 ⊢
     have hy' : ((E : Int) != 0) = true := by rw [bne_iff_ne]; omega
     clear hE hy
     go_enter Tryz.func9, Tryz.ntmps9
     go_wp2_with fail
     rw [← HE.out]
     refine H1.out.mono ?_
     rintro e w1 ⟨rfl, hw⟩
     obtain rfl := hw.symm
     clear hw
     go_wp2_with fail
     refine H2.out.mono ?_
     rintro e w1 ⟨rfl, hw⟩
     obtain rfl := hw.symm
     clear hw
     go_wp2_with fail
     refine H3.out.mono ?_
     rintro e w1 ⟨rfl, hw⟩
     obtain rfl := hw.symm
     clear hw
     go_wp2_with fail
     refine H4.out.mono ?_
     rintro e w1 ⟨rfl, hw⟩
     obtain rfl := hw.symm
     clear hw
     go_wp2
     have HL : Hid (_ = _) := load_leaf (HB.out.1.setLf lf0)
     refine bodyPost_ret (results_cell_tmp (p := 6) (u := 7) (ty := 45) rfl _ _ ⟨w.heap.size, 0, none⟩ lf0.v rfl HL.out) rfl ?_
     exact ⟨rfl, HF.out lf0⟩
   ·
    obtain ⟨q1, q2⟩ := walk_top h1 h2 (show ¬ nmE n (walkT n xs (r : Int) (p : Int)) = 0 by rw [← hX]; exact ht)
    rw [q1, q2, ← hX]
    obtain ⟨E, hE⟩ : ∃ E, E = nmE n X := ⟨_, rfl⟩
    rw [← hE] at ht H3 ⊢
    have hy' : ((E : Int) != 0) = true := by rw [bne_iff_ne]; omega
    clear hE ht q1 q2 hX e3 h1 h2 hM hW
    go_enter Tryz.func9, Tryz.ntmps9
    go_wp2_with fail
    rw [← HE.out]
    refine H1.out.mono ?_
    rintro e w1 ⟨rfl, hw⟩
    obtain rfl := hw.symm
    clear hw
    go_wp2_with fail
    refine H2.out.mono ?_
    rintro e w1 ⟨rfl, hw⟩
    obtain rfl := hw.symm
    clear hw
    go_wp2_with fail
    refine H3.out.mono ?_
    rintro e w1 ⟨rfl, hw⟩
    obtain rfl := hw.symm
    clear hw
    go_wp2
    have HL : Hid (_ = _) := load_leaf (HB.out.1.setLf lf0)
    refine bodyPost_ret (results_cell_tmp (p := 6) (u := 7) (ty := 45) rfl _ _ ⟨w.heap.size, 0, none⟩ lf0.v rfl HL.out) rfl ?_
    exact ⟨rfl, HF.out lf0⟩
  ·
   rw [inR_false h2] at H2
   have H2 : Hid (Calls _ _ _ _ _) := H2
   obtain ⟨q1, q2⟩ := walk_page (xs := xs) h1 h2
   rw [q1, q2]
   clear q1 q2 h1 h2 hM hW
   go_enter Tryz.func9, Tryz.ntmps9
   go_wp2_with fail
   rw [← HE.out]
   refine H1.out.mono ?_
   rintro e w1 ⟨rfl, hw⟩
   obtain rfl := hw.symm
   clear hw
   go_wp2_with fail
   refine H2.out.mono ?_
   rintro e w1 ⟨rfl, hw⟩
   obtain rfl := hw.symm
   clear hw
   go_wp2
   have HL : Hid (_ = _) := load_leaf (HB.out.1.setLf lf0)
   refine bodyPost_ret (results_cell_tmp (p := 6) (u := 7) (ty := 45) rfl _ _ ⟨w.heap.size, 0, none⟩ lf0.v rfl HL.out) rfl ?_
   exact ⟨rfl, HF.out lf0⟩
 ·
  rw [inR_false h1] at H1
  have H1 : Hid (Calls _ _ _ _ _) := H1
  obtain ⟨q1, q2⟩ := walk_root (xs := xs) (page := page) h1
  rw [q1, q2]
  clear q1 q2 h1 hM H2 hW
  go_enter Tryz.func9, Tryz.ntmps9
  go_wp2_with fail
  rw [← HE.out]
  refine H1.out.mono ?_
  rintro e w1 ⟨rfl, hw⟩
  obtain rfl := hw.symm
  clear hw
  go_wp2
  have HL : Hid (_ = _) := load_leaf (HB.out.1.setLf lf0)
  refine bodyPost_ret (results_cell_tmp (p := 6) (u := 7) (ty := 45) rfl _ _ ⟨w.heap.size, 0, none⟩ lf0.v rfl HL.out) rfl ?_
  exact ⟨rfl, HF.out lf0⟩
end Mq
end Go.Proofs.YtglhfijgnfignaaGreat
