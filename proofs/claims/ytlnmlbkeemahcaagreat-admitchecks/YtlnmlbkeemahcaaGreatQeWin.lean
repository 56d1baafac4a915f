import Derived.Test.YtlnmlbkeemahcaaGreatQc
namespace Go.Proofs.YtlnmlbkeemahcaaGreat
open Go.RowKit
set_option linter.unusedVariables false
set_option linter.unusedSimpArgs false
set_option maxRecDepth 6000
structure Rn where
 f : Int
 s : Int
deriving DecidableEq
abbrev Rn.v (r : Rn) : Value := .agg #[.int .i64 r.f, .int .i64 r.s]
def Rgn.pg (r : Rgn) : Rn := ⟨r.page, r.pages⟩
def Rgn.fr (r : Rgn) : Rn := ⟨r.frame, r.pages⟩
def Rn.meets (r o : Rn) : Bool := decide (r.f < o.f + o.s) && decide (o.f < r.f + r.s)
def Rn.Ok (r : Rn) : Prop := I64 (r.f + r.s)
theorem pagesOf_any (r : Rgn) (w : World) : Calls Tryz.prog 96 #[r.v] w fun e w' => e = .returned r.pg.v ∧ KF w w' := by
 obtain ⟨p, q, f, g⟩ := r
 go_enter Tryz.func96, Tryz.ntmps96
 go_wp2
 (try simp only [Exit.inBlock, Exit.then])
 have hB := Blk.new (w.alloc (.cells #[.int .i64 p, .int .i64 q, .int .i64 f, .int .i64 g] 54)) #[.int .i64 p, .int .i64 q] 102
 simp only [World.size_alloc] at hB
 refine bodyPost_ret (results_cell_row rfl _ _ (w.heap.size + 1) 102 _ (0, 0) _ rfl hB Tryz.underlying102 rfl (by kernel_rfl)) rfl ?_
 exact ⟨rfl, ((Keeps.refl _ _).alloc _).alloc _⟩
theorem framesOf_any (r : Rgn) (w : World) : Calls Tryz.prog 85 #[r.v] w fun e w' => e = .returned r.fr.v ∧ KF w w' := by
 obtain ⟨p, q, f, g⟩ := r
 go_enter Tryz.func85, Tryz.ntmps85
 go_wp2
 (try simp only [Exit.inBlock, Exit.then])
 have hB := Blk.new (w.alloc (.cells #[.int .i64 p, .int .i64 q, .int .i64 f, .int .i64 g] 54)) #[.int .i64 f, .int .i64 q] 102
 simp only [World.size_alloc] at hB
 refine bodyPost_ret (results_cell_row rfl _ _ (w.heap.size + 1) 102 _ (0, 0) _ rfl hB Tryz.underlying102 rfl (by kernel_rfl)) rfl ?_
 exact ⟨rfl, ((Keeps.refl _ _).alloc _).alloc _⟩
theorem meets_any (r o : Rn) (hr : r.Ok) (ho : o.Ok) (w : World) : Calls Tryz.prog 102 #[r.v, o.v] w fun e w' => e = .returned (.bool (r.meets o)) ∧ KF w w' := by
 obtain ⟨a, s⟩ := r
 obtain ⟨b, t⟩ := o
 unfold Rn.Ok I64 at hr ho
 dsimp only at hr ho
 unfold Rn.meets
 have q1 : IntKind.i64.wrap (b + t) = b + t := by rw [IntKind.wrap_i64]; omega
 have q2 : IntKind.i64.wrap (a + s) = a + s := by rw [IntKind.wrap_i64]; omega
 go_enter Tryz.func102, Tryz.ntmps102
 by_cases h : a < b + t
 ·
  have q : decide (a < b + t) = true := by simpa using h
  go_wp2
  go_ret
  simp only [q, Bool.true_and]
  exact ⟨rfl, ((Keeps.refl _ _).alloc _).alloc _⟩
 ·
  have q : decide (a < b + t) = false := by simpa using h
  go_wp2
  go_ret
  simp only [q, Bool.false_and]
  exact ⟨rfl, ((Keeps.refl _ _).alloc _).alloc _⟩
def letB (b : Nat) : Bool := decide (97 ≤ b) && decide (b ≤ 122)
theorem isLetter_any (b : Nat) (w : World) : Calls Tryz.prog 90 #[.int .u8 (b : Int)] w fun e w' => e = .returned (.bool (letB b)) ∧ w' = w := by
 unfold letB
 go_enter Tryz.func90, Tryz.ntmps90
 by_cases h : 97 ≤ b
 ·
  have q : decide ((97 : Int) ≤ (b : Int)) = true := by simp; omega
  go_wp2
  go_ret
  have e1 : decide ((b : Int) ≤ 122) = decide (b ≤ 122) := by rw [decide_eq_decide]; omega
  simp [h, e1]
 ·
  have q : decide ((97 : Int) ≤ (b : Int)) = false := by simp; omega
  go_wp2
  go_ret
  simp [h]
def Chn.most (h : Chn) : Int := if h.kind = 2 then 1 else 4
theorem mostDests_any (h : Chn) (w : World) : Calls Tryz.prog 77 #[h.v] w fun e w' => e = .returned (.int .i64 h.most) ∧ KF w w' := by
 obtain ⟨k, n, d⟩ := h
 unfold Chn.most
 go_enter Tryz.func77, Tryz.ntmps77
 by_cases h : k = 2
 ·
  subst h
  go_wp2
  go_ret
  exact ⟨rfl, (Keeps.refl _ _).alloc _⟩
 ·
  have q : (k == 2) = false := by simpa using h
  go_wp2
  go_ret
  simp only [h, if_false]
  exact ⟨rfl, (Keeps.refl _ _).alloc _⟩
def Chn.okB (h : Chn) : Bool := inR h.words 1 16 && (if h.kind = 1 then decide (h.depth = 0) else if h.kind = 2 then inR h.depth 1 8 else false)
set_option maxHeartbeats 1000000 in
theorem isChannel_any (h : Chn) (w : World) : Calls Tryz.prog 73 #[h.v] w fun e w' => e = .returned (.bool h.okB) ∧ KF w w' := by
 obtain ⟨k, n, d⟩ := h
 unfold Chn.okB
 have HC : Hid (∀ n a b w, Calls Tryz.prog 36 #[.int .i64 n, .int .i64 a, .int .i64 b] w fun e w' => e = .returned (.bool (inR n a b)) ∧ w' = w) := within_any
 dsimp only
 obtain ⟨b1, hb1⟩ : ∃ b, inR n 1 16 = b := ⟨_, rfl⟩
 obtain ⟨b2, hb2⟩ : ∃ b, inR d 1 8 = b := ⟨_, rfl⟩
 have HB : Hid (inR n 1 16 = b1 ∧ inR d 1 8 = b2) := ⟨hb1, hb2⟩
 rw [hb1, hb2]
 clear hb1 hb2
 go_enter Tryz.func73, Tryz.ntmps73
 go_wp2_with fail
 refine (HC.out _ _ _ _).mono ?_
 rintro e w1 ⟨rfl, rfl⟩
 rw [HB.out.1]
 cases b1 with
 | false =>
  go_wp2
  all_goals
   go_ret
   exact ⟨rfl, (Keeps.refl _ _).alloc _⟩
 | true =>
  by_cases h1 : k = 1
  ·
   subst h1
   go_wp2
   go_ret
   refine ⟨?_, (Keeps.refl _ _).alloc _⟩
   have : (d == 0) = decide (d = 0) := by by_cases h : d = 0 <;> simp [h]
   simp [this]
  ·
   have q1 : (k == 1) = false := by simpa using h1
   by_cases h2 : k = 2
   ·
    subst h2
    go_wp2_with fail
    refine (HC.out _ _ _ _).mono ?_
    rintro e w1 ⟨rfl, rfl⟩
    rw [HB.out.2]
    go_wp2
    go_ret
    refine ⟨?_, (Keeps.refl _ _).alloc _⟩
    simp
   ·
    have q2 : (k == 2) = false := by simpa using h2
    go_wp2
    go_ret
    refine ⟨?_, (Keeps.refl _ _).alloc _⟩
    simp [h1, h2]
def Rgn.okB (r : Rgn) (fr : Int) : Bool := inR r.page 0 255 && (inR r.pages 1 (256 - r.page) && (decide (0 ≤ r.frame) && (decide (r.pages ≤ fr - r.frame) && inR r.rights 1 7)))
set_option maxHeartbeats 4000000 in
theorem isRegion_any (r : Rgn) (fr : Int) (hr : r.Fine) (h1 : 1 ≤ fr) (h2 : fr ≤ 1024) (w : World) : Calls Tryz.prog 94 #[r.v, .int .i64 fr] w fun e w' => e = .returned (.bool (r.okB fr)) ∧ KF w w' := by
 obtain ⟨p, n, f, g⟩ := r
 unfold Rgn.Fine I64 at hr
 unfold Rgn.okB
 dsimp only at hr ⊢
 have HC : Hid (∀ n a b w, Calls Tryz.prog 36 #[.int .i64 n, .int .i64 a, .int .i64 b] w fun e w' => e = .returned (.bool (inR n a b)) ∧ w' = w) := within_any
 obtain ⟨b1, hb1⟩ : ∃ b, inR p 0 255 = b := ⟨_, rfl⟩
 have HB1 : Hid (inR p 0 255 = b1) := hb1
 obtain ⟨b2, hb2⟩ : ∃ b, inR n 1 (256 - p) = b := ⟨_, rfl⟩
 have HB2 : Hid (inR n 1 (256 - p) = b2) := hb2
 rw [hb1, hb2]
 clear hb2
 go_enter Tryz.func94, Tryz.ntmps94
 go_wp2_with fail
 refine (HC.out _ _ _ _).mono ?_
 rintro e w1 ⟨rfl, rfl⟩
 rw [HB1.out]
 cases b1 with
 | false =>
  clear hb1
  go_wp2
  go_ret
  exact ⟨rfl, (Keeps.refl _ _).alloc _⟩
 | true =>
  have hp : 0 ≤ p ∧ p ≤ 255 := by unfold inR at hb1; simpa using hb1
  have q1 : IntKind.i64.wrap (256 - p) = 256 - p := by rw [IntKind.wrap_i64]; omega
  clear hb1
  go_wp2_with fail
  refine (HC.out _ _ _ _).mono ?_
  rintro e w1 ⟨rfl, rfl⟩
  rw [HB2.out]
  cases b2 with
  | false =>
   go_wp2
   go_ret
   exact ⟨rfl, (Keeps.refl _ _).alloc _⟩
  | true =>
   by_cases hf : 0 ≤ f
   ·
    have qf : decide (0 ≤ f) = true := by simpa using hf
    have q2 : IntKind.i64.wrap (fr - f) = fr - f := by rw [IntKind.wrap_i64]; omega
    by_cases hn : n ≤ fr - f
    ·
     have qn : decide (n ≤ fr - f) = true := by simpa using hn
     go_wp2_with fail
     refine (HC.out _ _ _ _).mono ?_
     rintro e w1 ⟨rfl, rfl⟩
     go_wp2
     go_ret
     refine ⟨?_, (Keeps.refl _ _).alloc _⟩
     simp [qf, qn]
    ·
     have qn : decide (n ≤ fr - f) = false := by simpa using hn
     go_wp2
     go_ret
     refine ⟨?_, (Keeps.refl _ _).alloc _⟩
     simp [qf, qn]
   ·
    have qf : decide (0 ≤ f) = false := by simpa using hf
    go_wp2
    go_ret
    refine ⟨?_, (Keeps.refl _ _).alloc _⟩
    simp [qf]
structure CfI (w : World) (E : World → Prop) (w' : World) : Prop where
 env : E w'
 keeps : KF w w'
theorem CfI.kept {w : World} {E : World → Prop} {w' w'' : World} (h : CfI w E w') (hE : ∀ w w', E w → KF w w' → E w') (hK : KF w' w'') : CfI w E w'' :=
 ⟨hE _ _ h.env hK, h.keeps.trans hK fun _ _ h => h⟩
def IdxP (b : Bool) (w : World) (e : Ending) (w' : World) : Prop := (∃ z : Int, e = .returned (.int .i64 z) ∧ decide (0 ≤ z) = b) ∧ KF w w'
theorem any_take_no {α : Type} {xs : List α} {p : α → Bool} {k : Nat} {x : α} (hx : xs[k]? = some x) (h : (xs.take k).any p = false) (hp : p x = false) : (xs.take (k + 1)).any p = false := by
 rw [List.take_add_one, hx, List.any_append, h]
 simp [hp]
theorem any_take_yes {α : Type} {xs : List α} {p : α → Bool} {k : Nat} {x : α} (hx : xs[k]? = some x) (hp : p x = true) : xs.any p = true :=
 List.any_eq_true.2 ⟨x, List.mem_of_getElem? hx, hp⟩
set_option maxHeartbeats 4000000 in
theorem indexFunc_rgn (xs : List Rgn) (a : Option Addr) (cap f : Nat) (bs : Array Value) (E : World → Prop) (p : Rgn → Bool) (hent : ∀ args w, (callFunc f args).run Tryz.prog w = .ok (.enter f args) w)
  (hEk : ∀ w w', E w → KF w w' → E w') (hS : ∀ w, E w → SegA Rgn.vs 4 w a xs) (hlen : xs.length ≤ cap ∧ cap ≤ maxLen)
  (hC : ∀ x ∈ xs, ∀ w, E w → Calls Tryz.prog f (#[Rgn.v x] ++ bs) w fun e w' => e = .returned (.bool (p x)) ∧ KF w w') (w : World) (hE : E w) :
  Calls Tryz.prog 116 #[.slice a xs.length cap, .func (.func f) #[] bs] w (IdxP (xs.any p) w) := by
 have HE : Hid (∀ w w', E w → KF w w' → E w') := hEk
 have HC : Hid (∀ x ∈ xs, ∀ w, E w → Calls Tryz.prog f (#[Rgn.v x] ++ bs) w fun e w' => e = .returned (.bool (p x)) ∧ KF w w') := hC
 have HS : Hid (∀ w, E w → SegA Rgn.vs 4 w a xs) := hS
 have HO : Hid (CfI w E w) := ⟨hE, Keeps.refl _ _⟩
 obtain ⟨L, hL⟩ : ∃ L, xs.length = L := ⟨_, rfl⟩
 have HL : Hid (xs.length = L) := hL
 have hcc : (L : Int) ≤ cap ∧ (cap : Int) ≤ 9223372036854775807 := by unfold maxLen at hlen; omega
 rw [hL]
 clear hE hEk hS hC hL hlen
 go_enter Tryz.func116, Tryz.ntmps116
 go_wp2
 go_loopw [8] (fun i wr => ∃ j : Nat, j ≤ L ∧ i = .int .i64 j ∧ (xs.take j).any p = false ∧ CfI w E wr) (fun i _ => L - (intOf i).toNat)
 case atStart => exact ⟨0, by omega, rfl, rfl, HO.out⟩
 case round =>
  obtain ⟨k, hk, rfl, hno, hO⟩ := hrel
  by_cases hlt : k < L
  ·
   obtain ⟨X, hX⟩ : ∃ X, xs[k]? = some X := ⟨_, List.getElem?_eq_getElem (by have := HL.out; omega)⟩
   have HCX : Hid (∀ w, E w → Calls Tryz.prog f (#[Rgn.v X] ++ bs) w fun e w' => e = .returned (.bool (p X)) ∧ KF w w') := HC.out X (List.mem_of_getElem? hX)
   obtain ⟨g, o, ha, hc⟩ := (HS.out _ hO.env).at hX
   have c0 := hc 0 _ rfl
   rw [Nat.add_zero] at c0
   have c1 := hc 1 _ rfl
   have c2 := hc 2 _ rfl
   have c3 := hc 3 _ rfl
   have HK : Hid (CfI w E wr ∧ (xs.take k).any p = false ∧ xs[k]? = some X) := ⟨hO, hno, hX⟩
   clear hno hO hX hc
   subst ha
   go_wp2_with fail
   refine (HCX.out _ HK.out.1.env).mono ?_
   rintro e w1 ⟨rfl, hK⟩
   have HO1 : Hid (CfI w E w1) := HK.out.1.kept HE.out hK
   clear hK c0 c1 c2 c3
   obtain ⟨b, hb⟩ : ∃ b, p X = b := ⟨_, rfl⟩
   have HB : Hid (p X = b) := hb
   rw [hb]
   clear hb
   cases b with
   | false =>
    go_wp2
    go_roundw
    case rel => exact ⟨k + 1, by omega, by go_num, any_take_no HK.out.2.2 HK.out.2.1 HB.out, HO1.out⟩
    case measure => simp [intOf]; omega
   | true =>
    go_wp2
    go_ret
    refine ⟨⟨k, rfl, ?_⟩, HO1.out.keeps⟩
    rw [any_take_yes HK.out.2.2 HB.out]
    simp
  ·
   have hkL : k = L := by omega
   subst hkL
   have HK : Hid (CfI w E wr ∧ (xs.take k).any p = false) := ⟨hO, hno⟩
   clear hO hno
   go_wp2
   go_ret
   refine ⟨⟨-1, rfl, ?_⟩, HK.out.1.keeps⟩
   have := HK.out.2
   rw [List.take_of_length_le (by rw [HL.out]; omega)] at this
   rw [this]
   rfl
theorem containsFunc_rgn (xs : List Rgn) (a : Option Addr) (cap f : Nat) (bs : Array Value) (E : World → Prop) (p : Rgn → Bool) (hent : ∀ args w, (callFunc f args).run Tryz.prog w = .ok (.enter f args) w)
  (hEk : ∀ w w', E w → KF w w' → E w') (hS : ∀ w, E w → SegA Rgn.vs 4 w a xs) (hlen : xs.length ≤ cap ∧ cap ≤ maxLen)
  (hC : ∀ x ∈ xs, ∀ w, E w → Calls Tryz.prog f (#[Rgn.v x] ++ bs) w fun e w' => e = .returned (.bool (p x)) ∧ KF w w') (w : World) (hE : E w) :
  Calls Tryz.prog 100 #[.slice a xs.length cap, .func (.func f) #[] bs] w fun e w' => e = .returned (.bool (xs.any p)) ∧ KF w w' := by
 have HI : Hid (Calls Tryz.prog 116 #[.slice a xs.length cap, .func (.func f) #[] bs] w (IdxP (xs.any p) w)) := indexFunc_rgn xs a cap f bs E p hent hEk hS hlen hC w hE
 obtain ⟨L, hL⟩ : ∃ L, xs.length = L := ⟨_, rfl⟩
 obtain ⟨B, hB⟩ : ∃ B, xs.any p = B := ⟨_, rfl⟩
 rw [hL, hB] at HI
 rw [hL, hB]
 clear hent hEk hS hlen hC hE hL hB
 go_enter Tryz.func100, Tryz.ntmps100
 go_wp2_with fail
 refine HI.out.mono ?_
 rintro e w1 ⟨⟨z, rfl, hz⟩, hK⟩
 have HK : Hid (KF w w1) := hK
 clear hK HI
 go_wp2
 go_ret
 exact ⟨rfl, HK.out⟩
set_option maxHeartbeats 4000000 in
theorem indexFunc_par (xs : List Par) (a : Option Addr) (cap f : Nat) (bs : Array Value) (E : World → Prop) (p : Par → Bool) (hent : ∀ args w, (callFunc f args).run Tryz.prog w = .ok (.enter f args) w)
  (hEk : ∀ w w', E w → KF w w' → E w') (hS : ∀ w, E w → SegA Par.vs 8 w a xs) (hlen : xs.length ≤ cap ∧ cap ≤ maxLen)
  (hC : ∀ x ∈ xs, ∀ w, E w → Calls Tryz.prog f (#[Par.v x] ++ bs) w fun e w' => e = .returned (.bool (p x)) ∧ KF w w') (w : World) (hE : E w) :
  Calls Tryz.prog 115 #[.slice a xs.length cap, .func (.func f) #[] bs] w (IdxP (xs.any p) w) := by
 have HE : Hid (∀ w w', E w → KF w w' → E w') := hEk
 have HC : Hid (∀ x ∈ xs, ∀ w, E w → Calls Tryz.prog f (#[Par.v x] ++ bs) w fun e w' => e = .returned (.bool (p x)) ∧ KF w w') := hC
 have HS : Hid (∀ w, E w → SegA Par.vs 8 w a xs) := hS
 have HO : Hid (CfI w E w) := ⟨hE, Keeps.refl _ _⟩
 obtain ⟨L, hL⟩ : ∃ L, xs.length = L := ⟨_, rfl⟩
 have HL : Hid (xs.length = L) := hL
 have hcc : (L : Int) ≤ cap ∧ (cap : Int) ≤ 9223372036854775807 := by unfold maxLen at hlen; omega
 rw [hL]
 clear hE hEk hS hC hL hlen
 go_enter Tryz.func115, Tryz.ntmps115
 go_wp2
 go_loopw [8] (fun i wr => ∃ j : Nat, j ≤ L ∧ i = .int .i64 j ∧ (xs.take j).any p = false ∧ CfI w E wr) (fun i _ => L - (intOf i).toNat)
 case atStart => exact ⟨0, by omega, rfl, rfl, HO.out⟩
 case round =>
  obtain ⟨k, hk, rfl, hno, hO⟩ := hrel
  by_cases hlt : k < L
  ·
   obtain ⟨X, hX⟩ : ∃ X, xs[k]? = some X := ⟨_, List.getElem?_eq_getElem (by have := HL.out; omega)⟩
   have HCX : Hid (∀ w, E w → Calls Tryz.prog f (#[Par.v X] ++ bs) w fun e w' => e = .returned (.bool (p X)) ∧ KF w w') := HC.out X (List.mem_of_getElem? hX)
   obtain ⟨g, o, ha, hc⟩ := (HS.out _ hO.env).at hX
   have c0 := hc 0 _ rfl
   rw [Nat.add_zero] at c0
   have c1 := hc 1 _ rfl
   have c2 := hc 2 _ rfl
   have c3 := hc 3 _ rfl
   have c4 := hc 4 _ rfl
   have c5 := hc 5 _ rfl
   have c6 := hc 6 _ rfl
   have c7 := hc 7 _ rfl
   obtain ⟨RL, hRL⟩ : ∃ RL, X.rs.length = RL := ⟨_, rfl⟩
   obtain ⟨PL, hPL⟩ : ∃ PL, X.ps.length = PL := ⟨_, rfl⟩
   rw [hRL] at c6
   rw [hPL] at c7
   dsimp only [Par.v] at HCX
   rw [hRL, hPL] at HCX
   clear hRL hPL
   have HK : Hid (CfI w E wr ∧ (xs.take k).any p = false ∧ xs[k]? = some X) := ⟨hO, hno, hX⟩
   clear hno hO hX hc
   subst ha
   go_wp2_with fail
   refine (HCX.out _ HK.out.1.env).mono ?_
   rintro e w1 ⟨rfl, hK⟩
   have HO1 : Hid (CfI w E w1) := HK.out.1.kept HE.out hK
   clear hK c0 c1 c2 c3 c4 c5 c6 c7
   obtain ⟨b, hb⟩ : ∃ b, p X = b := ⟨_, rfl⟩
   have HB : Hid (p X = b) := hb
   rw [hb]
   clear hb
   cases b with
   | false =>
    go_wp2
    go_roundw
    case rel => exact ⟨k + 1, by omega, by go_num, any_take_no HK.out.2.2 HK.out.2.1 HB.out, HO1.out⟩
    case measure => simp [intOf]; omega
   | true =>
    go_wp2
    go_ret
    refine ⟨⟨k, rfl, ?_⟩, HO1.out.keeps⟩
    rw [any_take_yes HK.out.2.2 HB.out]
    simp
  ·
   have hkL : k = L := by omega
   subst hkL
   have HK : Hid (CfI w E wr ∧ (xs.take k).any p = false) := ⟨hO, hno⟩
   clear hO hno
   go_wp2
   go_ret
   refine ⟨⟨-1, rfl, ?_⟩, HK.out.1.keeps⟩
   have := HK.out.2
   rw [List.take_of_length_le (by rw [HL.out]; omega)] at this
   rw [this]
   rfl
theorem containsFunc_par (xs : List Par) (a : Option Addr) (cap f : Nat) (bs : Array Value) (E : World → Prop) (p : Par → Bool) (hent : ∀ args w, (callFunc f args).run Tryz.prog w = .ok (.enter f args) w)
  (hEk : ∀ w w', E w → KF w w' → E w') (hS : ∀ w, E w → SegA Par.vs 8 w a xs) (hlen : xs.length ≤ cap ∧ cap ≤ maxLen)
  (hC : ∀ x ∈ xs, ∀ w, E w → Calls Tryz.prog f (#[Par.v x] ++ bs) w fun e w' => e = .returned (.bool (p x)) ∧ KF w w') (w : World) (hE : E w) :
  Calls Tryz.prog 91 #[.slice a xs.length cap, .func (.func f) #[] bs] w fun e w' => e = .returned (.bool (xs.any p)) ∧ KF w w' := by
 have HI : Hid (Calls Tryz.prog 115 #[.slice a xs.length cap, .func (.func f) #[] bs] w (IdxP (xs.any p) w)) := indexFunc_par xs a cap f bs E p hent hEk hS hlen hC w hE
 obtain ⟨L, hL⟩ : ∃ L, xs.length = L := ⟨_, rfl⟩
 obtain ⟨B, hB⟩ : ∃ B, xs.any p = B := ⟨_, rfl⟩
 rw [hL, hB] at HI
 rw [hL, hB]
 clear hent hEk hS hlen hC hE hL hB
 go_enter Tryz.func91, Tryz.ntmps91
 go_wp2_with fail
 refine HI.out.mono ?_
 rintro e w1 ⟨⟨z, rfl, hz⟩, hK⟩
 have HK : Hid (KF w w1) := hK
 clear hK HI
 go_wp2
 go_ret
 exact ⟨rfl, HK.out⟩
set_option maxHeartbeats 4000000 in
theorem indexFunc_core (xs : List Core) (a : Option Addr) (cap f : Nat) (bs : Array Value) (E : World → Prop) (p : Core → Bool) (hent : ∀ args w, (callFunc f args).run Tryz.prog w = .ok (.enter f args) w)
  (hEk : ∀ w w', E w → KF w w' → E w') (hS : ∀ w, E w → SegA Core.vs 1 w a xs) (hlen : xs.length ≤ cap ∧ cap ≤ maxLen)
  (hC : ∀ x ∈ xs, ∀ w, E w → Calls Tryz.prog f (#[Core.v x] ++ bs) w fun e w' => e = .returned (.bool (p x)) ∧ KF w w') (w : World) (hE : E w) :
  Calls Tryz.prog 126 #[.slice a xs.length cap, .func (.func f) #[] bs] w (IdxP (xs.any p) w) := by
 have HE : Hid (∀ w w', E w → KF w w' → E w') := hEk
 have HC : Hid (∀ x ∈ xs, ∀ w, E w → Calls Tryz.prog f (#[Core.v x] ++ bs) w fun e w' => e = .returned (.bool (p x)) ∧ KF w w') := hC
 have HS : Hid (∀ w, E w → SegA Core.vs 1 w a xs) := hS
 have HO : Hid (CfI w E w) := ⟨hE, Keeps.refl _ _⟩
 obtain ⟨L, hL⟩ : ∃ L, xs.length = L := ⟨_, rfl⟩
 have HL : Hid (xs.length = L) := hL
 have hcc : (L : Int) ≤ cap ∧ (cap : Int) ≤ 9223372036854775807 := by unfold maxLen at hlen; omega
 rw [hL]
 clear hE hEk hS hC hL hlen
 go_enter Tryz.func126, Tryz.ntmps126
 go_wp2
 go_loopw [8] (fun i wr => ∃ j : Nat, j ≤ L ∧ i = .int .i64 j ∧ (xs.take j).any p = false ∧ CfI w E wr) (fun i _ => L - (intOf i).toNat)
 case atStart => exact ⟨0, by omega, rfl, rfl, HO.out⟩
 case round =>
  obtain ⟨k, hk, rfl, hno, hO⟩ := hrel
  by_cases hlt : k < L
  ·
   obtain ⟨X, hX⟩ : ∃ X, xs[k]? = some X := ⟨_, List.getElem?_eq_getElem (by have := HL.out; omega)⟩
   have HCX : Hid (∀ w, E w → Calls Tryz.prog f (#[Core.v X] ++ bs) w fun e w' => e = .returned (.bool (p X)) ∧ KF w w') := HC.out X (List.mem_of_getElem? hX)
   obtain ⟨g, o, ha, hc⟩ := (HS.out _ hO.env).at hX
   have c0 := hc 0 _ rfl
   rw [Nat.mul_one, Nat.add_zero] at c0
   (try dsimp only [Core.vs] at c0)
   obtain ⟨XL, hXL⟩ : ∃ XL, X.ws.length = XL := ⟨_, rfl⟩
   rw [hXL] at c0
   have HXL : Hid (X.ws.length = XL) := hXL
   dsimp only [Core.v] at HCX
   rw [hXL] at HCX
   clear hXL
   have HK : Hid (CfI w E wr ∧ (xs.take k).any p = false ∧ xs[k]? = some X) := ⟨hO, hno, hX⟩
   clear hno hO hX hc
   subst ha
   go_wp2_with fail
   refine (HCX.out _ HK.out.1.env).mono ?_
   rintro e w1 ⟨rfl, hK⟩
   have HO1 : Hid (CfI w E w1) := HK.out.1.kept HE.out hK
   clear hK c0
   obtain ⟨b, hb⟩ : ∃ b, p X = b := ⟨_, rfl⟩
   have HB : Hid (p X = b) := hb
   rw [hb]
   clear hb
   cases b with
   | false =>
    go_wp2
    go_roundw
    case rel => exact ⟨k + 1, by omega, by go_num, any_take_no HK.out.2.2 HK.out.2.1 HB.out, HO1.out⟩
    case measure => simp [intOf]; omega
   | true =>
    go_wp2
    go_ret
    refine ⟨⟨k, rfl, ?_⟩, HO1.out.keeps⟩
    rw [any_take_yes HK.out.2.2 HB.out]
    simp
  ·
   have hkL : k = L := by omega
   subst hkL
   have HK : Hid (CfI w E wr ∧ (xs.take k).any p = false) := ⟨hO, hno⟩
   clear hO hno
   go_wp2
   go_ret
   refine ⟨⟨-1, rfl, ?_⟩, HK.out.1.keeps⟩
   have := HK.out.2
   rw [List.take_of_length_le (by rw [HL.out]; omega)] at this
   rw [this]
   rfl
theorem containsFunc_core (xs : List Core) (a : Option Addr) (cap f : Nat) (bs : Array Value) (E : World → Prop) (p : Core → Bool) (hent : ∀ args w, (callFunc f args).run Tryz.prog w = .ok (.enter f args) w)
  (hEk : ∀ w w', E w → KF w w' → E w') (hS : ∀ w, E w → SegA Core.vs 1 w a xs) (hlen : xs.length ≤ cap ∧ cap ≤ maxLen)
  (hC : ∀ x ∈ xs, ∀ w, E w → Calls Tryz.prog f (#[Core.v x] ++ bs) w fun e w' => e = .returned (.bool (p x)) ∧ KF w w') (w : World) (hE : E w) :
  Calls Tryz.prog 117 #[.slice a xs.length cap, .func (.func f) #[] bs] w fun e w' => e = .returned (.bool (xs.any p)) ∧ KF w w' := by
 have HI : Hid (Calls Tryz.prog 126 #[.slice a xs.length cap, .func (.func f) #[] bs] w (IdxP (xs.any p) w)) := indexFunc_core xs a cap f bs E p hent hEk hS hlen hC w hE
 obtain ⟨L, hL⟩ : ∃ L, xs.length = L := ⟨_, rfl⟩
 obtain ⟨B, hB⟩ : ∃ B, xs.any p = B := ⟨_, rfl⟩
 rw [hL, hB] at HI
 rw [hL, hB]
 clear hent hEk hS hlen hC hE hL hB
 go_enter Tryz.func117, Tryz.ntmps117
 go_wp2_with fail
 refine HI.out.mono ?_
 rintro e w1 ⟨⟨z, rfl, hz⟩, hK⟩
 have HK : Hid (KF w w1) := hK
 clear hK HI
 go_wp2
 go_ret
 exact ⟨rfl, HK.out⟩
set_option maxHeartbeats 4000000 in
theorem indexFunc_win (xs : List Win) (a : Option Addr) (cap f : Nat) (bs : Array Value) (E : World → Prop) (p : Win → Bool) (hent : ∀ args w, (callFunc f args).run Tryz.prog w = .ok (.enter f args) w)
  (hEk : ∀ w w', E w → KF w w' → E w') (hS : ∀ w, E w → SegA Win.vs 3 w a xs) (hlen : xs.length ≤ cap ∧ cap ≤ maxLen)
  (hC : ∀ x ∈ xs, ∀ w, E w → Calls Tryz.prog f (#[Win.v x] ++ bs) w fun e w' => e = .returned (.bool (p x)) ∧ KF w w') (w : World) (hE : E w) :
  Calls Tryz.prog 127 #[.slice a xs.length cap, .func (.func f) #[] bs] w (IdxP (xs.any p) w) := by
 have HE : Hid (∀ w w', E w → KF w w' → E w') := hEk
 have HC : Hid (∀ x ∈ xs, ∀ w, E w → Calls Tryz.prog f (#[Win.v x] ++ bs) w fun e w' => e = .returned (.bool (p x)) ∧ KF w w') := hC
 have HS : Hid (∀ w, E w → SegA Win.vs 3 w a xs) := hS
 have HO : Hid (CfI w E w) := ⟨hE, Keeps.refl _ _⟩
 obtain ⟨L, hL⟩ : ∃ L, xs.length = L := ⟨_, rfl⟩
 have HL : Hid (xs.length = L) := hL
 have hcc : (L : Int) ≤ cap ∧ (cap : Int) ≤ 9223372036854775807 := by unfold maxLen at hlen; omega
 rw [hL]
 clear hE hEk hS hC hL hlen
 go_enter Tryz.func127, Tryz.ntmps127
 go_wp2
 go_loopw [8] (fun i wr => ∃ j : Nat, j ≤ L ∧ i = .int .i64 j ∧ (xs.take j).any p = false ∧ CfI w E wr) (fun i _ => L - (intOf i).toNat)
 case atStart => exact ⟨0, by omega, rfl, rfl, HO.out⟩
 case round =>
  obtain ⟨k, hk, rfl, hno, hO⟩ := hrel
  by_cases hlt : k < L
  ·
   obtain ⟨X, hX⟩ : ∃ X, xs[k]? = some X := ⟨_, List.getElem?_eq_getElem (by have := HL.out; omega)⟩
   have HCX : Hid (∀ w, E w → Calls Tryz.prog f (#[Win.v X] ++ bs) w fun e w' => e = .returned (.bool (p X)) ∧ KF w w') := HC.out X (List.mem_of_getElem? hX)
   obtain ⟨g, o, ha, hc⟩ := (HS.out _ hO.env).at hX
   have c0 := hc 0 _ rfl
   rw [Nat.add_zero] at c0
   have c1 := hc 1 _ rfl
   have c2 := hc 2 _ rfl
   have HK : Hid (CfI w E wr ∧ (xs.take k).any p = false ∧ xs[k]? = some X) := ⟨hO, hno, hX⟩
   clear hno hO hX hc
   subst ha
   go_wp2_with fail
   refine (HCX.out _ HK.out.1.env).mono ?_
   rintro e w1 ⟨rfl, hK⟩
   have HO1 : Hid (CfI w E w1) := HK.out.1.kept HE.out hK
   clear hK c0 c1 c2
   obtain ⟨b, hb⟩ : ∃ b, p X = b := ⟨_, rfl⟩
   have HB : Hid (p X = b) := hb
   rw [hb]
   clear hb
   cases b with
   | false =>
    go_wp2
    go_roundw
    case rel => exact ⟨k + 1, by omega, by go_num, any_take_no HK.out.2.2 HK.out.2.1 HB.out, HO1.out⟩
    case measure => simp [intOf]; omega
   | true =>
    go_wp2
    go_ret
    refine ⟨⟨k, rfl, ?_⟩, HO1.out.keeps⟩
    rw [any_take_yes HK.out.2.2 HB.out]
    simp
  ·
   have hkL : k = L := by omega
   subst hkL
   have HK : Hid (CfI w E wr ∧ (xs.take k).any p = false) := ⟨hO, hno⟩
   clear hO hno
   go_wp2
   go_ret
   refine ⟨⟨-1, rfl, ?_⟩, HK.out.1.keeps⟩
   have := HK.out.2
   rw [List.take_of_length_le (by rw [HL.out]; omega)] at this
   rw [this]
   rfl
theorem containsFunc_win (xs : List Win) (a : Option Addr) (cap f : Nat) (bs : Array Value) (E : World → Prop) (p : Win → Bool) (hent : ∀ args w, (callFunc f args).run Tryz.prog w = .ok (.enter f args) w)
  (hEk : ∀ w w', E w → KF w w' → E w') (hS : ∀ w, E w → SegA Win.vs 3 w a xs) (hlen : xs.length ≤ cap ∧ cap ≤ maxLen)
  (hC : ∀ x ∈ xs, ∀ w, E w → Calls Tryz.prog f (#[Win.v x] ++ bs) w fun e w' => e = .returned (.bool (p x)) ∧ KF w w') (w : World) (hE : E w) :
  Calls Tryz.prog 119 #[.slice a xs.length cap, .func (.func f) #[] bs] w fun e w' => e = .returned (.bool (xs.any p)) ∧ KF w w' := by
 have HI : Hid (Calls Tryz.prog 127 #[.slice a xs.length cap, .func (.func f) #[] bs] w (IdxP (xs.any p) w)) := indexFunc_win xs a cap f bs E p hent hEk hS hlen hC w hE
 obtain ⟨L, hL⟩ : ∃ L, xs.length = L := ⟨_, rfl⟩
 obtain ⟨B, hB⟩ : ∃ B, xs.any p = B := ⟨_, rfl⟩
 rw [hL, hB] at HI
 rw [hL, hB]
 clear hent hEk hS hlen hC hE hL hB
 go_enter Tryz.func119, Tryz.ntmps119
 go_wp2_with fail
 refine HI.out.mono ?_
 rintro e w1 ⟨⟨z, rfl, hz⟩, hK⟩
 have HK : Hid (KF w w1) := hK
 clear hK HI
 go_wp2
 go_ret
 exact ⟨rfl, HK.out⟩
end Go.Proofs.YtlnmlbkeemahcaaGreat
