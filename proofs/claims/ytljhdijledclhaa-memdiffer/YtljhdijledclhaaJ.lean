import Derived.Test.YtljhdijledclhaaI
import Derived.Test.YtljhdijledclhaaF
import Derived.Deep.CutBlock
import Derived.Deep.CutRange
namespace Go.Proofs.Ytljhdijledclhaa
open Go.RowKit Go.Shelf
attribute [local go_sem] Oper.semAt_some func_nil57 func_nil58
set_option linter.unusedVariables false

structure St (w W : World) (R P1 P2 a ga b gb : Nat) (xs ys : List UInt32) : Prop where
  k : Keeps (fun _ => False) w W
  r : Blk W R [.bool false] 4
  p1 : Blk W P1 [.pointer (some ⟨a, 0, none⟩)] 42
  p2 : Blk W P2 [.pointer (some ⟨b, 0, none⟩)] 42
  ma : Mm W a ga xs
  mb : Mm W b gb ys

/-- The blocks lie apart, and are new. -/
structure Apart (H R P1 P2 a ga b gb : Nat) : Prop where
  na : H ≤ ga
  nb : H ≤ gb
  a1 : ga ≠ R
  a2 : ga ≠ P1
  a3 : ga ≠ P2
  a4 : ga ≠ b
  a5 : ga ≠ gb
  b1 : gb ≠ R
  b2 : gb ≠ P1
  b3 : gb ≠ P2
  b4 : gb ≠ a

theorem St.kept {S : Nat → Prop} {w W W' : World} {R P1 P2 a ga b gb : Nat} {xs ys : List UInt32} (h : St w W R P1 P2 a ga b gb xs ys) (hK : Keeps S W W')
    (hS : ∀ k, S k → w.heap.size ≤ k ∧ k ≠ R ∧ k ≠ P1 ∧ k ≠ P2 ∧ k ≠ a ∧ k ≠ ga ∧ k ≠ b ∧ k ≠ gb) : St w W' R P1 P2 a ga b gb xs ys :=
  ⟨h.k.trans hK fun k hk e => by have := (hS k e).1; omega, h.r.kept hK fun e => (hS _ e).2.1 rfl, h.p1.kept hK fun e => (hS _ e).2.2.1 rfl, h.p2.kept hK fun e => (hS _ e).2.2.2.1 rfl,
    h.ma.kept hK (fun e => (hS _ e).2.2.2.2.1 rfl) (fun e => (hS _ e).2.2.2.2.2.1 rfl), h.mb.kept hK (fun e => (hS _ e).2.2.2.2.2.2.1 rfl) (fun e => (hS _ e).2.2.2.2.2.2.2 rfl)⟩
theorem St.grown {w W W' : World} {R P1 P2 a ga b gb : Nat} {xs ys : List UInt32} (h : St w W R P1 P2 a ga b gb xs ys) (hK : Keeps (fun _ => False) W W') : St w W' R P1 P2 a ga b gb xs ys := h.kept hK fun _ e => e.elim
theorem St.wroteA {w W W' : World} {R P1 P2 a ga b gb : Nat} {xs ys zs : List UInt32} (h : St w W R P1 P2 a ga b gb xs ys) (A : Apart w.heap.size R P1 P2 a ga b gb) (hK : Keeps (· = ga) W W') (hm : Mm W' a ga zs) : St w W' R P1 P2 a ga b gb zs ys :=
  ⟨h.k.trans hK fun k hk e => by have := A.na; omega, h.r.kept hK A.a1.symm, h.p1.kept hK A.a2.symm, h.p2.kept hK A.a3.symm, hm, h.mb.kept hK A.a4.symm A.a5.symm⟩
theorem St.wroteB {w W W' : World} {R P1 P2 a ga b gb : Nat} {xs ys zs : List UInt32} (h : St w W R P1 P2 a ga b gb xs ys) (A : Apart w.heap.size R P1 P2 a ga b gb) (hK : Keeps (· = gb) W W') (hm : Mm W' b gb zs) : St w W' R P1 P2 a ga b gb xs zs :=
  ⟨h.k.trans hK fun k hk e => by have := A.nb; omega, h.r.kept hK A.b1.symm, h.p1.kept hK A.b2.symm, h.p2.kept hK A.b3.symm, h.ma.kept hK A.b4.symm A.a5, hm⟩

/-- The two memories, and the variables of the loop. -/
structure Sq (w W : World) (R P1 P2 a ga b gb Q : Nat) (xs ys : List UInt32) (lst : Int) (cnt : Nat) : Prop where
  st : St w W R P1 P2 a ga b gb xs ys
  q1 : Blk W Q [.int .i64 lst] 3
  q2 : Blk W (Q + 1) [.int .i64 (cnt : Int)] 3
  b1 : W.cell? ⟨Q + 2, 0, none⟩ = some (.pointer (some ⟨a, 0, none⟩))
  b2 : W.cell? ⟨Q + 3, 0, none⟩ = some (.pointer (some ⟨b, 0, none⟩))
  b3 : W.cell? ⟨Q + 4, 0, none⟩ = some (.pointer (some ⟨b, 0, none⟩))
  b4 : W.cell? ⟨Q + 5, 0, none⟩ = some (.pointer (some ⟨a, 0, none⟩))

structure Low (H R P1 P2 a ga b gb Q : Nat) : Prop where
  h : H ≤ Q
  r : R < Q
  p1 : P1 < Q
  p2 : P2 < Q
  a : a < Q
  ga : ga < Q
  b : b < Q
  gb : gb < Q

theorem Sq.kept {S : Nat → Prop} {w W W' : World} {R P1 P2 a ga b gb Q : Nat} {xs ys : List UInt32} {lst : Int} {cnt : Nat} (h : Sq w W R P1 P2 a ga b gb Q xs ys lst cnt) (L : Low w.heap.size R P1 P2 a ga b gb Q) (hK : Keeps S W W')
    (hS : ∀ k, S k → Q + 6 ≤ k) : Sq w W' R P1 P2 a ga b gb Q xs ys lst cnt := by
  have hn : ∀ k, k < Q + 6 → ¬ S k := fun k hk e => by have := hS k e; omega
  refine ⟨h.st.kept hK fun k e => ?_, h.q1.kept hK (hn _ (by omega)), h.q2.kept hK (hn _ (by omega)), cell_kept' h.b1 hK (hn _ (by omega)), cell_kept' h.b2 hK (hn _ (by omega)), cell_kept' h.b3 hK (hn _ (by omega)), cell_kept' h.b4 hK (hn _ (by omega))⟩
  have := hS k e
  obtain ⟨l0, l1, l2, l3, l4, l5, l6, l7⟩ := L
  refine ⟨?_, ?_, ?_, ?_, ?_, ?_, ?_, ?_⟩ <;> omega

def AlikeI (w : World) (R P1 P2 a ga b gb Q n s : Nat) (W : World) : Prop :=
  ∃ xs ys lst cnt, Sq w W R P1 P2 a ga b gb Q xs ys lst cnt ∧ xs.length = n ∧ ys.length = n ∧ (∀ j, j < s → xs[j]? = ys[j]?) ∧ -1 ≤ lst ∧ lst < s ∧ cnt ≤ s

theorem AlikeI.two {w : World} {R P1 P2 a ga b gb Q n s : Nat} {W : World} (h : AlikeI w R P1 P2 a ga b gb Q n s W) : Two (Q + 2) (Q + 3) a ga b gb n n W := by
  obtain ⟨xs, ys, lst, cnt, hs, h1, h2, _⟩ := h
  exact ⟨hs.b1, hs.b2, xs, ys, hs.st.ma, hs.st.mb, h1, h2⟩

theorem tellD_kept {b g c h L M s x : Nat} {W W' : World} {us vs : List UInt32} (hu : Mm W b g us) (hv : Mm W c h vs) (hu' : Mm W' b g us) (hv' : Mm W' c h vs) (ht : TellD b g c h L M s x W) : TellD b g c h L M s x W' :=
  ⟨ht.1, ht.2.1, fun ps qs hp hq => by rw [← (hu'.inj hp).2, ← (hv'.inj hq).2]; exact ht.2.2 us vs hu hv⟩

/-- What the end of the law needs. -/
structure Tail (w W : World) (R P1 P2 a ga b gb Q D1 D2 : Nat) (xs ys : List UInt32) (cnt : Nat) : Prop where
  st : St w W R P1 P2 a ga b gb xs ys
  q2 : Blk W (Q + 1) [.int .i64 (cnt : Int)] 3
  d1 : W.heap[D1]? = some (.deferred (some []))
  d2 : W.heap[D2]? = some (.deferred (some []))
theorem obj_kept {S : Nat → Prop} {w w' : World} {d : Nat} {o : Obj} (h : w.heap[d]? = some o) (hK : Keeps S w w') (hn : ¬ S d) : w'.heap[d]? = some o :=
  (hK.block d (Array.getElem?_eq_some_iff.1 h).1 hn).trans h
theorem Tail.grown {w W W' : World} {R P1 P2 a ga b gb Q D1 D2 : Nat} {xs ys : List UInt32} {cnt : Nat} (h : Tail w W R P1 P2 a ga b gb Q D1 D2 xs ys cnt) (hK : Keeps (fun _ => False) W W') : Tail w W' R P1 P2 a ga b gb Q D1 D2 xs ys cnt :=
  ⟨h.st.grown hK, h.q2.kept hK fun e => e, obj_kept h.d1 hK fun e => e, obj_kept h.d2 hK fun e => e⟩

theorem results_cell_val {P : Program} {fn : Func} {p : Tmp} {ty : TypeId} (h : fn.results = #[.cell p ty]) (tmps : Array Value) (w : World) (g : Nat) (v : Value)
    (hp : tmps.getD p undef = .pointer (some ⟨g, 0, none⟩)) (hl : (loadVar ty ⟨g, 0, none⟩).run P w = .ok v w) : (results fn tmps).run P w = .ok v w := by
  have hp' : tmps[p]?.getD undef = .pointer (some ⟨g, 0, none⟩) := by simpa using hp
  simp [results, h, hp', asAddr, hl]

theorem one_place (ps : List UInt32) (p n : Nat) (hn : ps.length = n) (hp : p < n) (s : Nat) (hs : s < max (lay ps p [5]).length (lay ps p [6]).length) : Unl (lay ps p [5]) (lay ps p [6]) s ↔ s = p := by
  have l5 := lay_length ps p [5] (by simp; omega)
  have l6 := lay_length ps p [6] (by simp; omega)
  constructor
  · intro h
    rcases h with h | h | h
    · omega
    · omega
    · refine Classical.byContradiction fun hne => h ?_
      rw [lay_out_get ps [5] p s (by simp; omega) (by simp; omega), lay_out_get ps [6] p s (by simp; omega) (by simp; omega)]
  · rintro rfl
    refine .inr (.inr ?_)
    have a5 := lay_in_get ps [5] s 0 (by simp; omega) (by simp)
    have a6 := lay_in_get ps [6] s 0 (by simp; omega) (by simp)
    simp at a5 a6
    rw [a5, a6]
    decide

set_option maxRecDepth 20000 in
set_option maxHeartbeats 8000000 in
theorem differ_main (c1 c2 : Option Addr) (d1 d2 : Nat) (us vs : List UInt32) (w : World) (hu : SegW w c1 us) (hv : SegW w c2 vs) (hul : us.length ≤ maxLen) (hvl : vs.length ≤ maxLen) :
    Calls Try.prog 5 #[.slice c1 us.length d1, .slice c2 vs.length d2] w fun e w' => e = .returned (.bool true) ∧ Keeps (fun _ => False) w w' := by
  obtain ⟨n1, hn1⟩ : ∃ n, n = us.length := ⟨_, rfl⟩
  obtain ⟨n2, hn2⟩ : ∃ n, n = vs.length := ⟨_, rfl⟩
  have HN1 : Hid (n1 = us.length) := hn1
  have HN2 : Hid (n2 = vs.length) := hn2
  have HU : Hid (SegW w c1 us) := hu
  have HV : Hid (SegW w c2 vs) := hv
  rw [← hn1] at hul
  rw [← hn2] at hvl
  rw [← hn1, ← hn2]
  have hm1 : (n1 : Int) ≤ 9223372036854775807 := by unfold maxLen at hul; omega
  have hm2 : (n2 : Int) ≤ 9223372036854775807 := by unfold maxLen at hvl; omega
  clear hu hv hn1 hn2 hul hvl
  refine (callsIn_wide (n := 8)).1 ?_
  refine callsIn_of_wp_marks Try.func5 rfl trivial ?_ rfl
  refine wpIn_wide.2 ?_
  simp only [Try.ntmps5, List.size_toArray, List.length_cons, List.length_nil, Nat.reduceAdd, Nat.reduceSub, Array.replicate_succ, Array.replicate_zero, List.push_toArray, List.append_toArray, List.nil_append, List.cons_append]
  go_wp2_with fail
  have HP : Hid (∀ w, Calls _ _ _ w _) := fun w => pick_any (wrap64 ((n1 : Int) + (n2 : Int))) 7 w (by omega) (by omega) (by unfold wrap64; omega) (by unfold wrap64; omega)
  have hq := pk_lt (wrap64 ((n1 : Int) + (n2 : Int))) 7 (by omega)
  refine (HP.out _).mono ?_
  rintro e w1 ⟨rfl, hw⟩
  have hR1 : Blk w1 w.heap.size [.bool false] 4 := by rw [hw]; exact Blk.new w _ 4
  have hK1 : Keeps (fun _ => False) w w1 := by rw [hw]; exact (Keeps.refl _ w).alloc _
  obtain ⟨R, hRe⟩ : ∃ R, R = w.heap.size := ⟨_, rfl⟩
  rw [← hRe] at hR1 ⊢
  revert hq
  generalize pk (wrap64 ((n1 : Int) + (n2 : Int))) 7 = q
  intro hq
  obtain ⟨N, hN⟩ : ∃ N : Nat, N = 1 + q := ⟨_, rfl⟩
  have hN2 : (1 : Int) + (q : Int) = (N : Int) := by omega
  have HN0 : Hid (1 ≤ N ∧ N ≤ 7) := ⟨by omega, by omega⟩
  have HN : Hid (∀ w, Calls _ _ _ w _) := fun w => new_in N w (by omega) (by omega)
  have HNq : Hid ((1 : Int) + (q : Int) = (N : Int)) := hN2
  have HW1 : Hid (Blk w1 R [.bool false] 4 ∧ Keeps (fun _ => False) w w1 ∧ R = w.heap.size) := ⟨hR1, hK1, hRe⟩
  have hq7 : (q : Int) < 7 := by omega
  have hN7 : (N : Int) ≤ 7 := by omega
  clear HP hw hR1 hK1 hRe hN hN2 hq
  go_wp2_with fail
  rw [HNq.out]
  refine (HN.out _).mono ?_
  rintro e w2 ⟨rfl, hM, hK⟩
  obtain ⟨a, ha⟩ : ∃ a, a = w1.heap.size + 1 := ⟨_, rfl⟩
  obtain ⟨ga, hga⟩ : ∃ g, g = w1.heap.size := ⟨_, rfl⟩
  rw [← ha, ← hga] at hM
  rw [← ha]
  have HW2 : Hid (Blk w2 R [.bool false] 4 ∧ Keeps (fun _ => False) w w2 ∧ R = w.heap.size ∧ Mm w2 a ga (List.replicate (N * 16) 0) ∧ R < ga ∧ a = ga + 1 ∧ a < w2.heap.size) :=
    ⟨HW1.out.1.kept hK (fun e => e), HW1.out.2.1.trans hK (fun _ _ e => e), HW1.out.2.2, hM, by have := HW1.out.1.lt; omega, by omega, hM.lt.1⟩
  clear hM hK ha hga HW1
  go_wp2_with fail
  refine (HN.out _).mono ?_
  rintro e w4 ⟨rfl, hM, hK⟩
  have hB3 := Blk.new w2 #[.pointer (some ⟨a, 0, none⟩)] 42
  have hsz3 : (w2.alloc (.cells #[.pointer (some ⟨a, 0, none⟩)] 42)).heap.size = w2.heap.size + 1 := by simp
  obtain ⟨P1, hP1⟩ : ∃ P, P = w2.heap.size := ⟨_, rfl⟩
  obtain ⟨b, hb⟩ : ∃ b, b = w2.heap.size + 1 + 1 := ⟨_, rfl⟩
  obtain ⟨gb, hgb⟩ : ∃ g, g = w2.heap.size + 1 := ⟨_, rfl⟩
  rw [hsz3] at hM ⊢
  rw [← hb] at hM ⊢
  rw [← hgb] at hM
  rw [← hP1] at hB3 ⊢
  have hKa : Keeps (fun _ => False) w2 w4 := ((Keeps.refl _ w2).alloc _).trans hK fun _ _ e => e
  have hB4 := hB3.kept hK fun e => e
  have hm4 := hM.lt
  obtain ⟨P2, hP2⟩ : ∃ P, P = w4.heap.size := ⟨_, rfl⟩
  have HW4 : Hid (St w (w4.alloc (.cells #[.pointer (some ⟨b, 0, none⟩)] 42)) R P1 P2 a ga b gb (List.replicate (N * 16) 0) (List.replicate (N * 16) 0)) :=
    ⟨(HW2.out.2.1.trans hKa fun _ _ e => e).alloc _, (HW2.out.1.kept hKa fun e => e).alloc _, hB4.alloc _, by rw [hP2]; exact Blk.new w4 _ 42, (HW2.out.2.2.2.1.kept hKa (fun e => e) (fun e => e)).alloc _, hM.alloc _⟩
  have HRw : Hid (w.heap.size ≤ R) := by have := HW2.out.2.2.1; show w.heap.size ≤ R; omega
  have HA : Hid (Apart w.heap.size R P1 P2 a ga b gb) := by
    have h1 := HW2.out.2.2.1; have h2 := HW2.out.2.2.2.2
    constructor <;> omega
  have HSZ : Hid (P1 ≠ P2) := by show P1 ≠ P2; omega
  have cP1 := (hB4.alloc (.cells #[.pointer (some ⟨b, 0, none⟩)] 42)).cell (i := 0) rfl
  have HP2 : Hid (P2 = w4.heap.size) := hP2
  clear hM hK hKa hB3 hB4 hsz3 hP1 hb hgb hm4 HW2 HN hP2
  go_upto_block 0 with fail
  obtain ⟨n, hn⟩ : ∃ n : Nat, n = N * 16 := ⟨_, rfl⟩
  have hn' : (16 : Int) * (N : Int) = (n : Int) := by omega
  rw [hn', ← HP2.out]
  rw [← hn] at HW4
  have HNn : Hid (n = N * 16) := hn
  have hn1 : (n : Int) ≤ 112 := by have := HN0.out; omega
  have hn0 : 16 ≤ n := by have := HN0.out; omega
  revert HW4
  generalize w4.alloc (.cells #[.pointer (some ⟨b, 0, none⟩)] 42) = w5
  intro HW4
  clear cP1 hn hn' HP2
  go_cut [11] from 56 to 73 (fun i wc => ∃ xs, St w wc R P1 P2 a ga b gb xs (List.replicate n 0) ∧ xs.length = n)
  case rest =>
    obtain ⟨xs, hst, hxl⟩ := hcut
    have HS1 : Hid (St w wc R P1 P2 a ga b gb xs (List.replicate n 0) ∧ xs.length = n) := ⟨hst, hxl⟩
    clear hst hxl HW4
    go_upto_block 2 with fail
    go_cut [12] from 74 to 94 (fun i wd => ∃ ys, St w wd R P1 P2 a ga b gb xs ys ∧ ys.length = n)
    case rest =>
      obtain ⟨ys, hst, hyl⟩ := hcut
      have HS2 : Hid (St w wc R P1 P2 a ga b gb xs ys ∧ xs.length = n ∧ ys.length = n) := ⟨hst, HS1.out.2, hyl⟩
      have hst2 := hst.grown (((Keeps.refl _ wc).alloc (.cells #[.int .i64 (-1)] 3)).alloc (.cells #[.int .i64 0] 3))
      have cp1 := hst2.p1.cell (i := 0) rfl
      have cp2 := hst2.p2.cell (i := 0) rfl
      have hQ1 := (Blk.new wc #[.int .i64 (-1)] 3).alloc (.cells #[.int .i64 0] 3)
      have hQ2 := Blk.new (wc.alloc (.cells #[.int .i64 (-1)] 3)) #[.int .i64 0] 3
      rw [World.size_alloc] at hQ2
      have hblt := hst.mb.lt
      have halt := hst.ma.lt
      have hrlt := hst.r.lt
      have hplt := hst.p1.lt
      have hqlt := hst.p2.lt
      clear hst hyl HS1
      go_wp2_with fail
      refine (differ_any (some ⟨a, 0, none⟩) (some ⟨b, 0, none⟩) _).mono ?_
      rintro e w6 ⟨rfl, hw6⟩
      have hsz6 : ((wc.alloc (.cells #[.int .i64 (-1)] 3)).alloc (.cells #[.int .i64 0] 3)).heap.size = wc.heap.size + 2 := by simp
      rw [hsz6]
      have hB1 : Blk w6 (wc.heap.size + 2) [.pointer (some ⟨a, 0, none⟩)] 42 := by
        rw [hw6, ← hsz6]; exact (Blk.new _ _ 42).alloc _
      have hB2 : Blk w6 (wc.heap.size + 2 + 1) [.pointer (some ⟨b, 0, none⟩)] 42 := by
        have := Blk.new (((wc.alloc (.cells #[.int .i64 (-1)] 3)).alloc (.cells #[.int .i64 0] 3)).alloc (.cells #[.pointer (some ⟨a, 0, none⟩)] 42)) #[.pointer (some ⟨b, 0, none⟩)] 42
        rw [World.size_alloc, hsz6] at this
        rw [hw6]; exact this
      have hst6 : St w w6 R P1 P2 a ga b gb xs ys := by rw [hw6]; exact hst2.grown (((Keeps.refl _ _).alloc _).alloc _)
      have hQ16 : Blk w6 wc.heap.size [.int .i64 (-1)] 3 := by rw [hw6]; exact (hQ1.alloc _).alloc _
      have hQ26 : Blk w6 (wc.heap.size + 1) [.int .i64 0] 3 := by rw [hw6]; exact (hQ2.alloc _).alloc _
      have hs6 : w6.heap.size = wc.heap.size + 4 := by rw [hw6]; simp
      have HL : Hid (Low w.heap.size R P1 P2 a ga b gb wc.heap.size) := ⟨HS2.out.1.k.size, hrlt, hplt, hqlt, halt.1, halt.2, hblt.1, hblt.2⟩
      clear cp1 cp2 hst2 hQ1 hQ2 hw6 hsz6 hblt halt hrlt hplt hqlt
      have cp1 := hst6.p1.cell (i := 0) rfl
      have cp2 := hst6.p2.cell (i := 0) rfl
      go_wp2_with fail
      refine (differ_any (some ⟨b, 0, none⟩) (some ⟨a, 0, none⟩) _).mono ?_
      rintro e w7 ⟨rfl, hw7⟩
      have hK7 : Keeps (fun _ => False) w6 w7 := by rw [hw7]; exact ((Keeps.refl _ _).alloc _).alloc _
      have hB3 : Blk w7 (wc.heap.size + 4) [.pointer (some ⟨b, 0, none⟩)] 42 := by
        rw [hw7, ← hs6]; exact (Blk.new _ _ 42).alloc _
      have hB4 : Blk w7 (wc.heap.size + 4 + 1) [.pointer (some ⟨a, 0, none⟩)] 42 := by
        have := Blk.new (w6.alloc (.cells #[.pointer (some ⟨b, 0, none⟩)] 42)) #[.pointer (some ⟨a, 0, none⟩)] 42
        rw [World.size_alloc, hs6] at this
        rw [hw7]; exact this
      have hs7 : w7.heap.size = wc.heap.size + 6 := by rw [hw7]; simp [hs6]
      rw [hs6]
      have HI : Hid (AlikeI w R P1 P2 a ga b gb wc.heap.size n 0 w7) :=
        ⟨xs, ys, -1, 0, ⟨hst6.grown hK7, hQ16.kept hK7 (fun e => e), hQ26.kept hK7 (fun e => e), (hB1.kept hK7 fun e => e).cell (i := 0) rfl, (hB2.kept hK7 fun e => e).cell (i := 0) rfl, hB3.cell (i := 0) rfl, hB4.cell (i := 0) rfl⟩,
          HS2.out.2.1, HS2.out.2.2, fun j hj => by omega, by omega, by omega, by omega⟩
      clear hB1 hB2 hst6 hQ16 hQ26 hs6 hw7 hK7 hB3 hB4 cp1 cp2 HS2
      revert HI HL hs7
      generalize wc.heap.size = Q
      intro HL hs7 HI
      go_wp2
      refine (wpIn_wide (n := 8)).1 ?_
      have HZ : Hid (w7.heap.size = Q + 6) := hs7
      have kp : ∀ s W W', Keeps (fun k => k = w7.heap.size ∨ k = w7.heap.size + 1) W W' → AlikeI w R P1 P2 a ga b gb Q n s W → AlikeI w R P1 P2 a ga b gb Q n s W' := fun s W W' hK h => by
        obtain ⟨ps, qs, lst, cnt, hs, hr⟩ := h
        exact ⟨ps, qs, lst, cnt, hs.kept HL.out hK (fun k e => by have := HZ.out; omega), hr⟩
      refine range_live2 (σ := Nat) (α := Nat) rfl (by omega) (gf := 54) (lb := #[.pointer (some ⟨Q + 2, 0, none⟩), .pointer (some ⟨Q + 3, 0, none⟩)]) rfl trivial (enters_of Try.func54 (by kernel_rfl) rfl)
        (differ_tells 7 (Q + 2) (Q + 3) a ga b gb n n) (fun _ => rfl) (AlikeI w R P1 P2 a ga b gb Q n) (fun _ _ => False) kp
        (fun s x W W' hK hi ht => by
          have hi' := kp s W W' hK hi
          obtain ⟨ps, qs, lst, cnt, hs, hr⟩ := hi
          have hs' := hs.kept HL.out hK (fun k e => by have := HZ.out; omega)
          exact tellD_kept hs.st.ma hs.st.mb hs'.st.ma hs'.st.mb ht)
        (fun _ _ _ _ h => h) (fun s W hi => hi.two)
        (fun s s' W hi hs => by
          obtain ⟨rfl, hlt, hn⟩ := hs
          obtain ⟨ps, qs, lst, cnt, hq, h1, h2, h3, h4, h5, h6⟩ := hi
          have hnu := hn ps qs hq.st.ma hq.st.mb
          refine ⟨ps, qs, lst, cnt, hq, h1, h2, fun j hj => ?_, h4, by omega, by omega⟩
          by_cases hjs : j < s
          · exact h3 j hjs
          · obtain rfl : j = s := by omega
            exact Classical.byContradiction fun hne => hnu (.inr (.inr hne)))
        HI.out ?body ?done ?stop
      case body =>
        intro l s x W0 _ _
        unfold encD
        gi_wp2
        refine ⟨trivial, ?_⟩
        rintro W hlt hi ⟨hxs, hsm, hun⟩
        obtain ⟨ps, qs, lst, cnt, hq, h1, h2, h3, h4, h5, h6⟩ := hi
        have hU := hun ps qs hq.st.ma hq.st.mb
        have hsn : x < n := by omega
        have HQ : Hid (Sq w W R P1 P2 a ga b gb Q ps qs lst cnt ∧ ps.length = n ∧ qs.length = n ∧ (∀ j, j < x → ps[j]? = qs[j]?)) := ⟨hq, h1, h2, fun j hj => h3 j (by omega)⟩
        have cp1 := hq.st.p1.cell (i := 0) rfl
        have cp2 := hq.st.p2.cell (i := 0) rfl
        have cq1 := hq.q1.cell (i := 0) rfl
        have hxp : x < ps.length := by omega
        have hxq : x < qs.length := by omega
        have hRa : Hid (∀ w, Mm w a ga ps → Calls _ _ _ w _) := fun w h => read_in a ga ps x w h hxp
        have hRb : Hid (∀ w, Mm w b gb qs → Calls _ _ _ w _) := fun w h => read_in b gb qs x w h hxq
        obtain ⟨px, hpx⟩ : ∃ px, px = ps[x]'hxp := ⟨_, rfl⟩
        have hWb : Hid (∀ w, Mm w b gb qs → Calls Try.prog 21 #[.pointer (some ⟨b, 0, none⟩), .int .i64 x, .int .u32 (px.toNat : Int)] w fun e w' => e = .returned (.int .i64 0) ∧ Mm w' b gb (lay qs x [px]) ∧ Keeps (· = gb) w w') := fun w h => write_in b gb qs x px w h hxq
        rw [← hpx] at hRa
        have hneq : ¬ (px.toNat = (qs[x]'hxq).toNat) := fun e => by
          have e' := UInt32.toNat_inj.1 e
          rw [hpx] at e'
          rcases hU with h | h | h
          · omega
          · omega
          · rw [← hxs, List.getElem?_eq_getElem hxp, List.getElem?_eq_getElem hxq, e'] at h; exact h rfl
        obtain ⟨u, hu⟩ : ∃ u : Nat, u = px.toNat := ⟨_, rfl⟩
        obtain ⟨v, hv⟩ : ∃ v : Nat, v = (qs[x]'hxq).toNat := ⟨_, rfl⟩
        rw [← hu] at hneq hRa hWb
        rw [← hv] at hneq hRb
        have hne1 : ((u : Int) == (v : Int)) = false := by simp; omega
        have hls : lst < (x : Int) := by omega
        have hcn : (cnt : Int) ≤ (x : Int) := by omega
        have HX : Hid (x = s ∧ w7.heap.size + 1 < W.heap.size) := ⟨hxs, hlt⟩
        have HPX : Hid (ps[x]? = some px) := by rw [hpx]; exact List.getElem?_eq_getElem hxp
        have HLC : Hid (-1 ≤ lst ∧ cnt ≤ x) := ⟨h4, by omega⟩
        clear hq h1 h2 h3 h4 h5 h6 hun hU hu hv hneq hxs hsm kp hlt HI hpx hxp hxq
        gi_wp2_with fail
        refine ⟨trivial, ?_⟩
        refine (CallsIn.inRound l (callsIn_wide.2 (hRa.out _ HQ.out.1.st.ma))).mono ?_
        rintro e w8 ⟨rfl, hw⟩
        obtain rfl := hw.symm
        clear hw
        gi_wp2_with fail
        refine ⟨trivial, ?_⟩
        refine (CallsIn.inRound l (callsIn_wide.2 (hRb.out _ HQ.out.1.st.mb))).mono ?_
        rintro e w8 ⟨rfl, hw⟩
        obtain rfl := hw.symm
        clear hw
        have hst8 := HQ.out.1
        have cq2 := hst8.q2.cell (i := 0) rfl
        have zq1 := hst8.q1.frozen 0
        have zq2 := hst8.q2.frozen 0
        have hq12 : Q + 1 ≠ Q := by omega
        have hS9 : Sq w ((W.setCell ⟨Q, 0, none⟩ (.int .i64 (x : Int))).setCell ⟨Q + 1, 0, none⟩ (.int .i64 ((cnt : Int) + 1))) R P1 P2 a ga b gb Q ps qs (x : Int) (cnt + 1) := by
          have hK9 : Keeps (fun k => k = Q ∨ k = Q + 1) W ((W.setCell ⟨Q, 0, none⟩ (.int .i64 (x : Int))).setCell ⟨Q + 1, 0, none⟩ (.int .i64 ((cnt : Int) + 1))) :=
            ((Keeps.refl _ W).setCell _ _ fun _ => .inl rfl).setCell _ _ fun _ => .inr rfl
          obtain ⟨l0, l1, l2, l3, l4, l5, l6, l7⟩ := HL.out
          refine ⟨hst8.st.kept hK9 fun k e => ?_, ?_, ?_, cell_kept' hst8.b1 hK9 (by omega), cell_kept' hst8.b2 hK9 (by omega), cell_kept' hst8.b3 hK9 (by omega), cell_kept' hst8.b4 hK9 (by omega)⟩
          · refine ⟨?_, ?_, ?_, ?_, ?_, ?_, ?_, ?_⟩ <;> omega
          · exact (hst8.q1.setCell 0 _).setCell_ne (by show Q ≠ Q + 1; omega) _
          · exact (hst8.q2.setCell_ne (by show Q + 1 ≠ Q; omega) _).setCell 0 _
        have cp9 := hS9.st.p2.cell (i := 0) rfl
        have HS9 : Hid (Sq _ _ _ _ _ _ _ _ _ _ _ _ _ _) := hS9
        clear hst8 hS9
        gi_wp2_with fail
        refine ⟨trivial, ?_⟩
        refine (CallsIn.inRound l (callsIn_wide.2 (hWb.out _ HS9.out.st.mb))).mono ?_
        rintro e w8 ⟨rfl, hM8, hK8⟩
        have HF : Hid ((w8.heap[w7.heap.size]? = W.heap[w7.heap.size]? ∧ w8.heap[w7.heap.size + 1]? = W.heap[w7.heap.size + 1]?) ∧ AlikeI w R P1 P2 a ga b gb Q n (s + 1) w8) := by
          obtain ⟨l0, l1, l2, l3, l4, l5, l6, l7⟩ := HL.out
          have hz := HZ.out
          have hx9 := HX.out
          have hK9 : Keeps (fun k => k = Q ∨ k = Q + 1 ∨ k = gb) W w8 := (((Keeps.refl _ W).setCell _ _ fun _ => .inl rfl).setCell _ _ fun _ => .inr (.inl rfl)).trans hK8 fun k _ e => .inr (.inr e)
          refine ⟨⟨hK9.block _ (by omega) (by omega), hK9.block _ (by omega) (by omega)⟩, ?_⟩
          have h9 := HS9.out
          have hql := HQ.out.2.2.1
          have hpl := HQ.out.2.1
          refine ⟨ps, lay qs x [px], x, cnt + 1, ⟨h9.st.wroteB HA.out hK8 hM8, h9.q1.kept hK8 (by omega), h9.q2.kept hK8 (by omega), cell_kept' h9.b1 hK8 (by omega), cell_kept' h9.b2 hK8 (by omega), cell_kept' h9.b3 hK8 (by omega), cell_kept' h9.b4 hK8 (by omega)⟩,
            hpl, by rw [lay_length _ _ _ (by simp; omega)]; exact hql, fun j hj => ?_, by omega, by omega, by have := HLC.out; omega⟩
          by_cases hjx : j = x
          · rw [hjx, HPX.out]
            have := lay_in_get qs [px] x 0 (by simp; omega) (by simp)
            simpa using this.symm
          · rw [lay_out_get qs [px] x j (by simp; omega) (by simp; omega)]
            exact HQ.out.2.2.2 j (by omega)
        clear hM8 hK8
        gi_wp2
        exact HF.out
      case done =>
        rintro s W hf hi hD
        obtain ⟨ps, qs, lst, cnt, hq, h1, h2, h3, h4, h5, h6⟩ := hi
        obtain rfl : ps = qs := List.ext_getElem? fun j => by
          by_cases hj : j < s
          · exact h3 j hj
          · rw [List.getElem?_eq_none (by omega), List.getElem?_eq_none (by omega)]
        have HQ : Hid (Sq w W R P1 P2 a ga b gb Q ps ps lst cnt ∧ W.heap[w7.heap.size]? = some (.deferred (some []))) := ⟨hq, hD⟩
        have HPL : Hid (ps.length = n) := h1
        have hcn : (cnt : Int) ≤ (n : Int) := by omega
        have HWs : Hid (w7.heap.size < W.heap.size) := (Array.getElem?_eq_some_iff.1 hD).1
        clear hq h1 h2 h3 h4 h5 h6 hD hf kp HI
        gi_wp2
        go_wp2
        refine (wpIn_wide (n := 8)).1 ?_
        have kq : ∀ (s : Nat) X X', Keeps (fun k => k = W.heap.size ∨ k = W.heap.size + 1) X X' → (Sq w X R P1 P2 a ga b gb Q ps ps lst cnt ∧ X.heap[w7.heap.size]? = some (.deferred (some []))) → (Sq w X' R P1 P2 a ga b gb Q ps ps lst cnt ∧ X'.heap[w7.heap.size]? = some (.deferred (some []))) := fun s X X' hK h =>
          ⟨h.1.kept HL.out hK (fun k e => by have := HZ.out; have := HWs.out; omega), (hK.block _ (Array.getElem?_eq_some_iff.1 h.2).1 (by have := HWs.out; omega)).trans h.2⟩
        refine range_live2 (σ := Nat) (α := Nat) rfl (by omega) (gf := 54) (lb := #[.pointer (some ⟨Q + 4, 0, none⟩), .pointer (some ⟨Q + 5, 0, none⟩)]) rfl trivial (enters_of Try.func54 (by kernel_rfl) rfl)
          (differ_tells 7 (Q + 4) (Q + 5) b gb a ga n n) (fun _ => rfl) (fun _ X => Sq w X R P1 P2 a ga b gb Q ps ps lst cnt ∧ X.heap[w7.heap.size]? = some (.deferred (some []))) (fun _ _ => False) kq
          (fun s x X X' hK hi ht => by
            have hi' := kq s X X' hK hi
            exact tellD_kept hi.1.st.mb hi.1.st.ma hi'.1.st.mb hi'.1.st.ma ht)
          (fun _ _ _ _ h => h) (fun s X hi => ⟨hi.1.b3, hi.1.b4, ps, ps, hi.1.st.mb, hi.1.st.ma, HPL.out, HPL.out⟩)
          (fun s s' X hi hs => hi)
          HQ.out ?body2 ?done2 ?stop2
        case body2 =>
          rintro l s x W0 hi ⟨_, hsm, hun⟩
          have hU := hun ps ps hi.1.st.mb hi.1.st.ma
          have := HPL.out
          rcases hU with h | h | h
          · omega
          · omega
          · exact absurd rfl h
        case stop2 =>
          rintro c W h _
          exact h.elim
        case done2 =>
          rintro s X hf hi hD2
          have HX : Hid (Sq w X R P1 P2 a ga b gb Q ps ps lst cnt ∧ X.heap[w7.heap.size]? = some (.deferred (some [])) ∧ X.heap[W.heap.size]? = some (.deferred (some []))) := ⟨hi.1, hi.2, hD2⟩
          have hPn : Hid (∀ w, Calls _ _ _ w _) := fun w => pick_any (n1 : Int) n w (by omega) (by omega) (by omega) (by omega)
          have hplt := pk_lt (n1 : Int) n (by omega)
          revert hPn hplt
          generalize pk (n1 : Int) n = p
          intro hPn hplt
          have cp1 := hi.1.st.p1.cell (i := 0) rfl
          have cp2 := hi.1.st.p2.cell (i := 0) rfl
          have HWa : Hid (∀ w, Mm w a ga ps → Calls Try.prog 21 #[.pointer (some ⟨a, 0, none⟩), .int .i64 p, .int .u32 5] w fun e w' => e = .returned (.int .i64 0) ∧ Mm w' a ga (lay ps p [5]) ∧ Keeps (· = ga) w w') := fun w h => write_in a ga ps p 5 w h (by have := HPL.out; omega)
          have HWb : Hid (∀ w, Mm w b gb ps → Calls Try.prog 21 #[.pointer (some ⟨b, 0, none⟩), .int .i64 p, .int .u32 6] w fun e w' => e = .returned (.int .i64 0) ∧ Mm w' b gb (lay ps p [6]) ∧ Keeps (· = gb) w w') := fun w h => write_in b gb ps p 6 w h (by have := HPL.out; omega)
          clear hi hD2 kq hf HQ
          gi_wp2
          go_wp2
          go_region_held3 (fun w' => w'.cell? ⟨P1, 0, none⟩ = some (.pointer (some ⟨a, 0, none⟩))) (first | exact hS | go_keep)
            (first
              | (go_at_call 15; refine (hPn.out _).mono ?_; rintro e w9 ⟨rfl, rfl⟩)
              | (go_at_call 21; refine (HWa.out _ HX.out.1.st.ma.drew).mono ?_; rintro e w9 ⟨rfl, hM9, hK9⟩; have hS9 := (HX.out.1.st.grown (Keeps.refl _ X).drew).wroteA HA.out hK9 hM9; have hS := hS9.p1.cell (i := 0) rfl))
          have HT9 : Hid (Tail w w9 R P1 P2 a ga b gb Q (Q + 6) W.heap.size (lay ps p [5]) ps cnt) := by
            have hl := HL.out.ga
            have hz := HZ.out
            have hx := HX.out
            rw [hz] at hx
            have hw := HWs.out
            exact ⟨hS9, hx.1.q2.drew.kept hK9 (by omega), obj_kept (w := X.drew) hx.2.1 hK9 (by omega), obj_kept (w := X.drew) hx.2.2 hK9 (by omega)⟩
          have cp2 := hS9.p2.cell (i := 0) rfl
          clear hM9 hK9 hS9 hS cp1 HX HWa
          go_wp2
          go_region_held3 (fun w' => w'.cell? ⟨P2, 0, none⟩ = some (.pointer (some ⟨b, 0, none⟩))) (first | exact hS | go_keep)
            (first
              | (go_at_call 15; refine (hPn.out _).mono ?_; rintro e w10 ⟨rfl, rfl⟩)
              | (go_at_call 21; refine (HWb.out _ HT9.out.st.mb.drew).mono ?_; rintro e w10 ⟨rfl, hM9, hK9⟩; have hS9 := (HT9.out.st.grown (Keeps.refl _ w9).drew).wroteB HA.out hK9 hM9; have hS := hS9.p2.cell (i := 0) rfl))
          have HT10 : Hid (Tail w w10 R P1 P2 a ga b gb Q (Q + 6) W.heap.size (lay ps p [5]) (lay ps p [6]) cnt) := by
            have hl := HL.out.gb
            have hz := HZ.out
            have hx := HT9.out
            have hw := HWs.out
            exact ⟨hS9, hx.q2.drew.kept hK9 (by omega), obj_kept (w := w9.drew) hx.d1 hK9 (by omega), obj_kept (w := w9.drew) hx.d2 hK9 (by omega)⟩
          have cp1 := hS9.p1.cell (i := 0) rfl
          have cp2 := hS9.p2.cell (i := 0) rfl
          clear hM9 hK9 hS9 hS HT9 HWb
          go_wp2_with fail
          refine (differ_any (some ⟨a, 0, none⟩) (some ⟨b, 0, none⟩) w10).mono ?_
          rintro e w11 ⟨rfl, hw11⟩
          have hB5 : Blk w11 w10.heap.size [.pointer (some ⟨a, 0, none⟩)] 42 := by rw [hw11]; exact (Blk.new _ _ 42).alloc _
          have hB6 : Blk w11 (w10.heap.size + 1) [.pointer (some ⟨b, 0, none⟩)] 42 := by
            have := Blk.new (w10.alloc (.cells #[.pointer (some ⟨a, 0, none⟩)] 42)) #[.pointer (some ⟨b, 0, none⟩)] 42
            rw [World.size_alloc] at this
            rw [hw11]; exact this
          have HT11 : Hid (Tail w w11 R P1 P2 a ga b gb Q (Q + 6) W.heap.size (lay ps p [5]) (lay ps p [6]) cnt) := by
            rw [hw11]; exact HT10.out.grown (((Keeps.refl _ _).alloc _).alloc _)
          have hl5 : (lay ps p [5]).length = n := (lay_length ps p [5] (by have := HPL.out; simp; omega)).trans HPL.out
          have hAl := along_one w10.heap.size (w10.heap.size + 1) a ga b gb p (n + 1) (lay ps p [5]) (lay ps p [6]) w11 (hB5.cell (i := 0) rfl) (hB6.cell (i := 0) rfl) HT11.out.st.ma HT11.out.st.mb (by omega)
            (by rw [hl5]; omega) (one_place ps p n HPL.out hplt)
          rw [show ((n + 1 : Nat) : Int) = (n : Int) + 1 by omega] at hAl
          have HAl : Hid (Calls _ _ _ w11 _) := hAl
          clear hB5 hB6 hw11 hAl hl5 cp1 cp2 HT10
          go_wp2_with fail
          refine HAl.out.mono ?_
          rintro e w12 ⟨gg, cap, rfl, hcg, hK12⟩
          have HT12 : Hid (Tail w w12 R P1 P2 a ga b gb Q (Q + 6) W.heap.size (lay ps p [5]) (lay ps p [6]) cnt) := HT11.out.grown hK12
          have cq2 := HT12.out.q2.cell (i := 0) rfl
          have cr := HT12.out.st.r.cell (i := 0) rfl
          have zr := HT12.out.st.r.frozen 0
          have hp1 : (p : Int) < (n : Int) := by omega
          have hgR : gg ≠ R := fun e => by rw [e, cr] at hcg; cases hcg
          have hrQ := HL.out.r
          have hSS : (w12.setCell ⟨R, 0, none⟩ (.bool true)).drew.cell? ⟨gg, 0, none⟩ = some (.int .i64 p) ∧ (w12.setCell ⟨R, 0, none⟩ (.bool true)).drew.cell? ⟨Q + 1, 0, none⟩ = some (.int .i64 (cnt : Int)) := by
            have hKs : Keeps (· = R) w12 (w12.setCell ⟨R, 0, none⟩ (.bool true)).drew := ((Keeps.refl (· = R) w12).setCell ⟨R, 0, none⟩ (.bool true) fun _ => rfl).drew
            exact ⟨cell_kept' hcg hKs hgR, cell_kept' cq2 hKs (by omega)⟩
          have HSS : Hid (_ ∧ _) := hSS
          clear HT11 HAl hK12 hgR hrQ hSS
          go_wp2
          go_region_held3 (fun w' => w'.cell? ⟨gg, 0, none⟩ = some (.int .i64 p) ∧ w'.cell? ⟨Q + 1, 0, none⟩ = some (.int .i64 (cnt : Int))) (first | exact HSS.out | go_keep)
            (first
              | (go_at_call 15; refine (hPn.out _).mono ?_; rintro e w13 ⟨rfl, rfl⟩))
          go_wp2
          have hT := HT12.out
          have hrQ := HL.out.r
          have hwW := HWs.out
          have hzz := HZ.out
          have hKs : Keeps (· = R) w12 (w12.setCell ⟨R, 0, none⟩ (.bool true)).drew := ((Keeps.refl (· = R) w12).setCell ⟨R, 0, none⟩ (.bool true) fun _ => rfl).drew
          have d2 := obj_kept hT.d2 hKs (by omega)
          have d1 := obj_kept hT.d1 hKs (by omega)
          have hr := (hT.st.r.setCell 0 (.bool true)).drew
          have hKw := hT.st.k
          revert hKs d2 d1 hr
          generalize (w12.setCell ⟨R, 0, none⟩ (.bool true)).drew = WF
          intro hKs d2 d1 hr
          have hKf : Keeps (· = W.heap.size) WF (WF.putObj W.heap.size (.deferred none)) := ⟨rfl, rfl, rfl, by simp, fun k _ hn => World.putObj_heap_other hn⟩
          have d1' := obj_kept d1 hKf (by omega)
          have hKg : Keeps (· = Q + 6) (WF.putObj W.heap.size (.deferred none)) ((WF.putObj W.heap.size (.deferred none)).putObj (Q + 6) (.deferred none)) := ⟨rfl, rfl, rfl, by simp, fun k _ hn => World.putObj_heap_other hn⟩
          have hrf := ((hr.kept hKf (by omega)).kept hKg (by omega)).cell (i := 0) rfl
          have hR0 : w.heap.size ≤ R := HRw.out
          have hq0 : w.heap.size ≤ Q := HL.out.h
          refine ⟨by simp, .inl ⟨_, _, rfl, run_takeDeferred d2, ⟨by simp, .inl ⟨_, _, rfl, run_takeDeferred d1', ?_⟩⟩⟩⟩
          refine ⟨.bool true, results_cell_val rfl _ _ R (.bool true) rfl (by simp [go_sem, hrf]), rfl, ?_⟩
          exact ((hKw.trans hKs fun k hk e => by omega).trans hKf fun k hk e => by omega).trans hKg fun k hk e => by omega
      case stop =>
        rintro c W h _
        exact h.elim
    go_wp2
    go_loopw [12] (fun i wr => ∃ (j : Nat) (ys : List UInt32), j ≤ n ∧ i = .int .i64 j ∧ St w wr R P1 P2 a ga b gb xs ys ∧ ys.length = n)
      (fun i _ => n - (intOf i).toNat)
    case atStart => exact ⟨0, _, by omega, rfl, HS1.out.1, List.length_replicate⟩
    case round =>
      obtain ⟨j, ys, hj, rfl, hst, hyl⟩ := hrel
      have HS : Hid (St w wr R P1 P2 a ga b gb xs ys ∧ ys.length = n) := ⟨hst, hyl⟩
      clear hst hyl
      by_cases hlt : j < n2 ∧ j < n
      · obtain ⟨hl1, hl2⟩ := hlt
        have hju : j < vs.length := by have := HN2.out; omega
        rcases HV.out with h0 | ⟨B, o, rfl, hcell⟩
        · exact absurd hju (by rw [h0]; simp)
        · have cu := cell_kept' (hcell j hju) HS.out.1.k fun e => e
          have cp := HS.out.1.p2.cell (i := 0) rfl
          obtain ⟨x, hx⟩ : ∃ x, x = vs[j] := ⟨_, rfl⟩
          rw [← hx] at cu
          have HC : Hid (∀ w, Mm w b gb ys → Calls _ _ _ w _) := fun w h => write_in b gb ys (n - 1 - j) x w h (by have := HS.out.2; omega)
          rw [show (((n - 1 - j : Nat)) : Int) = (n : Int) - 1 - (j : Int) by omega] at HC
          have HB : Hid (B < w.heap.size) := World.block_lt_of_cell? w ⟨B, o + j, none⟩ (hcell j hju)
          have HWr : Hid (IntKind.i64.wrap (IntKind.i64.wrap ((n : Int) - 1) - (j : Int)) = (n : Int) - 1 - (j : Int)) := by
            show IntKind.i64.wrap (IntKind.i64.wrap ((n : Int) - 1) - (j : Int)) = (n : Int) - 1 - (j : Int)
            rw [IntKind.wrap_i64, IntKind.wrap_i64]; omega
          clear hcell hju hx
          go_wp2
          go_region_held3 (fun w' => w'.cell? ⟨P2, 0, none⟩ = some (.pointer (some ⟨b, 0, none⟩)) ∧ w'.cell? ⟨B, o + j, none⟩ = some (.int .u32 (x.toNat : Int))) (first | exact hS | go_keep)
            (first | (go_at_call 21; rw [HWr.out]; refine (HC.out _ HS.out.1.mb.drew).mono ?_; rintro e w6 ⟨rfl, hM6, hK6⟩; have hS6 := (HS.out.1.grown (Keeps.refl _ wr).drew).wroteB HA.out hK6 hM6; have hS : w6.cell? ⟨P2, 0, none⟩ = some (.pointer (some ⟨b, 0, none⟩)) ∧ w6.cell? ⟨B, o + j, none⟩ = some (.int .u32 (x.toNat : Int)) := ⟨hS6.p2.cell (i := 0) rfl, cell_kept' (w := wr.drew) cu hK6 (by have := HA.out.nb; have := HB.out; show B ≠ gb; omega)⟩))
          have HS6 : Hid (St _ _ _ _ _ _ _ _ _ _ _) := hS6
          clear hM6 hK6 hS6 cu cp
          go_wp2
          go_roundw
          case rel => exact ⟨j + 1, _, by omega, by go_num, HS6.out, by rw [lay_length _ _ _ (by have := HS.out.2; simp; omega)]; exact HS.out.2⟩
          case measure => simp [intOf]; omega
      · by_cases hl1 : j < n2
        · have hl2 : n ≤ j := by omega
          clear hlt
          go_wp2
          go_meet
          case rel => exact ⟨ys, HS.out.1, HS.out.2⟩
        · clear hlt
          go_wp2
          go_meet
          case rel => exact ⟨ys, HS.out.1, HS.out.2⟩
  go_wp2
  go_loopw [11] (fun i wr => ∃ (j : Nat) (xs : List UInt32), j ≤ n ∧ i = .int .i64 j ∧ St w wr R P1 P2 a ga b gb xs (List.replicate n 0) ∧ xs.length = n)
    (fun i _ => n - (intOf i).toNat)
  case atStart => exact ⟨0, _, by omega, rfl, HW4.out, List.length_replicate⟩
  case round =>
    obtain ⟨j, xs, hj, rfl, hst, hxl⟩ := hrel
    have HS : Hid (St w wr R P1 P2 a ga b gb xs (List.replicate n 0) ∧ xs.length = n) := ⟨hst, hxl⟩
    clear hst hxl
    by_cases hlt : j < n1 ∧ j < n
    · obtain ⟨hl1, hl2⟩ := hlt
      have hju : j < us.length := by have := HN1.out; omega
      rcases HU.out with h0 | ⟨B, o, rfl, hcell⟩
      · exact absurd hju (by rw [h0]; simp)
      · have cu := cell_kept' (hcell j hju) HS.out.1.k fun e => e
        have cp := HS.out.1.p1.cell (i := 0) rfl
        obtain ⟨x, hx⟩ : ∃ x, x = us[j] := ⟨_, rfl⟩
        rw [← hx] at cu
        have HC : Hid (∀ w, Mm w a ga xs → Calls _ _ _ w _) := fun w h => write_in a ga xs j x w h (by have := HS.out.2; omega)
        have HB : Hid (B < w.heap.size) := World.block_lt_of_cell? w ⟨B, o + j, none⟩ (hcell j hju)
        clear hcell hju hx
        go_wp2
        go_region_held3 (fun w' => w'.cell? ⟨P1, 0, none⟩ = some (.pointer (some ⟨a, 0, none⟩)) ∧ w'.cell? ⟨B, o + j, none⟩ = some (.int .u32 (x.toNat : Int))) (first | exact hS | go_keep)
          (first | (go_at_call 21; refine (HC.out _ HS.out.1.ma.drew).mono ?_; rintro e w6 ⟨rfl, hM6, hK6⟩; have hS6 := (HS.out.1.grown (Keeps.refl _ wr).drew).wroteA HA.out hK6 hM6; have hS : w6.cell? ⟨P1, 0, none⟩ = some (.pointer (some ⟨a, 0, none⟩)) ∧ w6.cell? ⟨B, o + j, none⟩ = some (.int .u32 (x.toNat : Int)) := ⟨hS6.p1.cell (i := 0) rfl, cell_kept' (w := wr.drew) cu hK6 (by have := HA.out.na; have := HB.out; show B ≠ ga; omega)⟩))
        have HS6 : Hid (St _ _ _ _ _ _ _ _ _ _ _) := hS6
        clear hM6 hK6 hS6 cu cp
        go_wp2
        go_roundw
        case rel => exact ⟨j + 1, _, by omega, by go_num, HS6.out, by rw [lay_length _ _ _ (by have := HS.out.2; simp; omega)]; exact HS.out.2⟩
        case measure => simp [intOf]; omega
    · by_cases hl1 : j < n1
      · have hl2 : n ≤ j := by omega
        clear hlt
        go_wp2
        go_meet
        case rel => exact ⟨xs, HS.out.1, HS.out.2⟩
      · clear hlt
        go_wp2
        go_meet
        case rel => exact ⟨xs, HS.out.1, HS.out.2⟩

end Go.Proofs.Ytljhdijledclhaa
