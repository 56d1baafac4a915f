import Derived.Test.YtljhdijledclhaaNa
namespace Go.Proofs.Ytljhdijledclhaa
open Go.RowKit Go.Shelf
attribute [local go_sem] func_nil57 func_nil58
set_option linter.unusedVariables false
set_option linter.unusedSimpArgs false

theorem Game.pairs {w0 w : World} {X T : Nat} (h : Game w0 w X T) : ∃ (P : List Pr) (lb lc : Nat), 1 ≤ P.length ∧ P.length ≤ 12 ∧ ∀ w', Keeps (fun _ => False) w w' → w'.cell? ⟨X, 0, none⟩ = some (.slice (some ⟨lb, 0, none⟩) P.length lc) ∧
    ∀ (i : Nat) (p : Pr), P[i]? = some p → w'.cell? ⟨lb, i * 2, none⟩ = some (.pointer (some ⟨p.b, 0, none⟩)) ∧ w'.cell? ⟨lb, i * 2 + 1, none⟩ = some (.pointer (some ⟨p.rb, 0, none⟩)) ∧ Mm w' p.b p.g p.xs ∧ Rm w' p.rb p.rg p.xs := by
  obtain ⟨s, g, hH, hR, hS, rfl⟩ := h.out
  obtain ⟨p0, hp0⟩ : ∃ p, g.P[0]? = some p := ⟨_, List.getElem?_eq_getElem hS.p1⟩
  have hr := (hH.row hR.rl).1
  obtain ⟨la, lc, hsl, -, -⟩ := owns_slice hr
  rw [hsl] at hr
  obtain ⟨lb, e1, d1⟩ := owns_cellK hr (pvs_get g.P 0 p0 hp0).1
  have hx := (hH.blk hR.x).1.cell (i := 0) rfl
  rw [hsl, e1] at hx
  refine ⟨g.P, lb, lc, hS.p1, hS.p12, fun w' hK => ⟨cell_kept hx hK (fun e => e), fun i p hp => ?_⟩⟩
  obtain ⟨v1, v2⟩ := pvs_get g.P i p hp
  obtain ⟨l1, f1, t1⟩ := owns_cellK hr v1
  obtain ⟨l2, f2, t2⟩ := owns_cellK hr v2
  rw [e1] at f1 f2
  cases f1
  cases f2
  have H' := hH.quiet hK
  exact ⟨cell_kept t1 hK (fun e => e), cell_kept t2 hK (fun e => e), (H'.mm (hR.mm i p hp).1).1, (H'.rm (hR.mm i p hp).2).1⟩

set_option maxHeartbeats 400000 in
theorem along_zero (B1 B2 : Nat) (w : World) :
    Calls Try.prog 24 #[.func (.func 54) #[] #[.pointer (some ⟨B1, 0, none⟩), .pointer (some ⟨B2, 0, none⟩)], .int .i64 0] w fun e w' => e = .returned (.slice none 0 0) ∧ Keeps (fun _ => False) w w' := by
  go_enter Try.func24, Try.ntmps24
  go_wp2
  go_ret
  exact ⟨rfl, ((Keeps.refl _ w).alloc _).alloc _⟩

/-- along, however many at most. -/
theorem along_all (B1 B2 b g c h N : Nat) (xs ys : List UInt32) (w : World) (q1 : w.cell? ⟨B1, 0, none⟩ = some (.pointer (some ⟨b, 0, none⟩))) (q2 : w.cell? ⟨B2, 0, none⟩ = some (.pointer (some ⟨c, 0, none⟩)))
    (hx : Mm w b g xs) (hy : Mm w c h ys) :
    Calls Try.prog 24 #[.func (.func 54) #[] #[.pointer (some ⟨B1, 0, none⟩), .pointer (some ⟨B2, 0, none⟩)], .int .i64 N] w fun e w' => ∃ a k, e = .returned (.slice a ((dfi xs ys (max xs.length ys.length)).take N).length k) ∧ OwnI w w' (.slice a ((dfi xs ys (max xs.length ys.length)).take N).length k) ((dfi xs ys (max xs.length ys.length)).take N) := by
  by_cases hN : 1 ≤ N
  · exact along_any B1 B2 b g c h N xs ys w q1 q2 hx hy hN
  · obtain rfl : N = 0 := by omega
    refine (along_zero B1 B2 w).mono ?_
    rintro e w' ⟨rfl, hK⟩
    refine ⟨none, 0, by simp, ?_⟩
    have := (OwnI.nil w).quiet hK
    simpa using this

theorem OwnI.seg {w wr : World} {a : Option Addr} {c n : Nat} {ks : List Int} (h : OwnI w wr (.slice a n c) ks) (hn : n = ks.length) : SegI wr a ks := by
  subst hn
  exact owns_segI h.own

theorem SegI.take {w : World} {a : Option Addr} {ks : List Int} (h : SegI w a ks) (n : Nat) : SegI w a (ks.take n) := by
  rcases h with rfl | ⟨g, o, h1, h2⟩
  · left; simp
  · right
    refine ⟨g, o, h1, fun j hj => ?_⟩
    have hj' : j < ks.length := by rw [List.length_take] at hj; omega
    rw [h2 j hj']
    simp

theorem SegI.quiet {w w' : World} {a : Option Addr} {ks : List Int} (h : SegI w a ks) (hK : Keeps (fun _ => False) w w') : SegI w' a ks := h.kept hK fun _ _ e => e

/-- All calls of differs, one behind another. -/
theorem differs_chain (p q : Pr) (c : Int) (hc : in64 c) (w : World) (hp : ∀ w', Keeps (fun _ => False) w w' → Mm w' p.b p.g p.xs ∧ Rm w' p.rb p.rg p.xs) (hq : ∀ w', Keeps (fun _ => False) w w' → Mm w' q.b q.g q.xs ∧ Rm w' q.rb q.rg q.xs) :
    ∃ (d m : Nat), (d : Int) ≤ 16384 ∧ (m : Int) ≤ 20 ∧ Hid (Calls Try.prog 35 #[.pointer (some ⟨p.rb, 0, none⟩), .pointer (some ⟨q.rb, 0, none⟩)] w fun e w3 => ∃ (wa : Option Addr) (wc : Nat), e = .returned (.slice wa d wc) ∧ Keeps (fun _ => False) w w3 ∧ ((d : Int) ≤ (wc : Nat) ∧ ((wc : Nat) : Int) ≤ 9223372036854775807) ∧
      Hid (Calls Try.prog 22 #[.pointer (some ⟨p.b, 0, none⟩), .pointer (some ⟨q.b, 0, none⟩)] w3 fun e w4 => ∃ B1 B2, e = .returned (.func (.func 54) #[] #[.pointer (some ⟨B1, 0, none⟩), .pointer (some ⟨B2, 0, none⟩)]) ∧ Keeps (fun _ => False) w w4 ∧
        Hid (Calls Try.prog 15 #[.int .i64 c, .int .i64 20] w4 fun e w5 => e = .returned (.int .i64 (m : Nat)) ∧ w5 = w4) ∧
        Hid (Calls Try.prog 24 #[.func (.func 54) #[] #[.pointer (some ⟨B1, 0, none⟩), .pointer (some ⟨B2, 0, none⟩)], .int .i64 (m : Nat)] w4 fun e w6 => ∃ oa oc, e = .returned (.slice oa (min m d) oc) ∧ Keeps (fun _ => False) w w6 ∧
          Hid (Calls Try.prog 24 #[.func (.func 54) #[] #[.pointer (some ⟨B1, 0, none⟩), .pointer (some ⟨B2, 0, none⟩)], .int .i64 ((d : Int) + 1)] w6 fun e w7 => ∃ ya yc, e = .returned (.slice ya d yc) ∧ Keeps (fun _ => False) w w7 ∧
            Hid (Calls Try.prog 36 #[.func (.func 54) #[] #[.pointer (some ⟨B1, 0, none⟩), .pointer (some ⟨B2, 0, none⟩)], .int .i64 ((d : Int) + 1)] w7 fun e w8 => e = .returned (.int .i64 ((d : Int) * d)) ∧ Keeps (fun _ => False) w w8 ∧
              Hid (Calls Try.prog 38 #[.slice wa d wc, .int .i64 (m : Nat)] w8 fun e w9 => (∃ c', e = .returned (.slice wa (min m d) c') ∧ 
                Hid (Calls Try.prog 37 #[.slice oa (min m d) oc, .slice wa (min m d) c'] w8 fun e w10 => e = .returned (.bool true) ∧
                  Hid (Calls Try.prog 37 #[.slice ya d yc, .slice wa d wc] w10 fun e w11 => e = .returned (.bool true) ∧ Keeps (fun _ => False) w w11))) ∧ w9 = w8)))))) := by
  obtain ⟨D, hD⟩ : ∃ D, D = dfi p.xs q.xs (max p.xs.length q.xs.length) := ⟨_, rfl⟩
  have hdl : D.length ≤ 16384 := by
    have h1 := dfi_len p.xs q.xs (max p.xs.length q.xs.length)
    have h2 := (hp w (Keeps.refl _ _)).1.small
    have h3 := (hq w (Keeps.refl _ _)).1.small
    rw [hD]; omega
  have hm20 := pk_lt c 20 (by omega)
  refine ⟨D.length, pk c 20, by omega, by omega, ?_⟩
  have K0 := Keeps.refl (fun _ => False) w
  refine (rdiffer_any p.rb p.rg q.rb q.rg p.xs q.xs w (hp w K0).2 (hq w K0).2).mono ?_
  rintro e w3 ⟨wa, wc, rfl, hO3⟩
  rw [← hD] at hO3 ⊢
  obtain ⟨a', c', e', h1', h2'⟩ := owns_slice hO3.own
  cases e'
  refine ⟨wa, wc, rfl, hO3.k, ⟨by omega, by unfold maxLen at h2'; omega⟩, ?_⟩
  have S3 := hO3.seg rfl
  refine (differ_any (some ⟨p.b, 0, none⟩) (some ⟨q.b, 0, none⟩) w3).mono ?_
  rintro e w4 ⟨rfl, hw4⟩
  have hK34 : Keeps (fun _ => False) w3 w4 := by rw [hw4]; exact ((Keeps.refl _ w3).alloc _).alloc _
  have c1 : w4.cell? ⟨w3.heap.size, 0, none⟩ = some (.pointer (some ⟨p.b, 0, none⟩)) := by rw [hw4]; exact ((Blk.new w3 #[.pointer (some ⟨p.b, 0, none⟩)] 42).alloc _).cell rfl
  have c2 : w4.cell? ⟨w3.heap.size + 1, 0, none⟩ = some (.pointer (some ⟨q.b, 0, none⟩)) := by
    rw [hw4]
    have hB := Blk.new (w3.alloc (.cells #[.pointer (some ⟨p.b, 0, none⟩)] 42)) #[.pointer (some ⟨q.b, 0, none⟩)] 42
    rw [World.size_alloc] at hB
    exact hB.cell rfl
  have K4 := hO3.k.trans hK34 fun _ _ e => e
  refine ⟨_, _, rfl, K4, pick_any c 20 w4 (by omega) (by omega) hc.1 hc.2, ?_⟩
  have hA := along_all w3.heap.size (w3.heap.size + 1) p.b p.g q.b q.g (pk c 20) p.xs q.xs w4 c1 c2 (hp w4 K4).1 (hq w4 K4).1
  rw [← hD, List.length_take] at hA
  refine hA.mono ?_
  rintro e w6 ⟨oa, oc, rfl, hO6⟩
  have K6 := K4.trans hO6.k fun _ _ e => e
  refine ⟨oa, oc, rfl, K6, ?_⟩
  have S6 := hO6.seg (by rw [List.length_take])
  have c16 := cell_kept' c1 hO6.k (fun e => e)
  have c26 := cell_kept' c2 hO6.k (fun e => e)
  have hA2 := along_all w3.heap.size (w3.heap.size + 1) p.b p.g q.b q.g (D.length + 1) p.xs q.xs w6 c16 c26 (hp w6 K6).1 (hq w6 K6).1
  rw [← hD, List.take_of_length_le (by omega), show ((D.length + 1 : Nat) : Int) = (D.length : Int) + 1 by omega] at hA2
  refine hA2.mono ?_
  rintro e w7 ⟨ya, yc, rfl, hO7⟩
  have K7 := K6.trans hO7.k fun _ _ e => e
  refine ⟨ya, yc, rfl, K7, ?_⟩
  have S7 := hO7.seg rfl
  have hW := within_any w3.heap.size (w3.heap.size + 1) p.b p.g q.b q.g (D.length + 1) p.xs q.xs w7 (cell_kept' c16 hO7.k (fun e => e)) (cell_kept' c26 hO7.k (fun e => e)) (hp w7 K7).1 (hq w7 K7).1 (by rw [← hD])
  rw [← hD, show ((D.length + 1 : Nat) : Int) = (D.length : Int) + 1 by omega] at hW
  refine hW.mono ?_
  rintro e w8 ⟨rfl, hK8⟩
  have K8 := K7.trans hK8 fun _ _ e => e
  refine ⟨rfl, K8, ?_⟩
  refine (head_any wa wc D.length (pk c 20) w8 (by omega) (by unfold maxLen at h2'; omega)).mono ?_
  rintro e w9 ⟨⟨c', rfl⟩, hw9⟩
  obtain rfl := hw9.symm
  have K38 : Keeps (fun _ => False) w3 w8 := ((hK34.trans hO6.k fun _ _ e => e).trans hO7.k fun _ _ e => e).trans hK8 fun _ _ e => e
  refine ⟨⟨c', rfl, ?_⟩, rfl⟩
  have hS1 := sameI_any oa wa (D.take (pk c 20)) oc c' w8 ((S6.quiet hO7.k).quiet hK8) ((S3.quiet K38).take _) (by rw [List.length_take]; omega)
  rw [List.length_take] at hS1
  refine hS1.mono ?_
  rintro e w10 ⟨rfl, hK10⟩
  refine ⟨rfl, ?_⟩
  refine (sameI_any ya wa D yc wc w10 ((S7.quiet hK8).quiet hK10) ((S3.quiet K38).quiet hK10) (by omega)).mono ?_
  rintro e w11 ⟨rfl, hK11⟩
  exact ⟨rfl, (K8.trans hK10 fun _ _ e => e).trans hK11 fun _ _ e => e⟩

end Go.Proofs.Ytljhdijledclhaa
