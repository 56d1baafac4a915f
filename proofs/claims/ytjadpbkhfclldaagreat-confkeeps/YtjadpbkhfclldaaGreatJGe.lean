import Derived.Test.YtjadpbkhfclldaaGreatJGd
namespace Go.Proofs.YtjadpbkhfclldaaGreat
open Go.RowKit
set_option linter.unusedVariables false
set_option maxRecDepth 6000

theorem Cu.gl {w : World} {b g o cap p : Nat} {B : List UInt8} {bad : Bool} (h : Cu w b g o cap B p bad) (hn : B ≠ []) : g < w.heap.size := by
  rcases h.seg with h0 | ⟨g', o', h1, h2⟩
  · exact (hn h0).elim
  · cases h1
    cases B with
    | nil => exact (hn rfl).elim
    | cons x xs => exact World.block_lt_of_cell? w ⟨g, o + 0, none⟩ (h2 0 (by simp))
theorem CuS.keptB {S : Nat → Prop} {w w' : World} {b g o cap : Nat} {B : List UInt8} {s : CS} (h : CuS w b g o cap B s) (hK : Keeps S w w') (hb : ¬ S b) (hg : B ≠ [] → ¬ S g) : CuS w' b g o cap B s :=
  ⟨h.blk.kept hK hb, h.seg.keptB hK fun hn y hy => by cases hy; exact hg hn, h.ne, h.cap, h.le⟩
theorem CuS.up {S : Nat → Prop} {w w' : World} {b g o cap N : Nat} {B : List UInt8} {s : CS} (h : CuS w b g o cap B s) (hK : Keeps S w w') (hS : ∀ k, S k → N ≤ k) (hb : b < N) (hg : B ≠ [] → g < N) : CuS w' b g o cap B s :=
  h.keptB hK (fun e => by have := hS _ e; omega) (fun hn e => by have := hS _ e; have := hg hn; omega)
theorem cMany_stop {α : Type} {f : CS → α × CS} {s : CS} {j : Nat} (h : (cMany f j s).2.2 = true) : ∀ n, j ≤ n → cMany f n s = cMany f j s := by
  intro n hn
  induction n with
  | zero => have : j = 0 := by omega
            rw [this]
  | succ n ih =>
    by_cases e : j = n + 1
    · rw [e]
    · have h1 := ih (by omega)
      show (if (cMany f n s).2.2 then cMany f n s else _) = _
      rw [h1, if_pos h]
theorem cMany_more {α : Type} {f : CS → α × CS} {s s' t : CS} {j : Nat} {l : List α} {x : α} (h : cMany f j s = (l, s')) (hb : s'.2 = false) (hf : f s' = (x, t)) : cMany f (j + 1) s = (l ++ [x], t) := by
  show (if (cMany f j s).2.2 then cMany f j s else _) = _
  rw [h]
  show (if s'.2 then _ else (l ++ [(f s').1], (f s').2)) = _
  rw [hb, hf]; rfl

/-- What reading a list leaves. -/
def CLst {α : Type} (E : Elem α) (f : CS → α × CS) (B : List UInt8) (s : CS) (b g o cap N : Nat) (e : Ending) (w' : World) : Prop :=
  ∃ (l : List α) (s' : CS) (ad : Option Addr) (cp : Nat), cList B f s = (l, s') ∧ e = .returned (.slice ad l.length cp) ∧ Lst E w' N ad cp l ∧ CuS w' b g o cap B s'

set_option maxHeartbeats 2000000 in
theorem cWins_any (b g o cap : Nat) (s : CS) (B : List UInt8) (w : World) (h : CuS w b g o cap B s) :
    Calls Tryz.prog 69 #[.pointer (some ⟨b, 0, none⟩)] w fun e w' => CLst eWin (cWin B) B s b g o cap w.heap.size e w' ∧ Keeps (· = b) w w' := by
  obtain ⟨c, hc⟩ : ∃ c, c = w.heap.size := ⟨_, rfl⟩
  have HR : Hid (CuS w b g o cap B s ∧ c = w.heap.size ∧ b < c ∧ (B ≠ [] → g < c)) := ⟨h, hc, by rw [hc]; exact h.blk.lt, by rw [hc]; exact Cu.gl h⟩
  obtain ⟨V, s1, he, hV⟩ := cNum1 B s
  have HE : Hid (cList B (cWin B) s = cMany (cWin B) V s1) := by unfold Hid cList; rw [he]
  have HN : Hid (Calls _ _ _ _ _) := num_call h (by omega) he
  clear h he hc
  go_enter Tryz.func69, Tryz.ntmps69
  go_wp2_with fail
  refine HN.out.mono ?_
  rintro e w1 ⟨rfl, hC1, hK1⟩
  have HF : Hid (CuS w1 b g o cap B s1 ∧ Keeps (· = b) w w1) := ⟨hC1, hK1⟩
  clear hC1 hK1 HN
  go_wp2
  go_loopw [3, 5] (fun u i wr => ∃ (j : Nat) (l : List Win) (s' : CS), j ≤ V ∧ i = .int .i64 j ∧ l.length = j ∧ cMany (cWin B) j s1 = (l, s') ∧ CuS wr b g o cap B s' ∧ Keeps (· = b) w wr ∧ Row eWin wr c u l) (fun _ i _ => V - (intOf i).toNat)
  case atStart => exact ⟨0, [], s1, by omega, rfl, rfl, rfl, HF.out.1, HF.out.2, Row.nil _ _⟩
  case round =>
    obtain ⟨j, l, s', hj, rfl, hjl, hM, hC, hK, hRow⟩ := hrel
    have y2 := hC.blk.cell (i := 2) rfl
    obtain ⟨p', bad'⟩ := s'
    have y2 : wr.cell? ⟨b, 2, none⟩ = some (.bool bad') := y2
    by_cases hgo : j < V ∧ bad' = false
    · obtain ⟨hl, rfl⟩ := hgo
      have HJ : Hid (l.length = j ∧ cMany (cWin B) j s1 = (l, p', false) ∧ CuS wr b g o cap B (p', false) ∧ Keeps (· = b) w wr ∧ Row eWin wr c u3 l) := ⟨hjl, hM, hC, hK, hRow⟩
      have hl' : (j : Int) < V := by omega
      have hw' : IntKind.i64.wrap ((j : Int) + 1) = (j : Int) + 1 := by rw [IntKind.wrap_i64]; omega
      clear hjl hM hK hRow
      obtain ⟨V1, t1, he1, hv1⟩ := cNum4 B (p', false)
      go_wp2_with fail
      refine (num_call hC (by omega) he1).mono ?_
      rintro e w2 ⟨rfl, hC2, hK2⟩
      obtain ⟨V2, t2, he2, hv2⟩ := cNum4 B t1
      go_wp2_with fail
      refine (num_call hC2 (by omega) he2).mono ?_
      rintro e w3 ⟨rfl, hC3, hK3⟩
      obtain ⟨V3, t3, he3, hv3⟩ := cNum4 B t2
      go_wp2_with fail
      refine (num_call hC3 (by omega) he3).mono ?_
      rintro e w4 ⟨rfl, hC4, hK4⟩
      have hX : cWin B (p', false) = (⟨(V1 : Int) - 1, (V2 : Int), (V3 : Int)⟩, t3) := by
        unfold cWin cBind
        simp only [cInt, he1, he2, he3]
      have hok : eWin.Ok w4 (⟨(V1 : Int) - 1, (V2 : Int), (V3 : Int)⟩ : Win) := by refine ⟨?_, ?_, ?_⟩ <;> (unfold I64; dsimp only; omega)
      have hKw : Keeps (· = b) wr w4 := ((hK2.trans hK3 fun _ _ e => e).trans hK4 fun _ _ e => e)
      have hb4 : ∀ k, k = b → k < c := fun k e => by have := HR.out.2.2.1; omega
      have hRow4 := HJ.out.2.2.2.2.kept hKw hb4
      obtain ⟨i0, hi, hz0, hz1, hz2⟩ := info_parts Tryz.info51
      have hvs : ∀ v ∈ Win.vs (⟨(V1 : Int) - 1, (V2 : Int), (V3 : Int)⟩), v.oneCell' = true := by
        intro v hv
        simp only [Win.vs, List.mem_cons, List.not_mem_nil, or_false] at hv
        rcases hv with rfl | rfl | rfl <;> rfl
      obtain ⟨v', W', happ, hown', hfr', hKa⟩ := append_new 43 51 i0 (.agg #[.int .i64 0, .int .i64 0, .int .i64 0]) 3 24 Tryz.underlying43 hi hz0 hz1 hz2 rfl (by omega) u3 l.length (l.flatMap Win.vs) hRow4.own (Win.vs (⟨(V1 : Int) - 1, (V2 : Int), (V3 : Int)⟩)).toArray rfl (by simpa using hvs) (by unfold maxLen; have := HJ.out.1; omega) (by have := HJ.out.1; omega)
      have hcs : c ≤ w4.heap.size := by rw [HR.out.2.1]; exact Nat.le_trans HJ.out.2.2.2.1.size hKw.size
      have hRow5 : Row eWin W' c v' (l ++ [⟨(V1 : Int) - 1, (V2 : Int), (V3 : Int)⟩]) := hRow4.push hok (fun k hk => by cases hk) hcs hown' hfr' hKa
      have hKb : ∀ k, some k = u3.ownBlock → c ≤ k := fun k e => HJ.out.2.2.2.2.low k e.symm
      have HN : Hid ((l ++ [(⟨(V1 : Int) - 1, (V2 : Int), (V3 : Int)⟩ : Win)]).length = j + 1 ∧ cMany (cWin B) (j + 1) s1 = (l ++ [⟨(V1 : Int) - 1, (V2 : Int), (V3 : Int)⟩], t3) ∧ CuS W' b g o cap B t3 ∧ Keeps (· = b) w W' ∧ Row eWin W' c v' (l ++ [⟨(V1 : Int) - 1, (V2 : Int), (V3 : Int)⟩])) := by
        refine ⟨by rw [List.length_append, HJ.out.1]; rfl, cMany_more HJ.out.2.1 rfl hX, hC4.up hKa hKb HR.out.2.2.1 HR.out.2.2.2, (HJ.out.2.2.2.1.trans hKw fun _ _ e => e).trans hKa fun k hk e => by have := hKb k e; have := HR.out.2.1; omega, hRow5⟩
      have HAP : Hid (∀ ty, (Builtin.append_ #[43, 43] ty #[u3, .slice (some ⟨w4.heap.size, 0, none⟩) 1 1]).run Tryz.prog (w4.alloc (.cells (Win.vs (⟨(V1 : Int) - 1, (V2 : Int), (V3 : Int)⟩)).toArray 51)) = .ok v' W') := happ
      clear hX hok hKw hb4 hRow4 hi hz0 hz1 hz2 hvs happ hown' hfr' hKa hcs hRow5 hKb hC2 hC3 hC4 hC hK2 hK3 hK4 he1 he2 he3 HJ y2
      go_wp2_with (at_builtin; go_must (refine wpList_append_run rfl (.tmp 29) (.tmp 35) 43 43 rfl u3 (.slice (some ⟨w4.heap.size, 0, none⟩) 1 1) v' W' rfl rfl HAP.out ?_; refine Hid.out ?_))
      unfold Hid
      clear HAP
      go_wp2
      go_roundw
      case rel => exact ⟨j + 1, _, _, by omega, by go_num, HN.out⟩
      case measure => simp [intOf]; omega
    · have hend : cMany (cWin B) V s1 = (l, p', bad') := by
        by_cases hl : j < V
        · have hb : bad' = true := by cases bad' with | true => rfl | false => exact (hgo ⟨hl, rfl⟩).elim
          rw [cMany_stop (j := j) (by rw [hM]; exact hb) V hj, hM]
        · obtain rfl : j = V := by omega
          exact hM
      obtain ⟨ad, cp, hu, hL⟩ := hRow.lst
      have HJ : Hid (cList B (cWin B) s = (l, p', bad') ∧ CuS wr b g o cap B (p', bad') ∧ Lst eWin wr w.heap.size ad cp l ∧ Keeps (· = b) w wr) := ⟨by rw [HE.out]; exact hend, hC, by rw [← HR.out.2.1]; exact hL, hK⟩
      obtain ⟨N, hN⟩ : ∃ N, l.length = N := ⟨_, rfl⟩
      rw [hN] at hu
      have HNN : Hid (l.length = N) := hN
      subst hu
      clear hjl hM hRow hL hN hend hC hK
      by_cases hl : j < V
      · have hb : bad' = true := by cases bad' with | true => rfl | false => exact (hgo ⟨hl, rfl⟩).elim
        subst hb
        have hl' : (j : Int) < V := by omega
        clear hgo
        go_wp2
        go_ret
        exact ⟨⟨l, _, ad, cp, HJ.out.1, by rw [HNN.out]; rfl, HJ.out.2.2.1, HJ.out.2.1⟩, HJ.out.2.2.2⟩
      · have hl' : ¬ (j : Int) < V := by omega
        clear hgo
        go_wp2
        go_ret
        exact ⟨⟨l, _, ad, cp, HJ.out.1, by rw [HNN.out]; rfl, HJ.out.2.2.1, HJ.out.2.1⟩, HJ.out.2.2.2⟩

set_option maxHeartbeats 2000000 in
theorem cRgns_any (b g o cap : Nat) (s : CS) (B : List UInt8) (w : World) (h : CuS w b g o cap B s) :
    Calls Tryz.prog 85 #[.pointer (some ⟨b, 0, none⟩)] w fun e w' => CLst eRgn (cRgn B) B s b g o cap w.heap.size e w' ∧ Keeps (· = b) w w' := by
  obtain ⟨c, hc⟩ : ∃ c, c = w.heap.size := ⟨_, rfl⟩
  have HR : Hid (CuS w b g o cap B s ∧ c = w.heap.size ∧ b < c ∧ (B ≠ [] → g < c)) := ⟨h, hc, by rw [hc]; exact h.blk.lt, by rw [hc]; exact Cu.gl h⟩
  obtain ⟨V, s1, he, hV⟩ := cNum1 B s
  have HE : Hid (cList B (cRgn B) s = cMany (cRgn B) V s1) := by unfold Hid cList; rw [he]
  have HN : Hid (Calls _ _ _ _ _) := num_call h (by omega) he
  clear h he hc
  go_enter Tryz.func85, Tryz.ntmps85
  go_wp2_with fail
  refine HN.out.mono ?_
  rintro e w1 ⟨rfl, hC1, hK1⟩
  have HF : Hid (CuS w1 b g o cap B s1 ∧ Keeps (· = b) w w1) := ⟨hC1, hK1⟩
  clear hC1 hK1 HN
  go_wp2
  go_loopw [3, 5] (fun u i wr => ∃ (j : Nat) (l : List Rgn) (s' : CS), j ≤ V ∧ i = .int .i64 j ∧ l.length = j ∧ cMany (cRgn B) j s1 = (l, s') ∧ CuS wr b g o cap B s' ∧ Keeps (· = b) w wr ∧ Row eRgn wr c u l) (fun _ i _ => V - (intOf i).toNat)
  case atStart => exact ⟨0, [], s1, by omega, rfl, rfl, rfl, HF.out.1, HF.out.2, Row.nil _ _⟩
  case round =>
    obtain ⟨j, l, s', hj, rfl, hjl, hM, hC, hK, hRow⟩ := hrel
    have y2 := hC.blk.cell (i := 2) rfl
    obtain ⟨p', bad'⟩ := s'
    have y2 : wr.cell? ⟨b, 2, none⟩ = some (.bool bad') := y2
    by_cases hgo : j < V ∧ bad' = false
    · obtain ⟨hl, rfl⟩ := hgo
      have HJ : Hid (l.length = j ∧ cMany (cRgn B) j s1 = (l, p', false) ∧ CuS wr b g o cap B (p', false) ∧ Keeps (· = b) w wr ∧ Row eRgn wr c u3 l) := ⟨hjl, hM, hC, hK, hRow⟩
      have hl' : (j : Int) < V := by omega
      have hw' : IntKind.i64.wrap ((j : Int) + 1) = (j : Int) + 1 := by rw [IntKind.wrap_i64]; omega
      clear hjl hM hK hRow
      obtain ⟨V1, t1, he1, hv1⟩ := cNum4 B (p', false)
      go_wp2_with fail
      refine (num_call hC (by omega) he1).mono ?_
      rintro e w2 ⟨rfl, hC2, hK2⟩
      obtain ⟨V2, t2, he2, hv2⟩ := cNum4 B t1
      go_wp2_with fail
      refine (num_call hC2 (by omega) he2).mono ?_
      rintro e w3 ⟨rfl, hC3, hK3⟩
      obtain ⟨V3, t3, he3, hv3⟩ := cNum4 B t2
      go_wp2_with fail
      refine (num_call hC3 (by omega) he3).mono ?_
      rintro e w4 ⟨rfl, hC4, hK4⟩
      obtain ⟨V4, t4, he4, hv4⟩ := cNum4 B t3
      go_wp2_with fail
      refine (num_call hC4 (by omega) he4).mono ?_
      rintro e w5 ⟨rfl, hC5, hK5⟩
      have hX : cRgn B (p', false) = (⟨(V1 : Int), (V2 : Int), (V3 : Int), (V4 : Int)⟩, t4) := by
        unfold cRgn cBind
        simp only [cInt, he1, he2, he3, he4]
      have hok : eRgn.Ok w5 (⟨(V1 : Int), (V2 : Int), (V3 : Int), (V4 : Int)⟩ : Rgn) := by refine ⟨?_, ?_, ?_, ?_⟩ <;> (unfold I64; dsimp only; omega)
      have hKw : Keeps (· = b) wr w5 := (((hK2.trans hK3 fun _ _ e => e).trans hK4 fun _ _ e => e).trans hK5 fun _ _ e => e)
      have hb4 : ∀ k, k = b → k < c := fun k e => by have := HR.out.2.2.1; omega
      have hRow4 := HJ.out.2.2.2.2.kept hKw hb4
      obtain ⟨i0, hi, hz0, hz1, hz2⟩ := info_parts Tryz.info53
      have hvs : ∀ v ∈ Rgn.vs (⟨(V1 : Int), (V2 : Int), (V3 : Int), (V4 : Int)⟩), v.oneCell' = true := by
        intro v hv
        simp only [Rgn.vs, List.mem_cons, List.not_mem_nil, or_false] at hv
        rcases hv with rfl | rfl | rfl | rfl <;> rfl
      obtain ⟨v', W', happ, hown', hfr', hKa⟩ := append_new 44 53 i0 (.agg #[.int .i64 0, .int .i64 0, .int .i64 0, .int .i64 0]) 4 32 Tryz.underlying44 hi hz0 hz1 hz2 rfl (by omega) u3 l.length (l.flatMap Rgn.vs) hRow4.own (Rgn.vs (⟨(V1 : Int), (V2 : Int), (V3 : Int), (V4 : Int)⟩)).toArray rfl (by simpa using hvs) (by unfold maxLen; have := HJ.out.1; omega) (by have := HJ.out.1; omega)
      have hcs : c ≤ w5.heap.size := by rw [HR.out.2.1]; exact Nat.le_trans HJ.out.2.2.2.1.size hKw.size
      have hRow5 : Row eRgn W' c v' (l ++ [⟨(V1 : Int), (V2 : Int), (V3 : Int), (V4 : Int)⟩]) := hRow4.push hok (fun k hk => by cases hk) hcs hown' hfr' hKa
      have hKb : ∀ k, some k = u3.ownBlock → c ≤ k := fun k e => HJ.out.2.2.2.2.low k e.symm
      have HN : Hid ((l ++ [(⟨(V1 : Int), (V2 : Int), (V3 : Int), (V4 : Int)⟩ : Rgn)]).length = j + 1 ∧ cMany (cRgn B) (j + 1) s1 = (l ++ [⟨(V1 : Int), (V2 : Int), (V3 : Int), (V4 : Int)⟩], t4) ∧ CuS W' b g o cap B t4 ∧ Keeps (· = b) w W' ∧ Row eRgn W' c v' (l ++ [⟨(V1 : Int), (V2 : Int), (V3 : Int), (V4 : Int)⟩])) := by
        refine ⟨by rw [List.length_append, HJ.out.1]; rfl, cMany_more HJ.out.2.1 rfl hX, hC5.up hKa hKb HR.out.2.2.1 HR.out.2.2.2, (HJ.out.2.2.2.1.trans hKw fun _ _ e => e).trans hKa fun k hk e => by have := hKb k e; have := HR.out.2.1; omega, hRow5⟩
      have HAP : Hid (∀ ty, (Builtin.append_ #[44, 44] ty #[u3, .slice (some ⟨w5.heap.size, 0, none⟩) 1 1]).run Tryz.prog (w5.alloc (.cells (Rgn.vs (⟨(V1 : Int), (V2 : Int), (V3 : Int), (V4 : Int)⟩)).toArray 53)) = .ok v' W') := happ
      clear hX hok hKw hb4 hRow4 hi hz0 hz1 hz2 hvs happ hown' hfr' hKa hcs hRow5 hKb hC2 hC3 hC4 hC5 hC hK2 hK3 hK4 hK5 he1 he2 he3 he4 HJ y2
      go_wp2_with (at_builtin; go_must (refine wpList_append_run rfl (.tmp 32) (.tmp 38) 44 44 rfl u3 (.slice (some ⟨w5.heap.size, 0, none⟩) 1 1) v' W' rfl rfl HAP.out ?_; refine Hid.out ?_))
      unfold Hid
      clear HAP
      go_wp2
      go_roundw
      case rel => exact ⟨j + 1, _, _, by omega, by go_num, HN.out⟩
      case measure => simp [intOf]; omega
    · have hend : cMany (cRgn B) V s1 = (l, p', bad') := by
        by_cases hl : j < V
        · have hb : bad' = true := by cases bad' with | true => rfl | false => exact (hgo ⟨hl, rfl⟩).elim
          rw [cMany_stop (j := j) (by rw [hM]; exact hb) V hj, hM]
        · obtain rfl : j = V := by omega
          exact hM
      obtain ⟨ad, cp, hu, hL⟩ := hRow.lst
      have HJ : Hid (cList B (cRgn B) s = (l, p', bad') ∧ CuS wr b g o cap B (p', bad') ∧ Lst eRgn wr w.heap.size ad cp l ∧ Keeps (· = b) w wr) := ⟨by rw [HE.out]; exact hend, hC, by rw [← HR.out.2.1]; exact hL, hK⟩
      obtain ⟨N, hN⟩ : ∃ N, l.length = N := ⟨_, rfl⟩
      rw [hN] at hu
      have HNN : Hid (l.length = N) := hN
      subst hu
      clear hjl hM hRow hL hN hend hC hK
      by_cases hl : j < V
      · have hb : bad' = true := by cases bad' with | true => rfl | false => exact (hgo ⟨hl, rfl⟩).elim
        subst hb
        have hl' : (j : Int) < V := by omega
        clear hgo
        go_wp2
        go_ret
        exact ⟨⟨l, _, ad, cp, HJ.out.1, by rw [HNN.out]; rfl, HJ.out.2.2.1, HJ.out.2.1⟩, HJ.out.2.2.2⟩
      · have hl' : ¬ (j : Int) < V := by omega
        clear hgo
        go_wp2
        go_ret
        exact ⟨⟨l, _, ad, cp, HJ.out.1, by rw [HNN.out]; rfl, HJ.out.2.2.1, HJ.out.2.1⟩, HJ.out.2.2.2⟩

set_option maxHeartbeats 2000000 in
theorem cPrts_any (b g o cap : Nat) (s : CS) (B : List UInt8) (w : World) (h : CuS w b g o cap B s) :
    Calls Tryz.prog 86 #[.pointer (some ⟨b, 0, none⟩)] w fun e w' => CLst ePrt (cPrt B) B s b g o cap w.heap.size e w' ∧ Keeps (· = b) w w' := by
  obtain ⟨c, hc⟩ : ∃ c, c = w.heap.size := ⟨_, rfl⟩
  have HR : Hid (CuS w b g o cap B s ∧ c = w.heap.size ∧ b < c ∧ (B ≠ [] → g < c)) := ⟨h, hc, by rw [hc]; exact h.blk.lt, by rw [hc]; exact Cu.gl h⟩
  obtain ⟨V, s1, he, hV⟩ := cNum1 B s
  have HE : Hid (cList B (cPrt B) s = cMany (cPrt B) V s1) := by unfold Hid cList; rw [he]
  have HN : Hid (Calls _ _ _ _ _) := num_call h (by omega) he
  clear h he hc
  go_enter Tryz.func86, Tryz.ntmps86
  go_wp2_with fail
  refine HN.out.mono ?_
  rintro e w1 ⟨rfl, hC1, hK1⟩
  have HF : Hid (CuS w1 b g o cap B s1 ∧ Keeps (· = b) w w1) := ⟨hC1, hK1⟩
  clear hC1 hK1 HN
  go_wp2
  go_loopw [3, 5] (fun u i wr => ∃ (j : Nat) (l : List Prt) (s' : CS), j ≤ V ∧ i = .int .i64 j ∧ l.length = j ∧ cMany (cPrt B) j s1 = (l, s') ∧ CuS wr b g o cap B s' ∧ Keeps (· = b) w wr ∧ Row ePrt wr c u l) (fun _ i _ => V - (intOf i).toNat)
  case atStart => exact ⟨0, [], s1, by omega, rfl, rfl, rfl, HF.out.1, HF.out.2, Row.nil _ _⟩
  case round =>
    obtain ⟨j, l, s', hj, rfl, hjl, hM, hC, hK, hRow⟩ := hrel
    have y2 := hC.blk.cell (i := 2) rfl
    obtain ⟨p', bad'⟩ := s'
    have y2 : wr.cell? ⟨b, 2, none⟩ = some (.bool bad') := y2
    by_cases hgo : j < V ∧ bad' = false
    · obtain ⟨hl, rfl⟩ := hgo
      have HJ : Hid (l.length = j ∧ cMany (cPrt B) j s1 = (l, p', false) ∧ CuS wr b g o cap B (p', false) ∧ Keeps (· = b) w wr ∧ Row ePrt wr c u3 l) := ⟨hjl, hM, hC, hK, hRow⟩
      have hl' : (j : Int) < V := by omega
      have hw' : IntKind.i64.wrap ((j : Int) + 1) = (j : Int) + 1 := by rw [IntKind.wrap_i64]; omega
      clear hjl hM hK hRow
      obtain ⟨V1, t1, he1, hv1⟩ := cNum4 B (p', false)
      go_wp2_with fail
      refine (num_call hC (by omega) he1).mono ?_
      rintro e w2 ⟨rfl, hC2, hK2⟩
      obtain ⟨V2, t2, he2⟩ : ∃ V2 t2, cSrc B t1 = (V2, t2) := ⟨_, _, rfl⟩
      go_wp2_with fail
      refine (csource_any b g o cap _ B _ hC2).mono ?_
      rw [he2]
      rintro e w3 ⟨rfl, hC3, hK3⟩
      have hX : cPrt B (p', false) = (⟨(V1 : Int), V2⟩, t2) := by
        unfold cPrt cBind
        simp only [cInt, he1, he2]
      have hok : ePrt.Ok w3 (⟨(V1 : Int), V2⟩ : Prt) := by show I64 _; unfold I64; dsimp only; omega
      have hKw : Keeps (· = b) wr w3 := (hK2.trans hK3 fun _ _ e => e)
      have hb4 : ∀ k, k = b → k < c := fun k e => by have := HR.out.2.2.1; omega
      have hRow4 := HJ.out.2.2.2.2.kept hKw hb4
      obtain ⟨i0, hi, hz0, hz1, hz2⟩ := info_parts Tryz.info55
      have hvs : ∀ v ∈ Prt.vs (⟨(V1 : Int), V2⟩), v.oneCell' = true := by
        intro v hv
        simp only [Prt.vs, List.mem_cons, List.not_mem_nil, or_false] at hv
        rcases hv with rfl | rfl <;> rfl
      obtain ⟨v', W', happ, hown', hfr', hKa⟩ := append_new 45 55 i0 (.agg #[.int .i64 0, .bool false]) 2 16 Tryz.underlying45 hi hz0 hz1 hz2 rfl (by omega) u3 l.length (l.flatMap Prt.vs) hRow4.own (Prt.vs (⟨(V1 : Int), V2⟩)).toArray rfl (by simpa using hvs) (by unfold maxLen; have := HJ.out.1; omega) (by have := HJ.out.1; omega)
      have hcs : c ≤ w3.heap.size := by rw [HR.out.2.1]; exact Nat.le_trans HJ.out.2.2.2.1.size hKw.size
      have hRow5 : Row ePrt W' c v' (l ++ [⟨(V1 : Int), V2⟩]) := hRow4.push hok (fun k hk => by cases hk) hcs hown' hfr' hKa
      have hKb : ∀ k, some k = u3.ownBlock → c ≤ k := fun k e => HJ.out.2.2.2.2.low k e.symm
      have HN : Hid ((l ++ [(⟨(V1 : Int), V2⟩ : Prt)]).length = j + 1 ∧ cMany (cPrt B) (j + 1) s1 = (l ++ [⟨(V1 : Int), V2⟩], t2) ∧ CuS W' b g o cap B t2 ∧ Keeps (· = b) w W' ∧ Row ePrt W' c v' (l ++ [⟨(V1 : Int), V2⟩])) := by
        refine ⟨by rw [List.length_append, HJ.out.1]; rfl, cMany_more HJ.out.2.1 rfl hX, hC3.up hKa hKb HR.out.2.2.1 HR.out.2.2.2, (HJ.out.2.2.2.1.trans hKw fun _ _ e => e).trans hKa fun k hk e => by have := hKb k e; have := HR.out.2.1; omega, hRow5⟩
      have HAP : Hid (∀ ty, (Builtin.append_ #[45, 45] ty #[u3, .slice (some ⟨w3.heap.size, 0, none⟩) 1 1]).run Tryz.prog (w3.alloc (.cells (Prt.vs (⟨(V1 : Int), V2⟩)).toArray 55)) = .ok v' W') := happ
      clear hX hok hKw hb4 hRow4 hi hz0 hz1 hz2 hvs happ hown' hfr' hKa hcs hRow5 hKb hC2 hC3 hC hK2 hK3 he1 he2 HJ y2
      go_wp2_with (at_builtin; go_must (refine wpList_append_run rfl (.tmp 26) (.tmp 30) 45 45 rfl u3 (.slice (some ⟨w3.heap.size, 0, none⟩) 1 1) v' W' rfl rfl HAP.out ?_; refine Hid.out ?_))
      unfold Hid
      clear HAP
      go_wp2
      go_roundw
      case rel => exact ⟨j + 1, _, _, by omega, by go_num, HN.out⟩
      case measure => simp [intOf]; omega
    · have hend : cMany (cPrt B) V s1 = (l, p', bad') := by
        by_cases hl : j < V
        · have hb : bad' = true := by cases bad' with | true => rfl | false => exact (hgo ⟨hl, rfl⟩).elim
          rw [cMany_stop (j := j) (by rw [hM]; exact hb) V hj, hM]
        · obtain rfl : j = V := by omega
          exact hM
      obtain ⟨ad, cp, hu, hL⟩ := hRow.lst
      have HJ : Hid (cList B (cPrt B) s = (l, p', bad') ∧ CuS wr b g o cap B (p', bad') ∧ Lst ePrt wr w.heap.size ad cp l ∧ Keeps (· = b) w wr) := ⟨by rw [HE.out]; exact hend, hC, by rw [← HR.out.2.1]; exact hL, hK⟩
      obtain ⟨N, hN⟩ : ∃ N, l.length = N := ⟨_, rfl⟩
      rw [hN] at hu
      have HNN : Hid (l.length = N) := hN
      subst hu
      clear hjl hM hRow hL hN hend hC hK
      by_cases hl : j < V
      · have hb : bad' = true := by cases bad' with | true => rfl | false => exact (hgo ⟨hl, rfl⟩).elim
        subst hb
        have hl' : (j : Int) < V := by omega
        clear hgo
        go_wp2
        go_ret
        exact ⟨⟨l, _, ad, cp, HJ.out.1, by rw [HNN.out]; rfl, HJ.out.2.2.1, HJ.out.2.1⟩, HJ.out.2.2.2⟩
      · have hl' : ¬ (j : Int) < V := by omega
        clear hgo
        go_wp2
        go_ret
        exact ⟨⟨l, _, ad, cp, HJ.out.1, by rw [HNN.out]; rfl, HJ.out.2.2.1, HJ.out.2.1⟩, HJ.out.2.2.2⟩

end Go.Proofs.YtjadpbkhfclldaaGreat
