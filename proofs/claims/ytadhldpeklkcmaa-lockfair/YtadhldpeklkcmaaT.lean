import Derived.Test.YtadhldpeklkcmaaS
import Derived.Deep.CutBlock
import Derived.Deep.CutRange
namespace Go.Proofs.Ytadhldpeklkcmaa
open Go.RowKit
set_option linter.unusedVariables false

def Fresh (C : Ck) (w : World) : Prop := C.Ok w ∧ C.pl = [] ∧ C.ask = false ∧ ∀ r ∈ C.lk, r < 4

/-- While they are made. -/
structure BgI (w wr : World) (l : Value) (j : Nat) (Cs : List Ck) : Prop where
  len : Cs.length = j
  row : wr.ownsRow 0 54 5 l j (kvs Cs)
  ok : ∀ C ∈ Cs, Fresh C wr
  sep : Sep wr w.heap.size (FK nF nF (RF l) Cs)
  keeps : Keeps (fun _ => False) w wr

/-- One of them, while its locks are gathered. -/
structure BgK (wo wr : World) (lv : Value) (bb : Nat) (lk : List Nat) : Prop where
  row : wr.ownsRow 0 3 1 lv lk.length (ivs (lkI lk))
  blk : Blk wr wo.heap.size [.pointer none, lv, .int .i64 0, .bool false, .int .i64 0] 54
  fr : lv.ownBlock = none ∨ ∃ k, lv.ownBlock = some k ∧ wo.heap.size < k
  up : lk.Pairwise (· < ·)
  top : ∀ r ∈ lk, r < bb
  keeps : Keeps (fun _ => False) wo wr
  small : lk.length ≤ bb

theorem Try.info54 : (Try.prog.info? 54).map (fun i => (i.zero, i.size, i.bytes)) = some (some (.agg #[.pointer none, .slice none 0 0, .int .i64 0, .bool false, .int .i64 0]), 5, 56) := by kernel_rfl

theorem append_known {w : World} (p : Nat) (a : Option Addr) (nl c : Nat) (v : Value) (n : Nat) (vs : List Value) (hown : w.ownsRow 0 54 5 v n vs) (hn : n ≤ 5) :
    ∃ v' W', (∀ ty, (Builtin.append_ #[58, 58] ty #[v, .slice (some ⟨w.heap.size, 0, none⟩) 1 1]).run Try.prog (w.alloc (.cells #[.pointer (some ⟨p, 0, none⟩), .slice a nl c, .int .i64 0, .bool false, .int .i64 0] 54)) = .ok v' W') ∧ W'.ownsRow 0 54 5 v' (n + 1) (vs ++ [.pointer (some ⟨p, 0, none⟩), .slice a nl c, .int .i64 0, .bool false, .int .i64 0]) ∧ Grew w v W' v' := by
  obtain ⟨i0, hi, hz0, hz1, hz2⟩ := info_parts Try.info54
  obtain ⟨v', W', h1, h2, h3, h4⟩ := append_new 58 54 i0 (.agg #[.pointer none, .slice none 0 0, .int .i64 0, .bool false, .int .i64 0]) 5 56 Try.underlying58 hi hz0 hz1 hz2 rfl (by omega) v n vs hown #[.pointer (some ⟨p, 0, none⟩), .slice a nl c, .int .i64 0, .bool false, .int .i64 0] rfl (by
    intro y hy
    simp at hy
    rcases hy with rfl | rfl | rfl | rfl | rfl <;> rfl) (by unfold maxLen; omega) (by omega)
  exact ⟨v', W', h1, h2, h3, h4⟩

def BegP (w : World) (n : Nat) (e : Ending) (w' : World) : Prop := ∃ l Cs, e = .returned l ∧ BgI w w' l n Cs

set_option maxRecDepth 20000 in
set_option maxHeartbeats 2000000 in
theorem begins_any (a : Option Addr) (c : Nat) (zs : List Int) (w : World) (hs : SegI w a zs) (hm : zs.length ≤ maxLen) (hr : ∀ z ∈ zs, -9223372036854775808 ≤ z ∧ z ≤ 9223372036854775807) :
    Calls Try.prog 19 #[.slice a zs.length c] w (BegP w (min zs.length 5)) := by
  obtain ⟨n, hn⟩ : ∃ n, n = zs.length := ⟨_, rfl⟩
  have H : Hid (SegI w a zs ∧ zs.length ≤ maxLen ∧ (∀ z ∈ zs, -9223372036854775808 ≤ z ∧ z ≤ 9223372036854775807) ∧ n = zs.length) := ⟨hs, hm, hr, hn⟩
  have hn1 : (n : Int) ≤ 9223372036854775807 := by unfold maxLen at hm; omega
  rw [← hn]
  clear hs hm hr hn
  go_enter Try.func19, Try.ntmps19
  go_wp2_with fail
  go_loopw [3, 4] (fun l i wr => ∃ j Cs, j ≤ n ∧ j ≤ 5 ∧ i = .int .i64 (j : Nat) ∧ BgI w wr l j Cs) (fun l i _ => n - (intOf i).toNat)
  case atStart => exact ⟨0, [], by omega, by omega, rfl, rfl, ⟨rfl, .inl ⟨rfl, rfl⟩⟩, (fun C hC => by cases hC), ⟨fun i j k hi _ => by
      rcases hi with ⟨_, h⟩ | ⟨_, h⟩ | ⟨_, h⟩ | ⟨i, C, h, _⟩
      · exact absurd h fun e => e
      · exact absurd h fun e => e
      · cases h
      · simp at h, fun i k hi => by
      rcases hi with ⟨_, h⟩ | ⟨_, h⟩ | ⟨_, h⟩ | ⟨i, C, h, _⟩
      · exact absurd h fun e => e
      · exact absurd h fun e => e
      · cases h
      · simp at h, fun i k hi => by
      rcases hi with ⟨_, h⟩ | ⟨_, h⟩ | ⟨_, h⟩ | ⟨i, C, h, _⟩
      · exact absurd h fun e => e
      · exact absurd h fun e => e
      · cases h
      · simp at h⟩, Keeps.refl _ _⟩
  case round =>
    obtain ⟨j, Cs, hj, hj5, rfl, hB⟩ := hrel
    have HB : Hid (BgI w wr u3 j Cs) := hB
    have hj5' : (j : Int) ≤ 5 := by omega
    by_cases hlt : j < n ∧ j < 5
    · obtain ⟨hlt1, hlt2⟩ := hlt
      have hlt1' : (j : Int) < n := by omega
      have hlt2' : (j : Int) < 5 := by omega
      have hjx : j < zs.length := by have := H.out.2.2.2; omega
      clear hB
      obtain ⟨wo, hwo⟩ : ∃ wo, wo = wr := ⟨_, rfl⟩
      subst hwo
      go_wp2_with fail
      obtain ⟨wa, hwa⟩ : ∃ wa, wa = wo.alloc (.cells #[.pointer none, .slice none 0 0, .int .i64 0, .bool false, .int .i64 0] 54) := ⟨_, rfl⟩
      have HA : Hid (BgK wo wa (.slice none 0 0) 0 []) := by
        rw [hwa]
        exact ⟨⟨rfl, .inl ⟨rfl, rfl⟩⟩, Blk.new wo #[.pointer none, .slice none 0 0, .int .i64 0, .bool false, .int .i64 0] 54, .inl rfl, .nil, (fun r hr => by cases hr), (Keeps.refl _ _).alloc _, Nat.le_refl _⟩
      rw [← hwa]
      obtain ⟨B, hBB⟩ : ∃ B, B = wo.heap.size := ⟨_, rfl⟩
      rw [← hBB]
      have HBB : Hid (B = wo.heap.size) := hBB
      clear hwa hBB
      go_loopw [6] (fun i wq => ∃ (bb : Nat) (lv : Value) (lk : List Nat), bb ≤ 4 ∧ i = .int .i64 bb ∧ BgK wo wq lv bb lk) (fun i _ => 4 - (intOf i).toNat)
      case atStart => exact ⟨0, _, [], by omega, rfl, HA.out⟩
      case round =>
        obtain ⟨bb, lv, lk, hbb, rfl, hK⟩ := hrel
        have HK : Hid (BgK wo wr lv bb lk) := hK
        have hbb' : (bb : Int) ≤ 4 := by omega
        by_cases hb4 : bb < 4
        · have hb4' : (bb : Int) < 4 := by omega
          obtain ⟨ga, oa, ha, hcell⟩ := ((H.out.1.kept HB.out.keeps fun _ _ e => e).kept hK.keeps fun _ _ e => e).at hjx
          have hzr := H.out.2.2.1 _ (getD_mem hjx)
          obtain ⟨z, hz⟩ : ∃ z, z = zs.getD j 0 := ⟨_, rfl⟩
          rw [← hz] at hcell hzr
          have HP := pick_any z 16 wr (by omega) (by omega) hzr.1 hzr.2
          have hM := pk_lt z 16 (by omega)
          obtain ⟨M, hMM⟩ : ∃ M, M = pk z 16 := ⟨_, rfl⟩
          rw [← hMM] at HP hM
          have hM2 : (M : Int) < 16 := by omega
          have HP : Hid (Calls _ _ _ _ _) := HP
          have hbk := hK.blk
          rw [← HBB.out] at hbk
          obtain ⟨al, cl, hlv, hcl, hcl2⟩ := owns_slice hK.row
          have cb1 := hbk.cell (i := 1) rfl
          rw [hlv] at cb1
          obtain ⟨l', W', hap, how, hgr⟩ := append_int (2 * (bb : Int)) _ lk.length _ hK.row (by have := hK.small; omega)
          rw [hlv] at hap
          obtain ⟨a', c', rfl, hc', hc2'⟩ := owns_slice how
          have hbW : Blk W' B [.pointer none, lv, .int .i64 0, .bool false, .int .i64 0] 54 := hbk.kept hgr.keeps (by
            intro e
            rcases hK.fr with h | ⟨k, h, h2⟩
            · rw [h] at e; cases e
            · rw [h] at e; cases e; have := HBB.out; omega)
          have cw1 := hbW.cell (i := 1) rfl
          have zw1 := hbW.frozen 1
          obtain ⟨nl, hnl⟩ : ∃ nl, nl = lk.length := ⟨_, rfl⟩
          rw [← hnl] at cb1 hap how hgr
          have HK2 : Hid (BgK wo (W'.setCell ⟨B, 1, none⟩ (.slice a' (nl + 1) c')) (.slice a' (nl + 1) c') (bb + 1) (lk ++ [bb])) := by
            have hKB : Keeps (· = B) W' (W'.setCell ⟨B, 1, none⟩ (.slice a' (nl + 1) c')) := (Keeps.refl _ _).setCell _ _ fun _ => rfl
            have hfr : (Value.slice a' (nl + 1) c').ownBlock = none ∨ ∃ k, (Value.slice a' (nl + 1) c').ownBlock = some k ∧ wo.heap.size < k := by
              rcases hgr.fresh with e | ⟨k, e, hk⟩
              · rw [e]; exact hK.fr
              · refine .inr ⟨k, e, ?_⟩
                have := hbk.lt
                have := HBB.out
                omega
            refine ⟨?_, ?_, hfr, ?_, ?_, ?_, ?_⟩
            · have e1 : ivs (lkI (lk ++ [bb])) = ivs (lkI lk) ++ [.int .i64 (2 * (bb : Int))] := by simp [ivs, lkI]
              have hl : (lk ++ [bb]).length = nl + 1 := by simp [hnl]
              rw [e1, hl]
              refine owns_kept how hKB ?_
              intro k hk e
              rcases hfr with h | ⟨k', h, h2⟩
              · rw [h] at hk; cases hk
              · rw [h] at hk; cases hk; have := HBB.out; omega
            · rw [← HBB.out]
              exact hbW.setCell 1 _
            · refine List.pairwise_append.2 ⟨hK.up, List.pairwise_singleton _ _, fun a ha b hb => ?_⟩
              rw [List.mem_singleton.1 hb]; exact hK.top a ha
            · intro r hr
              rcases List.mem_append.1 hr with h | h
              · have := hK.top r h; omega
              · rw [List.mem_singleton.1 h]; omega
            · refine ((hK.keeps.trans hgr.keeps ?_).setCell _ _ ?_)
              · intro b hb e
                rcases hK.fr with h | ⟨k, h, h2⟩
                · rw [h] at e; cases e
                · rw [h] at e; cases e; omega
              · intro hb
                have := HBB.out
                simp only at hb
                omega
            · have := hK.small
              rw [List.length_append]; simp; omega
          have HK3 : Hid (BgK wo wr lv (bb + 1) lk) := ⟨hK.row, hK.blk, hK.fr, hK.up, fun r hr => by have := hK.top r hr; omega, hK.keeps, by have := hK.small; omega⟩
          have HAP : Hid (∀ ty, _) := hap
          clear hK hzr hz hMM hbk hap how hgr hbW hcl hcl2 hc' hc2' hlv hnl
          go_wp2_with fail
          refine HP.out.mono ?_
          rintro e wz ⟨rfl, hw⟩
          obtain rfl := hw.symm
          clear hw HP
          by_cases hbit : (bits BinOp.and IntKind.i64 ((M : Int) / 2 ^ bb) 1 == 1) = true
          · go_wp2_with (at_builtin; go_must (refine wpList_append_run rfl (.tmp 33) (.tmp 36) 27 27 rfl (.slice al nl cl) (.slice (some ⟨wr.heap.size, 0, none⟩) 1 1) (.slice a' (nl + 1) c') W' rfl rfl HAP.out ?_; refine Hid.out ?_))
            unfold Hid
            clear HAP
            go_wp2
            rw [← ha]
            clear ha
            go_roundw
            case rel => exact ⟨bb + 1, _, _, by omega, by go_num, HK2.out⟩
            case measure => simp [intOf]; omega
          · go_wp2
            rw [← ha]
            clear ha
            go_roundw
            case rel => exact ⟨bb + 1, _, _, by omega, by go_num, HK3.out⟩
            case measure => simp [intOf]; omega
        · have hb4' : ¬ (bb : Int) < 4 := by omega
          obtain rfl : bb = 4 := by omega
          have hbk := hK.blk
          rw [← HBB.out] at hbk
          obtain ⟨al, cl, hlv, hcl, hcl2⟩ := owns_slice hK.row
          have cb1 := hbk.cell (i := 1) rfl
          rw [hlv] at cb1
          have hll : (lkI lk).length = lk.length := by simp [lkI]
          have HC := newc_any al cl (lkI lk) wr (owns_segI (c := cl) (by rw [hll]; rw [hlv] at hK; exact hK.row)) (by rw [hll]; have := hK.small; omega) (by
            intro z hz
            obtain ⟨r, hr, rfl⟩ := List.mem_map.1 hz
            have := hK.top r hr
            omega)
          rw [hll] at HC
          obtain ⟨nl, hnl⟩ : ∃ nl, nl = lk.length := ⟨_, rfl⟩
          rw [← hnl] at cb1 HC hlv
          have HC : Hid (Calls _ _ _ _ _) := HC
          have HNL : Hid (nl = lk.length ∧ lv = .slice al nl cl) := ⟨hnl, hlv⟩
          clear hK hbk hcl hcl2 hlv hll hnl HA
          go_wp2_with fail
          refine HC.out.mono ?_
          rintro e w2 ⟨X, rfl, hX⟩
          have hB2 : Blk w2 B [.pointer none, .slice al nl cl, .int .i64 0, .bool false, .int .i64 0] 54 := by
            have := HK.out.blk.kept hX.2.2.2.2.2 (fun e => e)
            rw [← HBB.out, HNL.out.2] at this
            exact this
          have cc0 := hB2.cell (i := 0) rfl
          have zz0 := hB2.frozen 0
          have hB3 := hB2.setCell 0 (.pointer (some ⟨X.b, 0, none⟩))
          have hK3 : Keeps (· = B) w2 (w2.setCell ⟨B, 0, none⟩ (.pointer (some ⟨X.b, 0, none⟩))) := (Keeps.refl _ _).setCell _ _ fun _ => rfl
          obtain ⟨w3, hw3⟩ : ∃ w3, w3 = w2.setCell ⟨B, 0, none⟩ (.pointer (some ⟨X.b, 0, none⟩)) := ⟨_, rfl⟩
          rw [← hw3] at hB3 hK3
          have d0 := hB3.cell (i := 0) rfl
          have d1 := hB3.cell (i := 1) rfl
          have d2 := hB3.cell (i := 2) rfl
          have d3 := hB3.cell (i := 3) rfl
          have d4 := hB3.cell (i := 4) rfl
          have hko : Keeps (fun _ => False) wo w2 := HK.out.keeps.trans hX.2.2.2.2.2 fun _ _ e => e
          have hko3 : Keeps (fun _ => False) wo w3 := hko.trans hK3 (fun b hb e => by have := HBB.out; rw [e] at hb; omega)
          obtain ⟨v', W', hap, how, hgr⟩ := append_known X.b al nl cl u3 j (kvs Cs) (owns_kept HB.out.row hko3 fun _ _ e => e) (by omega)
          have hszo := HK.out.keeps.size
          have hsz2 := hX.2.2.2.2.2.size
          have hszB := HBB.out
          have hBlt := HK.out.blk.lt
          have hW3 : Keeps (fun k => some k = u3.ownBlock) wo W' := (hko3.none (S := fun k => some k = u3.ownBlock)).trans hgr.keeps fun _ _ e => e
          have hXin : X.In W' := by
            refine (hX.2.2.2.1.kept hK3 ?_).kept hgr.keeps ?_
            · rintro x hx rfl
              have := hX.2.2.2.2.1 _ hx
              omega
            · intro x hx e
              have := hX.2.2.2.2.1 _ hx
              have := HB.out.sep.lt 2 x (fk2 e.symm)
              omega
          have hlvlt : ∀ k, RF (.slice al nl cl) k → wo.heap.size < k ∧ k < wr.heap.size := by
            intro k hk
            have h1 := HK.out.fr
            have h2 := HK.out.row
            rw [HNL.out.2] at h1 h2
            refine ⟨?_, owns_lt h2 hk⟩
            rcases h1 with h | ⟨k', h, h3⟩
            · unfold RF at hk; rw [h] at hk; cases hk
            · unfold RF at hk; rw [h] at hk; cases hk; exact h3
          have hlvrow : W'.ownsRow 0 3 1 (.slice al nl cl) lk.length (ivs (lkI lk)) := by
            have h2 := HK.out.row
            rw [HNL.out.2] at h2
            refine owns_kept (owns_kept (owns_kept h2 hX.2.2.2.2.2 fun _ _ e => e) hK3 ?_) hgr.keeps ?_
            · rintro k hk rfl
              have := hlvlt _ hk; omega
            · intro k hk e
              have := hlvlt _ hk
              have := HB.out.sep.lt 2 k (fk2 e.symm)
              omega
          have hOk : Fresh ⟨X, .slice al nl cl, lk, [], false, 0⟩ W' := by
            refine ⟨⟨hXin, hlvrow, hX.1, hX.2.1, ?_, HK.out.up, fun r hr => by have := HK.out.top r hr; omega, Nat.zero_le _, fun h => by cases h⟩, rfl, rfl, HK.out.top⟩
            rw [hX.2.2.1]
            unfold settledN Ck.stN lkI
            simp
          have HI : Hid (BgI w W' v' (j + 1) (Cs ++ [⟨X, .slice al nl cl, lk, [], false, 0⟩])) := by
            refine ⟨by rw [List.length_append, HB.out.len]; rfl, ?_, ?_, ?_, ?_⟩
            · rw [kvs_append]; exact how
            · intro C hC
              rcases List.mem_append.1 hC with h | h
              · obtain ⟨h1, h2, h3, h4⟩ := HB.out.ok C h
                obtain ⟨i, hi⟩ := List.getElem?_of_mem h
                refine ⟨h1.kept hW3 ?_ ?_, h2, h3, h4⟩
                · intro x hx e
                  have := HB.out.sep.one _ 2 x (fkX hi hx) (fk2 e.symm); omega
                · intro x hx e
                  have := HB.out.sep.one _ 2 x (fkL hi hx) (fk2 e.symm); omega
              · rw [List.mem_singleton.1 h]; exact hOk
            · have hlen := HB.out.len
              have last : ∀ {i : Nat} {C : Ck}, (Cs ++ [⟨X, .slice al nl cl, lk, [], false, 0⟩])[i]? = some C → (i < j ∧ Cs[i]? = some C) ∨ (i = j ∧ C = ⟨X, .slice al nl cl, lk, [], false, 0⟩) := by
                intro i C hC
                by_cases hi : i < Cs.length
                · rw [List.getElem?_append_left hi] at hC; exact .inl ⟨by omega, hC⟩
                · rw [List.getElem?_append_right (by omega)] at hC
                  have h0 : i - Cs.length = 0 := by
                    by_cases h : i - Cs.length = 0
                    · exact h
                    · rw [List.getElem?_eq_none (by simp; omega)] at hC; cases hC
                  rw [h0] at hC
                  simp at hC
                  exact .inr ⟨by omega, hC.symm⟩
              have hv' : ∀ k, RF v' k → RF u3 k ∨ w3.heap.size ≤ k := by
                intro k hk
                rcases hgr.fresh with e | ⟨k', e, h⟩
                · left; unfold RF at *; rw [← e]; exact hk
                · right; unfold RF at hk; rw [e] at hk; cases hk; exact h
              have hXF : ∀ k, X.F k → wr.heap.size ≤ k ∧ k < w3.heap.size := fun k hk => ⟨hX.2.2.2.2.1 k hk, by have := hX.2.2.2.1.lt hk; have := hK3.size; omega⟩
              have hszW := hgr.keeps.size
              have hsz3 := hK3.size
              refine HB.out.sep.updM (fun key => key = 2 ∨ key = 2 * j + 3 ∨ key = 2 * j + 4) ?_ ?_ ?_ ?_ (by omega) HB.out.keeps.size
              · rintro key - k (⟨rfl, h⟩ | ⟨rfl, h⟩ | ⟨rfl, h⟩ | ⟨i, C, hC, h⟩)
                · exact absurd h fun e => e
                · exact absurd h fun e => e
                · rcases hv' k h with h | h
                  · exact .inl (fk2 h)
                  · exact .inr (by omega)
                · rcases last hC with ⟨hi, hC'⟩ | ⟨rfl, rfl⟩
                  · rcases h with ⟨rfl, h⟩ | ⟨rfl, h⟩
                    · exact .inl (fkX hC' h)
                    · exact .inl (fkL hC' h)
                  · rcases h with ⟨rfl, h⟩ | ⟨rfl, h⟩
                    · exact .inr (by have := hXF k h; omega)
                    · exact .inr (by have := hlvlt k h; omega)
              · rintro key - k (⟨rfl, h⟩ | ⟨rfl, h⟩ | ⟨rfl, h⟩ | ⟨i, C, hC, h⟩)
                · exact absurd h fun e => e
                · exact absurd h fun e => e
                · exact owns_lt how h
                · rcases last hC with ⟨hi, hC'⟩ | ⟨rfl, rfl⟩
                  · rcases h with ⟨rfl, h⟩ | ⟨rfl, h⟩
                    · have := HB.out.sep.lt _ k (fkX hC' h); omega
                    · have := HB.out.sep.lt _ k (fkL hC' h); omega
                  · rcases h with ⟨rfl, h⟩ | ⟨rfl, h⟩
                    · have := hXF k h; omega
                    · have := hlvlt k h; omega
              · have kind : ∀ key k, (key = 2 ∨ key = 2 * j + 3 ∨ key = 2 * j + 4) → FK nF nF (RF v') (Cs ++ [⟨X, .slice al nl cl, lk, [], false, 0⟩]) key k → (key = 2 ∧ (k < wo.heap.size ∨ w3.heap.size ≤ k)) ∨ (key = 2 * j + 3 ∧ wr.heap.size ≤ k ∧ k < w3.heap.size) ∨ (key = 2 * j + 4 ∧ wo.heap.size < k ∧ k < wr.heap.size) := by
                  rintro key k hp (⟨rfl, h⟩ | ⟨rfl, h⟩ | ⟨rfl, h⟩ | ⟨i, C, hC, h⟩)
                  · exact absurd h fun e => e
                  · exact absurd h fun e => e
                  · rcases hv' k h with h | h
                    · exact .inl ⟨rfl, .inl (HB.out.sep.lt 2 k (fk2 h))⟩
                    · exact .inl ⟨rfl, .inr h⟩
                  · rcases last hC with ⟨hi, hC'⟩ | ⟨rfl, rfl⟩
                    · rcases h with ⟨rfl, h⟩ | ⟨rfl, h⟩ <;> omega
                    · rcases h with ⟨rfl, h⟩ | ⟨rfl, h⟩
                      · exact .inr (.inl ⟨rfl, hXF k h⟩)
                      · exact .inr (.inr ⟨rfl, hlvlt k h⟩)
                intro a b k ha hb h1 h2
                rcases kind a k ha h1 with h3 | h3 | h3 <;> rcases kind b k hb h2 with h4 | h4 | h4 <;> omega
              · rintro key hk k (⟨rfl, h⟩ | ⟨rfl, h⟩ | ⟨rfl, h⟩ | ⟨i, C, hC, h⟩)
                · exact absurd h fun e => e
                · exact absurd h fun e => e
                · exact absurd (.inl rfl) hk
                · rcases last hC with ⟨hi, hC'⟩ | ⟨rfl, rfl⟩
                  · rcases h with ⟨rfl, h⟩ | ⟨rfl, h⟩
                    · exact fkX hC' h
                    · exact fkL hC' h
                  · rcases h with ⟨rfl, h⟩ | ⟨rfl, h⟩
                    · exact absurd (.inr (.inl rfl)) hk
                    · exact absurd (.inr (.inr rfl)) hk
            · exact (HB.out.keeps.trans hW3 fun b hb e => by
                have := HB.out.sep.ge 2 b (fk2 e.symm)
                omega)
          have HAP : Hid (∀ ty, _) := hap
          have HW3 : Hid (w3 = w2.setCell ⟨B, 0, none⟩ (.pointer (some ⟨X.b, 0, none⟩))) := hw3
          obtain ⟨xb, hxb⟩ : ∃ xb, xb = X.b := ⟨_, rfl⟩
          rw [← hxb] at d0 HAP HW3 ⊢
          clear hX hB2 hB3 hK3 hko hko3 hap how hgr hszo hsz2 hszB hBlt hW3 hXin hlvlt hlvrow hOk hw3 HC hxb
          go_upto_region 12 with fail
          rw [← HW3.out]
          go_wp2_with (at_builtin; go_must (refine wpList_append_run rfl (.tmp 43) (.tmp 45) 58 58 rfl u3 (.slice (some ⟨w3.heap.size, 0, none⟩) 1 1) v' W' rfl rfl HAP.out ?_; refine Hid.out ?_))
          unfold Hid
          clear HAP d0 d1 d2 d3 d4
          go_wp2
          go_roundw
          case rel => exact ⟨j + 1, _, by omega, by omega, by go_num, HI.out⟩
          case measure => simp [intOf]; omega
    · have hmin : j = min n 5 := by omega
      have HM : Hid (j = min n 5) := hmin
      clear hB hmin
      by_cases hlt1 : j < n
      · have hlt1' : (j : Int) < n := by omega
        have hlt2' : ¬ (j : Int) < 5 := by omega
        clear hlt
        go_wp2
        go_ret
        exact ⟨_, Cs, rfl, by rw [← HM.out]; exact HB.out⟩
      · have hlt1' : ¬ (j : Int) < n := by omega
        clear hlt
        go_wp2
        go_ret
        exact ⟨_, Cs, rfl, by rw [← HM.out]; exact HB.out⟩

end Go.Proofs.Ytadhldpeklkcmaa
