import Derived.Test.YthaoopaafdgioabE
import Derived.Test.YthaoopaafdgioabAp
namespace Go.Proofs.Ythaoopaafdgioab
open Go.RowKit
set_option linter.unusedVariables false
set_option maxRecDepth 6000
variable {f : Nat} {bs : Array Value} {S : Nat → Prop} {J : World → Int → List (Ow × Int) → Prop}

theorem frame_any (hD : Dl f bs S J) (p B C : Nat) (w : World) (a : Int) (hist : List (Ow × Int)) (hJ : J w a hist) (h0 : 0 ≤ a) (h1 : a ≤ 900000)
    (hB : w.cell? ⟨B, 0, none⟩ = some (.func (.func f) #[] bs)) (hC : w.cell? ⟨C, 0, none⟩ = some (.int .i64 p)) :
    Calls Try.prog 52 #[.pointer (some ⟨B, 0, none⟩), .pointer (some ⟨C, 0, none⟩)] w fun e w' => e = .returned (.int .i64 (a / 16)) ∧ J w' (a + 16) (hist ++ [(⟨9, p, 0⟩, 16)]) ∧ Keeps S w w' := by
  have hent := hD.ent
  have HC : Hid (Calls Try.prog f (#[Ow.v ⟨9, p, 0⟩, .int .i64 16] ++ bs) w fun e w' => e = .returned (.int .i64 a) ∧ J w' (a + 16) (hist ++ [(⟨9, p, 0⟩, 16)]) ∧ Keeps S w w') := hD.call w a hist ⟨9, p, 0⟩ 16 hJ h0 (by omega) (by omega) (by omega)
  clear hJ hD
  have hq : a.tdiv 16 = a / 16 := Int.tdiv_eq_ediv_of_nonneg h0
  have hq2 : IntKind.i64.wrap (a / 16) = a / 16 := by rw [IntKind.wrap_i64]; omega
  go_enter Try.func52, Try.ntmps52
  go_wp2_with fail
  refine HC.out.mono ?_
  rintro e w1 ⟨rfl, hj, hK⟩
  have HK : Hid (J w1 (a + 16) (hist ++ [(⟨9, p, 0⟩, 16)]) ∧ Keeps S w w1) := ⟨hj, hK⟩
  clear hj hK HC
  go_wp2
  go_ret
  exact ⟨rfl, HK.out.1, HK.out.2⟩

/-- How many of the first tables there are. -/
def cntT (rs : List Rgn) (t : Nat) : Nat := ((List.range t).filter (hasT rs)).length
def tabL (a : Int) (n : Nat) : List Int := (List.range n).map fun (k : Nat) => a / 16 + 1 + (k : Int)
theorem cntT_succ (rs : List Rgn) (t : Nat) : cntT rs (t + 1) = cntT rs t + (if hasT rs t then 1 else 0) := by
  unfold cntT; rw [List.range_succ, List.filter_append]
  cases h : hasT rs t <;> simp [h]
theorem cntT_le (rs : List Rgn) (t : Nat) : cntT rs t ≤ t := by
  unfold cntT; have := List.length_filter_le (hasT rs) (List.range t); simpa using this
theorem tabL_length (a : Int) (n : Nat) : (tabL a n).length = n := by simp [tabL]
theorem tabL_succ (a : Int) (n : Nat) : tabL a (n + 1) = tabL a n ++ [a / 16 + 1 + (n : Int)] := by simp [tabL, List.range_succ]

/-- While tables are laid: the two boxes, and all else as it was. -/
structure TbI (w : World) (C : Nat) (v : Value) (p : Nat) (S : Nat → Prop) (w' : World) : Prop where
  b0 : Blk w' C [.int .i64 p] 3
  b1 : Blk w' (C + 1) [v] 82
  kp : Keeps S w w'
  cw : C = w.heap.size
  sz : C + 2 ≤ w'.heap.size
  low : ∀ k, S k → k < w.heap.size
theorem TbI.c0 {w w' : World} {C p : Nat} {v : Value} (h : TbI w C v p S w') : w'.cell? ⟨C, 0, none⟩ = some (.int .i64 p) := h.b0.cell rfl
theorem TbI.c1 {w w' : World} {C p : Nat} {v : Value} (h : TbI w C v p S w') : w'.cell? ⟨C + 1, 0, none⟩ = some v := h.b1.cell rfl
theorem TbI.call {w w' w'' : World} {C p : Nat} {v : Value} (h : TbI w C v p S w') (hK : Keeps S w' w'') : TbI w C v p S w'' :=
  ⟨h.b0.kept hK fun e => by have := h.low _ e; have := h.cw; omega, h.b1.kept hK fun e => by have := h.low _ e; have := h.cw; omega, h.kp.trans hK fun _ _ h => h, h.cw, Nat.le_trans h.sz hK.size, h.low⟩
theorem TbI.grow {w w' w'' : World} {C p : Nat} {v : Value} (h : TbI w C v p S w') (hK : Keeps (fun _ => False) w' w'') : TbI w C v p S w'' := h.call (hK.mono fun _ _ h => h.elim)
theorem TbI.app {T : Nat → Prop} {w w' w'' : World} {C p : Nat} {v : Value} (h : TbI w C v p S w') (hK : Keeps T w' w'') (hT : ∀ k, T k → C + 2 ≤ k) : TbI w C v p S w'' :=
  ⟨h.b0.kept hK fun e => by have := hT _ e; omega, h.b1.kept hK fun e => by have := hT _ e; omega, h.kp.trans hK fun k hk e => by have := hT _ e; have := h.cw; omega, h.cw, Nat.le_trans h.sz hK.size, h.low⟩
theorem Row.lower {α : Type} {E : Elem α} {w : World} {lo lo' : Nat} {u : Value} {xs : List α} (h : Row E w lo u xs) (hl : lo' ≤ lo) : Row E w lo' u xs :=
  ⟨h.own, fun k hk => Nat.le_trans hl (h.low k hk), h.ok, fun x hx k hk => ⟨Nat.le_trans hl (h.bl x hx k hk).1, (h.bl x hx k hk).2⟩⟩

set_option maxHeartbeats 2000000 in
theorem layTables_any (hD : Dl f bs S J) (p : Nat) (ad : Option Addr) (c : Nat) (l : List Rgn) (w : World) (a : Int) (hist : List (Ow × Int)) (hJ : J w a hist) (hS : ∀ k, S k → k < w.heap.size) (h0 : 0 ≤ a) (h1 : a ≤ 800000) (h16 : a % 16 = 0)
    (hs : SegA Rgn.vs 4 w ad l) (hl1 : l.length ≤ c ∧ c ≤ maxLen) (hall : ∀ r ∈ l, r.inB = true) (hb : l ≠ [] → ∀ y, ad = some y → ¬ S y.block) :
    Calls Try.prog 42 #[.int .i64 p, .slice ad l.length c, .func (.func f) #[] bs] w fun e w' => ∃ u, e = .returned (.tuple #[.int .i64 (a / 16), u]) ∧ Row eInt w' w.heap.size u (tabL a (cntT l 16)) ∧
      J w' (a + 16 + 16 * (cntT l 16 : Int)) (hist ++ List.replicate (1 + cntT l 16) (⟨9, p, 0⟩, 16)) ∧ Keeps S w w' := by
  have hent := hD.ent
  have HD : Hid (Dl f bs S J) := hD
  obtain ⟨L, hL⟩ : ∃ L, l.length = L := ⟨_, rfl⟩
  rw [hL]
  have HS : Hid (SegA Rgn.vs 4 w ad l ∧ l.length = L ∧ (L ≤ c ∧ c ≤ maxLen) ∧ (∀ r ∈ l, r.inB = true) ∧ (l ≠ [] → ∀ y, ad = some y → ¬ S y.block) ∧ (∀ k, S k → k < w.heap.size)) := ⟨hs, hL, hL ▸ hl1, hall, hb, hS⟩
  obtain ⟨W, hW⟩ : ∃ W, W = (w.alloc (.cells #[.int .i64 p] 3)).alloc (.cells #[.func (.func f) #[] bs] 82) := ⟨_, rfl⟩
  obtain ⟨C, hC⟩ : ∃ C, C = w.heap.size := ⟨_, rfl⟩
  have HW : Hid (TbI w C (.func (.func f) #[] bs) p S W ∧ J W a hist) := by
    rw [hW, hC]
    have k1 : Keeps (fun _ => False) w (w.alloc (.cells #[.int .i64 p] 3)) := (Keeps.refl _ _).alloc _
    have k2 := k1.alloc (.cells #[.func (.func f) #[] bs] 82)
    refine ⟨⟨(Blk.new w _ _).alloc _, ?_, k2.mono fun _ _ h => h.elim, rfl, by simp, hS⟩, hD.kept hJ k2 fun _ _ h => h⟩
    have := Blk.new (w.alloc (.cells #[.int .i64 p] 3)) #[.func (.func f) #[] bs] 82
    simpa using this
  clear hs hL hl1 hall hb hS hJ hD
  go_enter Try.func42, Try.ntmps42
  go_wp2_with fail
  rw [← hW, ← hC]
  clear hW hC
  refine (frame_any HD.out p (C + 1) C W a hist HW.out.2 h0 (by omega) HW.out.1.c1 HW.out.1.c0).mono ?_
  rintro e w1 ⟨rfl, hj, hK⟩
  have HK : Hid (TbI w C (.func (.func f) #[] bs) p S w1 ∧ J w1 (a + 16) (hist ++ [(⟨9, p, 0⟩, 16)])) := ⟨HW.out.1.call hK, hj⟩
  clear hj hK
  go_wp2
  go_loopw [7, 13] (fun u i wr => ∃ j : Nat, j ≤ 16 ∧ i = .int .i64 j ∧ Row eInt wr (C + 2) u (tabL a (cntT l j)) ∧ TbI w C (.func (.func f) #[] bs) p S wr ∧ J wr (a + 16 + 16 * (cntT l j : Int)) (hist ++ List.replicate (1 + cntT l j) (⟨9, p, 0⟩, 16))) (fun _ i _ => 16 - (intOf i).toNat)
  case atStart => exact ⟨0, by omega, rfl, Row.nil _ _, HK.out.1, by simpa [cntT] using HK.out.2⟩
  case round =>
    obtain ⟨j, hj, rfl, hRow, hI, hJ⟩ := hrel
    have HR : Hid (Row eInt wr (C + 2) u7 (tabL a (cntT l j)) ∧ TbI w C (.func (.func f) #[] bs) p S wr ∧ J wr (a + 16 + 16 * (cntT l j : Int)) (hist ++ List.replicate (1 + cntT l j) (⟨9, p, 0⟩, 16))) := ⟨hRow, hI, hJ⟩
    clear hRow hI hJ
    by_cases hlt : j < 16
    · have HC : Hid (Calls Try.prog 53 #[.slice ad L c, .int .i64 j] wr fun e w' => e = .returned (.bool (hasT l j)) ∧ Keeps (fun _ => False) wr w') := by
        have := hasTable_any ad c l j wr (HS.out.1.kept HR.out.2.1.kp HS.out.2.2.2.2.1) (by rw [HS.out.2.1]; exact HS.out.2.2.1) HS.out.2.2.2.1 hlt
        rw [HS.out.2.1] at this
        exact this
      go_wp2_with fail
      refine HC.out.mono ?_
      rintro e w2 ⟨rfl, hK⟩
      have HR2 : Hid (Row eInt w2 (C + 2) u7 (tabL a (cntT l j)) ∧ TbI w C (.func (.func f) #[] bs) p S w2 ∧ J w2 (a + 16 + 16 * (cntT l j : Int)) (hist ++ List.replicate (1 + cntT l j) (⟨9, p, 0⟩, 16))) := ⟨HR.out.1.kept hK fun _ h => h.elim, HR.out.2.1.grow hK, HD.out.kept HR.out.2.2 hK fun _ _ h => h⟩
      clear hK HC HR
      obtain ⟨b, hb⟩ : ∃ b, hasT l j = b := ⟨_, rfl⟩
      rw [hb]
      have HB : Hid (cntT l (j + 1) = cntT l j + (if b then 1 else 0)) := by show _ = _; rw [cntT_succ, hb]
      have hcl := cntT_le l j
      clear hb
      cases b with
      | false =>
        go_wp2
        go_roundw
        case rel => exact ⟨j + 1, by omega, by go_num, by rw [HB.out]; exact HR2.out.1, HR2.out.2.1, by rw [HB.out]; exact HR2.out.2.2⟩
        case measure => simp [intOf]; omega
      | true =>
        obtain ⟨m, hm⟩ : ∃ m, cntT l j = m := ⟨_, rfl⟩
        rw [hm] at HR2 HB hcl
        clear hm
        have HC : Hid (Calls Try.prog 52 #[.pointer (some ⟨C + 1, 0, none⟩), .pointer (some ⟨C, 0, none⟩)] w2 fun e w' => e = .returned (.int .i64 ((a + 16 + 16 * (m : Int)) / 16)) ∧ J w' (a + 16 + 16 * (m : Int) + 16) ((hist ++ List.replicate (1 + m) (⟨9, p, 0⟩, 16)) ++ [(⟨9, p, 0⟩, 16)]) ∧ Keeps S w2 w') :=
          frame_any HD.out p (C + 1) C w2 _ _ HR2.out.2.2 (by omega) (by omega) HR2.out.2.1.c1 HR2.out.2.1.c0
        go_wp2_with fail
        refine HC.out.mono ?_
        rintro e w3 ⟨rfl, hj3, hK⟩
        have hI3 := HR2.out.2.1.call hK
        obtain ⟨v', W', happ, hR', hKa, _⟩ := int_app ((a + 16 + 16 * (m : Int)) / 16) (HR2.out.1.kept hK fun k hk => by have := hI3.low k hk; have := hI3.cw; omega) hI3.sz (by rw [tabL_length]; omega)
        have hno : ∀ k, some k = u7.ownBlock → C + 2 ≤ k := fun k e => HR2.out.1.low k e.symm
        have HN : Hid (Row eInt W' (C + 2) v' (tabL a (m + 1)) ∧ TbI w C (.func (.func f) #[] bs) p S W' ∧ J W' (a + 16 + 16 * ((m + 1 : Nat) : Int)) (hist ++ List.replicate (1 + (m + 1)) (⟨9, p, 0⟩, 16))) := by
          refine ⟨?_, hI3.app hKa hno, ?_⟩
          · rw [tabL_succ, show a / 16 + 1 + (m : Int) = (a + 16 + 16 * (m : Int)) / 16 by omega]; exact hR'
          · have h5 := HD.out.kept hj3 hKa fun k hk e => by have := hno k e; have := hI3.low k hk; have := hI3.cw; omega
            rw [show a + 16 + 16 * ((m + 1 : Nat) : Int) = a + 16 + 16 * (m : Int) + 16 by omega, show List.replicate (1 + (m + 1)) ((⟨9, p, 0⟩ : Ow), (16 : Int)) = List.replicate (1 + m) (⟨9, p, 0⟩, 16) ++ [(⟨9, p, 0⟩, 16)] by rw [← Nat.add_assoc, List.replicate_succ'], ← List.append_assoc]
            exact h5
        have HAP : Hid (∀ ty, (Builtin.append_ #[68, 68] ty #[u7, .slice (some ⟨w3.heap.size, 0, none⟩) 1 1]).run Try.prog (w3.alloc (.cells #[.int .i64 ((a + 16 + 16 * (m : Int)) / 16)] 3)) = .ok v' W') := happ
        clear happ hR' hKa hno hI3 hj3 hK HC HR2
        go_wp2_with (at_builtin; go_must (refine wpList_append_run rfl (.tmp 19) (.tmp 22) 68 68 rfl u7 (.slice (some ⟨w3.heap.size, 0, none⟩) 1 1) v' W' rfl rfl HAP.out ?_; refine Hid.out ?_))
        unfold Hid
        clear HAP
        go_wp2
        go_roundw
        case rel => exact ⟨j + 1, by omega, by go_num, by rw [HB.out]; exact HN.out.1, HN.out.2.1, by rw [HB.out]; exact HN.out.2.2⟩
        case measure => simp [intOf]; omega
    · obtain rfl : j = 16 := by omega
      go_wp2
      go_ret2
      refine ⟨_, rfl, ?_, HR.out.2.2, HR.out.2.1.kp⟩
      have := HR.out.1
      rw [HR.out.2.1.cw] at this
      exact Row.lower this (by omega)
end Go.Proofs.Ythaoopaafdgioab
