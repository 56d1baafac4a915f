import Derived.Test.YtadhldpeklkcmaaQ
import Derived.Deep.RegionHeld3
import Derived.StillTailTactics
namespace Go.Proofs.Ytadhldpeklkcmaa
open Go.RowKit
set_option linter.unusedVariables false

theorem Try.mixed : Try.prog.follows .mixedOrders = true := by kernel_rfl
theorem region_tail {id : Nat} {Q : Exit → Act → World → Prop} {a : Act} {w : World} {l : List Oper} (n : Nat) (hB : Region.lexTailB .any l.toArray n = true)
    (h : wpStill Try.prog l.toArray (w.drewN 1) (fun a' => wpList Try.prog l.toArray Q (l.drop n) a' (w.drewN 1)) (l.take n) a) : (Code.region id l.toArray true).wp Try.prog Q a w :=
  wp_region_still_tail n Try.mixed hB h

set_option maxHeartbeats 1000000 in
theorem gives_0 {w : World} {X : Chn} {mb g : Nat} {xs : List UInt32} {kb ko : Nat} {cells : List Value} {t : TypeId} {a : Option Addr} {nl c held : Nat} {plc : Int} {lk : List Int} {qb : Nat} {Q : List Int} (h : KnW w X mb g xs kb ko cells t a nl c held true plc lk qb Q)
    (r : StepR) (hr : backP X.lk X.tk X.st xs = r) (hd : r.did = false) (he : r.e = 170) (d : Nat) :
    Calls Try.prog 21 #[.pointer (some ⟨mb, 0, none⟩), .pointer (some ⟨kb, ko, none⟩), .slice (some ⟨qb, 0, none⟩) 5 d] w (KnP w X mb g r kb cells t qb Q) := by
  have HS := back_any X mb g xs w h.ch h.mm h.sep.2.2.2.1 h.sep.2.2.1
  rw [hr] at HS
  have HS : Hid (Calls _ _ _ _ _) := HS
  have HH : Hid (KnW w X mb g xs kb ko cells t a nl c held true plc lk qb Q ∧ r.did = false ∧ r.e = 170) := ⟨h, hd, he⟩
  have c0 := h.blk.cell h.h0
  clear h hd he hr
  go_enter Try.func21, Try.ntmps21
  go_wp2_with fail
  refine HS.out.mono ?_
  rintro e w1 ⟨rfl, vt, hi, hm, hk, hf⟩
  rw [HH.out.2.1, HH.out.2.2]
  have hB1 : Blk w1 kb cells t := HH.out.1.blk.kept hk (by rintro (e | e); exact HH.out.1.sep.1 e; exact HH.out.1.sep.2.2.2.2.2.2.1 e)
  have hQ1 : Blk w1 qb (ivs Q) 66 := HH.out.1.q.kept hk (by rintro (e | e); exact HH.out.1.sep.2.1 e; exact HH.out.1.sep.2.2.2.2.2.2.2.2 e)
  have H1 : Hid ((X.with vt r.tk r.st).In w1 ∧ (vt.ownBlock = X.vt.ownBlock ∨ ∃ k, vt.ownBlock = some k ∧ w.heap.size ≤ k) ∧ Mm w1 mb g r.xs ∧ Blk w1 kb cells t ∧ Blk w1 qb (ivs Q) 66 ∧ Keeps (fun k => X.F k ∨ k = g) w w1) := ⟨hi, hf, hm, hB1, hQ1, hk⟩
  have c3 := hB1.cell HH.out.1.h3
  clear hi hf hm hB1 hQ1 hk HS
  have HF : Hid (KnP w X mb g r kb cells t qb Q (.returned (.bool true)) w1) := knP_mk H1.out HH.out.1.sep HH.out.1.blk.lt HH.out.1.q.lt H1.out.2.2.2.1 H1.out.2.2.2.2.1 (Keeps.refl _ _)
  go_wp2
  go_ret
  exact HF.out

set_option maxHeartbeats 1000000 in
theorem gives_1 {w : World} {X : Chn} {mb g : Nat} {xs : List UInt32} {kb ko : Nat} {cells : List Value} {t : TypeId} {a : Option Addr} {nl c held : Nat} {plc : Int} {lk : List Int} {qb : Nat} {Q : List Int} (h : KnW w X mb g xs kb ko cells t a nl c held false plc lk qb Q)
    (r : StepR) (hr : backP X.lk X.tk X.st xs = r) (hd : r.did = true) (he : r.e = 0) (hh : held = 0) (d : Nat) :
    Calls Try.prog 21 #[.pointer (some ⟨mb, 0, none⟩), .pointer (some ⟨kb, ko, none⟩), .slice (some ⟨qb, 0, none⟩) 5 d] w (KnP w X mb g r kb cells t qb Q) := by
  have HS := back_any X mb g xs w h.ch h.mm h.sep.2.2.2.1 h.sep.2.2.1
  rw [hr] at HS
  have HS : Hid (Calls _ _ _ _ _) := HS
  have HH : Hid (KnW w X mb g xs kb ko cells t a nl c held false plc lk qb Q ∧ r.did = true ∧ r.e = 0) := ⟨h, hd, he⟩
  have c0 := h.blk.cell h.h0
  subst hh
  clear h hd he hr
  go_enter Try.func21, Try.ntmps21
  go_wp2_with fail
  refine HS.out.mono ?_
  rintro e w1 ⟨rfl, vt, hi, hm, hk, hf⟩
  rw [HH.out.2.1, HH.out.2.2]
  have hB1 : Blk w1 kb cells t := HH.out.1.blk.kept hk (by rintro (e | e); exact HH.out.1.sep.1 e; exact HH.out.1.sep.2.2.2.2.2.2.1 e)
  have hQ1 : Blk w1 qb (ivs Q) 66 := HH.out.1.q.kept hk (by rintro (e | e); exact HH.out.1.sep.2.1 e; exact HH.out.1.sep.2.2.2.2.2.2.2.2 e)
  have H1 : Hid ((X.with vt r.tk r.st).In w1 ∧ (vt.ownBlock = X.vt.ownBlock ∨ ∃ k, vt.ownBlock = some k ∧ w.heap.size ≤ k) ∧ Mm w1 mb g r.xs ∧ Blk w1 kb cells t ∧ Blk w1 qb (ivs Q) 66 ∧ Keeps (fun k => X.F k ∨ k = g) w w1) := ⟨hi, hf, hm, hB1, hQ1, hk⟩
  have c3 := hB1.cell HH.out.1.h3
  have c2 := hB1.cell HH.out.1.h2
  clear hi hf hm hB1 hQ1 hk HS
  go_wp2
  go_ret
  exact knP_mk H1.out HH.out.1.sep HH.out.1.blk.lt HH.out.1.q.lt H1.out.2.2.2.1 H1.out.2.2.2.2.1 (Keeps.refl _ _)

set_option maxRecDepth 20000 in
set_option maxHeartbeats 1000000 in
theorem gives_2 {w : World} {X : Chn} {mb g : Nat} {xs : List UInt32} {kb ko : Nat} {cells : List Value} {t : TypeId} {a : Option Addr} {nl c held : Nat} {plc : Int} {lk : List Int} {qb : Nat} {Q : List Int} (h : KnW w X mb g xs kb ko cells t a nl c (held + 1) false plc lk qb Q) (hlkl : lk.length ≤ X.lk.length)
    (r : StepR) (hr : backP X.lk X.tk X.st xs = r) (hd : r.did = (held == 0)) (he : r.e = 0) (hh : held < lk.length) (rr : Nat) (hrr : rr < 5) (hz : lk.getD held 0 = 2 * (rr : Int)) (hq : Q.getD (rr * 2 + 1) 0 < 9223372036854775807) (hq0 : 0 ≤ Q.getD (rr * 2 + 1) 0) (d : Nat) :
    Calls Try.prog 21 #[.pointer (some ⟨mb, 0, none⟩), .pointer (some ⟨kb, ko, none⟩), .slice (some ⟨qb, 0, none⟩) 5 d] w (KnP w X mb g r kb (cells.set (ko + 2) (.int .i64 held)) t qb (Q.set (rr * 2 + 1) (Q.getD (rr * 2 + 1) 0 + 1))) := by
  have HS := back_any X mb g xs w h.ch h.mm h.sep.2.2.2.1 h.sep.2.2.1
  rw [hr] at HS
  have HS : Hid (Calls _ _ _ _ _) := HS
  have HH : Hid (KnW w X mb g xs kb ko cells t a nl c (held + 1) false plc lk qb Q ∧ r.did = (held == 0) ∧ r.e = 0) := ⟨h, hd, he⟩
  have c0 := h.blk.cell h.h0
  have hnl : ¬ held = nl := by have := h.nl; omega
  have hnl1 : ¬ ((held : Int) = nl) := by omega
  have hnl2 : (held : Int) < nl := by have := h.nl; omega
  have hnl3 : held < nl := by omega
  obtain ⟨gl, ol, ha, hzc⟩ := h.seg.at hh
  obtain ⟨Z, hZ⟩ : ∃ Z, Z = lk.getD held 0 := ⟨_, rfl⟩
  rw [← hZ] at hzc hz
  have hdv : IntKind.i64.wrap (Z.tdiv 2) = rr := by rw [IntKind.wrap_i64, hz, Int.mul_tdiv_cancel_left _ (by omega)]; omega
  have hgl := h.segB _ ha (by intro e; rw [e] at hh; simp at hh)
  have HG : Hid (gl ≠ kb ∧ gl ≠ qb ∧ gl ≠ mb ∧ gl ≠ g ∧ ¬ X.F gl) := hgl
  obtain ⟨A, hA⟩ : ∃ A, A = Q.getD (rr * 2 + 1) 0 := ⟨_, rfl⟩
  rw [← hA] at hq hq0 ⊢
  have HA : Hid (A = Q.getD (rr * 2 + 1) 0) := hA
  have hrr2 : (rr : Int) < 5 := by omega
  have hkq := h.sep.2.2.2.2.1
  subst ha
  have HL2 : Hid (held ≤ 4294967296) := by have := h.ch.small; have := hlkl; show held ≤ 4294967296; omega
  clear h hd he hh hr hZ hz hgl hA hlkl
  go_enter Try.func21, Try.ntmps21
  go_wp2_with fail
  refine HS.out.mono ?_
  rintro e w1 ⟨rfl, vt, hi, hm, hk, hf⟩
  rw [HH.out.2.1, HH.out.2.2]
  have hB1 : Blk w1 kb cells t := HH.out.1.blk.kept hk (by rintro (e | e); exact HH.out.1.sep.1 e; exact HH.out.1.sep.2.2.2.2.2.2.1 e)
  have hQ1 : Blk w1 qb (ivs Q) 66 := HH.out.1.q.kept hk (by rintro (e | e); exact HH.out.1.sep.2.1 e; exact HH.out.1.sep.2.2.2.2.2.2.2.2 e)
  have H1 : Hid ((X.with vt r.tk r.st).In w1 ∧ (vt.ownBlock = X.vt.ownBlock ∨ ∃ k, vt.ownBlock = some k ∧ w.heap.size ≤ k) ∧ Mm w1 mb g r.xs ∧ Blk w1 kb cells t ∧ Blk w1 qb (ivs Q) 66 ∧ Keeps (fun k => X.F k ∨ k = g) w w1) := ⟨hi, hf, hm, hB1, hQ1, hk⟩
  have c1 := hB1.cell HH.out.1.h1
  have c2 := hB1.cell HH.out.1.h2
  have c3 := hB1.cell HH.out.1.h3
  have c4 := hB1.cell HH.out.1.h4
  have z3 := hB1.frozen (ko + 3)
  have z4 := hB1.frozen (ko + 4)
  have hql : (ivs Q)[rr * 2 + 1]? = some (.int .i64 A) := by
    have h1 : rr * 2 + 1 < Q.length := by have := HH.out.1.ql; omega
    rw [ivs_get Q _ h1, HA.out]; simp [List.getD, List.getElem?_eq_getElem h1]
  have cq := hQ1.cell hql
  have zq := hQ1.frozen (rr * 2 + 1)
  have hzc1 := cell_kept hzc hk (by rintro (e | e); exact HG.out.2.2.2.2 e; exact HG.out.2.2.2.1 e)
  clear hzc hql
  have z2 := hB1.frozen (ko + 2)
  have hh2 : IntKind.i64.wrap (((held + 1 : Nat) : Int) - 1) = held := by rw [IntKind.wrap_i64]; have := HL2.out; omega
  have hh4 : IntKind.i64.wrap (held : Int) = held := by rw [IntKind.wrap_i64]; have := HL2.out; omega
  have hgk : ¬ gl = kb := HG.out.1
  have hqk : ¬ qb = kb := fun e => hkq e.symm
  have hh3 : (0 : Int) < ((held + 1 : Nat) : Int) := by omega
  clear hi hf hm hB1 hQ1 hk HS
  go_wp2_with fail
  refine region_tail 16 (by kernel_rfl) ?_
  simp only [List.take_succ_cons, List.take_zero, List.drop_succ_cons, List.drop_zero]
  repeat still_step
  refine wpStill_nil ?_
  go_wp2
  go_ret
  have hb : ((held == 0) == ((held : Int) == 0)) = true := by
    by_cases h : held = 0
    · subst h; rfl
    · have e1 : (held == 0) = false := beq_eq_false_iff_ne.2 h
      have e2 : ((held : Int) == 0) = false := beq_eq_false_iff_ne.2 (by omega)
      rw [e1, e2]; rfl
  have HF := knP_mk H1.out HH.out.1.sep HH.out.1.blk.lt HH.out.1.q.lt (cells' := cells.set (ko + 2) (.int .i64 (held : Int))) (Q' := Q.set (rr * 2 + 1) (A + 1)) (w2 := ((w1.setCell ⟨kb, ko + 2, none⟩ (.int .i64 (held : Int))).drewN 1).setCell ⟨qb, rr * 2 + 1, none⟩ (.int .i64 (A + 1)))
    (((H1.out.2.2.2.1.setCell (ko + 2) _).drewN _).setCell_ne HH.out.1.sep.2.2.2.2.1 _)
    (by rw [ivs_set]; exact ((H1.out.2.2.2.2.1.setCell_ne HH.out.1.sep.2.2.2.2.1.symm _).drewN _).setCell _ _)
    ((((Keeps.refl _ _).setCell _ _ fun _ => .inl rfl).drewN _).setCell _ _ fun _ => .inr rfl)
  rw [← hb] at HF
  exact HF

end Go.Proofs.Ytadhldpeklkcmaa
