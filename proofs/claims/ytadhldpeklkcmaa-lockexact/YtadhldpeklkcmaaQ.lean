import Derived.Test.YtadhldpeklkcmaaN
import Derived.Test.YtadhldpeklkcmaaPa
import Derived.Deep.RegionHeld3
namespace Go.Proofs.Ytadhldpeklkcmaa
open Go.RowKit
set_option linter.unusedVariables false

/-- What lies around a step of a chain that is known: the known one in block kb from ko on, the rows in qb. -/
structure KnW (w : World) (X : Chn) (mb g : Nat) (xs : List UInt32) (kb ko : Nat) (cells : List Value) (t : TypeId) (a : Option Addr) (nl c : Nat) (held : Nat) (ask : Bool) (plc : Int) (lk : List Int) (qb : Nat) (Q : List Int) : Prop where
  ch : X.In w
  mm : Mm w mb g xs
  blk : Blk w kb cells t
  h0 : cells[ko]? = some (.pointer (some ⟨X.b, 0, none⟩))
  h1 : cells[ko + 1]? = some (.slice a nl c)
  h2 : cells[ko + 2]? = some (.int .i64 held)
  h3 : cells[ko + 3]? = some (.bool ask)
  h4 : cells[ko + 4]? = some (.int .i64 plc)
  nl : nl = lk.length
  seg : SegI w a lk
  segB : ∀ x, a = some x → lk ≠ [] → x.block ≠ kb ∧ x.block ≠ qb ∧ x.block ≠ mb ∧ x.block ≠ g ∧ ¬ X.F x.block
  q : Blk w qb (ivs Q) 66
  ql : Q.length = 10
  sep : ¬ X.F kb ∧ ¬ X.F qb ∧ ¬ X.F mb ∧ ¬ X.F g ∧ kb ≠ qb ∧ kb ≠ mb ∧ kb ≠ g ∧ qb ≠ mb ∧ qb ≠ g
  hl : held ≤ lk.length

/-- What such a step leaves. -/
def KnP (w : World) (X : Chn) (mb g : Nat) (r : StepR) (kb : Nat) (cells : List Value) (t : TypeId) (qb : Nat) (Q : List Int) (e : Ending) (w' : World) : Prop :=
  e = .returned (.bool true) ∧ ∃ vt, (X.with vt r.tk r.st).In w' ∧ (vt.ownBlock = X.vt.ownBlock ∨ ∃ k, vt.ownBlock = some k ∧ w.heap.size ≤ k) ∧ Mm w' mb g r.xs ∧ Blk w' kb cells t ∧ Blk w' qb (ivs Q) 66 ∧ Keeps (fun k => X.F k ∨ k = g ∨ k = kb ∨ k = qb) w w'


theorem ivs_set (Q : List Int) (i : Nat) (z : Int) : ivs (Q.set i z) = (ivs Q).set i (.int .i64 z) := by simp [ivs, List.map_set]

/-- Behind a step that changed its known one or the rows: all of KnP out of the parts. -/
theorem knP_mk {w w1 w2 : World} {X : Chn} {mb g : Nat} {r : StepR} {kb : Nat} {cells cells' : List Value} {t : TypeId} {qb : Nat} {Q Q' : List Int} {vt : Value}
    (H : (X.with vt r.tk r.st).In w1 ∧ (vt.ownBlock = X.vt.ownBlock ∨ ∃ k, vt.ownBlock = some k ∧ w.heap.size ≤ k) ∧ Mm w1 mb g r.xs ∧ Blk w1 kb cells t ∧ Blk w1 qb (ivs Q) 66 ∧ Keeps (fun k => X.F k ∨ k = g) w w1)
    (hs : ¬ X.F kb ∧ ¬ X.F qb ∧ ¬ X.F mb ∧ ¬ X.F g ∧ kb ≠ qb ∧ kb ≠ mb ∧ kb ≠ g ∧ qb ≠ mb ∧ qb ≠ g) (hkl : kb < w.heap.size) (hql : qb < w.heap.size)
    (hB : Blk w2 kb cells' t) (hQ : Blk w2 qb (ivs Q') 66) (hk : Keeps (fun k => k = kb ∨ k = qb) w1 w2) : KnP w X mb g r kb cells' t qb Q' (.returned (.bool true)) w2 := by
  have hF : ∀ x, (X.with vt r.tk r.st).F x → ¬ (x = kb ∨ x = qb) := by
    intro x hx e
    rcases Chn.with_F H.2.1 hx with h1 | h1
    · rcases e with rfl | rfl
      · exact hs.1 h1
      · exact hs.2.1 h1
    · rcases e with rfl | rfl <;> omega
  refine ⟨rfl, vt, H.1.kept hk hF, H.2.1, H.2.2.1.kept hk ?_ ?_, hB, hQ, (H.2.2.2.2.2.mono fun k _ e => ?_).trans hk fun k _ e => .inr (.inr e)⟩
  · rintro (e | e)
    · exact hs.2.2.2.2.2.1 e.symm
    · exact hs.2.2.2.2.2.2.2.1 e.symm
  · rintro (e | e)
    · exact hs.2.2.2.2.2.2.1 e.symm
    · exact hs.2.2.2.2.2.2.2.2 e.symm
  · rcases e with e | e
    · exact .inl e
    · exact .inr (.inl e)

set_option maxHeartbeats 1000000 in
theorem moves_0 {w : World} {X : Chn} {mb g : Nat} {xs : List UInt32} {kb ko : Nat} {cells : List Value} {t : TypeId} {a : Option Addr} {nl c held : Nat} {ask : Bool} {plc : Int} {lk : List Int} {qb : Nat} {Q : List Int} (h : KnW w X mb g xs kb ko cells t a nl c held ask plc lk qb Q)
    (r : StepR) (hr : stepP X.lk X.tk X.st xs = r) (hd : r.did = false) (he : r.e = 0) (hh : held = lk.length) (d : Nat) :
    Calls Try.prog 17 #[.pointer (some ⟨mb, 0, none⟩), .pointer (some ⟨kb, ko, none⟩), .slice (some ⟨qb, 0, none⟩) 5 d] w (KnP w X mb g r kb cells t qb Q) := by
  have HS := step_any X mb g xs w h.ch h.mm h.sep.2.2.2.1 h.sep.2.2.1
  rw [hr] at HS
  have HS : Hid (Calls _ _ _ _ _) := HS
  have HH : Hid (KnW w X mb g xs kb ko cells t a nl c held ask plc lk qb Q ∧ r.did = false ∧ r.e = 0) := ⟨h, hd, he⟩
  have c0 := h.blk.cell h.h0
  have hnl : nl = held := by rw [h.nl, hh]
  subst hnl
  clear h hd he hh hr
  go_enter Try.func17, Try.ntmps17
  go_wp2_with fail
  refine HS.out.mono ?_
  rintro e w1 ⟨rfl, vt, hi, hm, hk, hf⟩
  rw [HH.out.2.1, HH.out.2.2]
  have hB1 : Blk w1 kb cells t := HH.out.1.blk.kept hk (by rintro (e | e); exact HH.out.1.sep.1 e; exact HH.out.1.sep.2.2.2.2.2.2.1 e)
  have hQ1 : Blk w1 qb (ivs Q) 66 := HH.out.1.q.kept hk (by rintro (e | e); exact HH.out.1.sep.2.1 e; exact HH.out.1.sep.2.2.2.2.2.2.2.2 e)
  have H1 : Hid ((X.with vt r.tk r.st).In w1 ∧ (vt.ownBlock = X.vt.ownBlock ∨ ∃ k, vt.ownBlock = some k ∧ w.heap.size ≤ k) ∧ Mm w1 mb g r.xs ∧ Blk w1 kb cells t ∧ Blk w1 qb (ivs Q) 66 ∧ Keeps (fun k => X.F k ∨ k = g) w w1) := ⟨hi, hf, hm, hB1, hQ1, hk⟩
  have c1 := hB1.cell HH.out.1.h1
  have c2 := hB1.cell HH.out.1.h2
  clear hi hf hm hB1 hQ1 hk HS
  go_wp2_with fail
  go_quiet (fail)
  have HF : Hid (KnP w X mb g r kb cells t qb Q (.returned (.bool true)) (w1.drewN nq)) := knP_mk H1.out HH.out.1.sep HH.out.1.blk.lt HH.out.1.q.lt (H1.out.2.2.2.1.drewN _) (H1.out.2.2.2.2.1.drewN _) ((Keeps.refl _ _).drewN _)
  go_wp2
  go_ret
  exact HF.out

set_option maxHeartbeats 1000000 in
theorem moves_1 {w : World} {X : Chn} {mb g : Nat} {xs : List UInt32} {kb ko : Nat} {cells : List Value} {t : TypeId} {a : Option Addr} {nl c held : Nat} {plc : Int} {lk : List Int} {qb : Nat} {Q : List Int} (h : KnW w X mb g xs kb ko cells t a nl c held false plc lk qb Q)
    (r : StepR) (hr : stepP X.lk X.tk X.st xs = r) (hd : r.did = true) (he : r.e = 0) (hh : held < lk.length) (rr : Nat) (hrr : rr < 5) (hz : lk.getD held 0 = 2 * (rr : Int)) (hq : Q.getD (rr * 2) 0 < 9223372036854775807) (hq0 : 0 ≤ Q.getD (rr * 2) 0) (d : Nat) :
    Calls Try.prog 17 #[.pointer (some ⟨mb, 0, none⟩), .pointer (some ⟨kb, ko, none⟩), .slice (some ⟨qb, 0, none⟩) 5 d] w (KnP w X mb g r kb ((cells.set (ko + 3) (.bool true)).set (ko + 4) (.int .i64 (Q.getD (rr * 2) 0))) t qb (Q.set (rr * 2) (Q.getD (rr * 2) 0 + 1))) := by
  have HS := step_any X mb g xs w h.ch h.mm h.sep.2.2.2.1 h.sep.2.2.1
  rw [hr] at HS
  have HS : Hid (Calls _ _ _ _ _) := HS
  have HH : Hid (KnW w X mb g xs kb ko cells t a nl c held false plc lk qb Q ∧ r.did = true ∧ r.e = 0) := ⟨h, hd, he⟩
  have c0 := h.blk.cell h.h0
  have hnl : ¬ held = nl := by have := h.nl; omega
  have hnl1 : ¬ ((held : Int) = nl) := by omega
  have hnl2 : (held : Int) < nl := by have := h.nl; omega
  have hnl3 : held < nl := by omega
  obtain ⟨gl, ol, ha, hzc⟩ := h.seg.at hh
  obtain ⟨Z, hZ⟩ : ∃ Z, Z = lk.getD held 0 := ⟨_, rfl⟩
  rw [← hZ] at hzc hz
  have hdv : IntKind.i64.wrap (Z.tdiv 2) = rr := by rw [IntKind.wrap_i64, hz, Int.mul_tdiv_cancel_left _ (by omega)]; omega
  have hgl := h.segB _ ha (by intro e; rw [e] at hh; simp at hh)
  have HG : Hid (gl ≠ kb ∧ gl ≠ qb ∧ gl ≠ mb ∧ gl ≠ g ∧ ¬ X.F gl) := hgl
  obtain ⟨A, hA⟩ : ∃ A, A = Q.getD (rr * 2) 0 := ⟨_, rfl⟩
  rw [← hA] at hq hq0 ⊢
  have HA : Hid (A = Q.getD (rr * 2) 0) := hA
  have hrr2 : (rr : Int) < 5 := by omega
  have hkq := h.sep.2.2.2.2.1
  subst ha
  clear h hd he hh hr hZ hz hgl hA
  go_enter Try.func17, Try.ntmps17
  go_wp2_with fail
  refine HS.out.mono ?_
  rintro e w1 ⟨rfl, vt, hi, hm, hk, hf⟩
  rw [HH.out.2.1, HH.out.2.2]
  have hB1 : Blk w1 kb cells t := HH.out.1.blk.kept hk (by rintro (e | e); exact HH.out.1.sep.1 e; exact HH.out.1.sep.2.2.2.2.2.2.1 e)
  have hQ1 : Blk w1 qb (ivs Q) 66 := HH.out.1.q.kept hk (by rintro (e | e); exact HH.out.1.sep.2.1 e; exact HH.out.1.sep.2.2.2.2.2.2.2.2 e)
  have H1 : Hid ((X.with vt r.tk r.st).In w1 ∧ (vt.ownBlock = X.vt.ownBlock ∨ ∃ k, vt.ownBlock = some k ∧ w.heap.size ≤ k) ∧ Mm w1 mb g r.xs ∧ Blk w1 kb cells t ∧ Blk w1 qb (ivs Q) 66 ∧ Keeps (fun k => X.F k ∨ k = g) w w1) := ⟨hi, hf, hm, hB1, hQ1, hk⟩
  have c1 := hB1.cell HH.out.1.h1
  have c2 := hB1.cell HH.out.1.h2
  have c3 := hB1.cell HH.out.1.h3
  have c4 := hB1.cell HH.out.1.h4
  have z3 := hB1.frozen (ko + 3)
  have z4 := hB1.frozen (ko + 4)
  have hql : (ivs Q)[rr * 2]? = some (.int .i64 A) := by
    have h1 : rr * 2 < Q.length := by have := HH.out.1.ql; omega
    rw [ivs_get Q _ h1, HA.out]; simp [List.getD, List.getElem?_eq_getElem h1]
  have cq := hQ1.cell hql
  have zq := hQ1.frozen (rr * 2)
  have hzc1 := cell_kept hzc hk (by rintro (e | e); exact HG.out.2.2.2.2 e; exact HG.out.2.2.2.1 e)
  clear hzc hql
  clear hi hf hm hB1 hQ1 hk HS
  go_wp2_with fail
  go_quiet (fail)
  go_wp2_with fail
  go_quiet (fail)
  go_wp2
  go_ret
  refine knP_mk H1.out HH.out.1.sep HH.out.1.blk.lt HH.out.1.q.lt ?_ ?_ ?_
  · exact (((H1.out.2.2.2.1.drewN _).setCell (ko + 3) _).setCell (ko + 4) _).setCell_ne HH.out.1.sep.2.2.2.2.1 _
  · rw [ivs_set]
    exact (((H1.out.2.2.2.2.1.drewN _).setCell_ne HH.out.1.sep.2.2.2.2.1.symm _).setCell_ne HH.out.1.sep.2.2.2.2.1.symm _).setCell _ _
  · exact ((((Keeps.refl _ _).drewN _).setCell _ _ fun _ => .inl rfl).setCell _ _ fun _ => .inl rfl).setCell _ _ fun _ => .inr rfl

set_option maxHeartbeats 1000000 in
theorem moves_2 {w : World} {X : Chn} {mb g : Nat} {xs : List UInt32} {kb ko : Nat} {cells : List Value} {t : TypeId} {a : Option Addr} {nl c held : Nat} {plc : Int} {lk : List Int} {qb : Nat} {Q : List Int} (h : KnW w X mb g xs kb ko cells t a nl c held true plc lk qb Q)
    (r : StepR) (hr : stepP X.lk X.tk X.st xs = r) (hd : r.did = false) (he : r.e = 0) (hh : held < lk.length) (rr : Nat) (hrr : rr < 5) (hz : lk.getD held 0 = 2 * (rr : Int)) (hq : Q.getD (rr * 2 + 1) 0 ≠ plc) (d : Nat) :
    Calls Try.prog 17 #[.pointer (some ⟨mb, 0, none⟩), .pointer (some ⟨kb, ko, none⟩), .slice (some ⟨qb, 0, none⟩) 5 d] w (KnP w X mb g r kb cells t qb Q) := by
  have HS := step_any X mb g xs w h.ch h.mm h.sep.2.2.2.1 h.sep.2.2.1
  rw [hr] at HS
  have HS : Hid (Calls _ _ _ _ _) := HS
  have HH : Hid (KnW w X mb g xs kb ko cells t a nl c held true plc lk qb Q ∧ r.did = false ∧ r.e = 0) := ⟨h, hd, he⟩
  have c0 := h.blk.cell h.h0
  have hnl : ¬ held = nl := by have := h.nl; omega
  have hnl1 : ¬ ((held : Int) = nl) := by omega
  have hnl2 : (held : Int) < nl := by have := h.nl; omega
  have hnl3 : held < nl := by omega
  obtain ⟨gl, ol, ha, hzc⟩ := h.seg.at hh
  obtain ⟨Z, hZ⟩ : ∃ Z, Z = lk.getD held 0 := ⟨_, rfl⟩
  rw [← hZ] at hzc hz
  have hdv : IntKind.i64.wrap (Z.tdiv 2) = rr := by rw [IntKind.wrap_i64, hz, Int.mul_tdiv_cancel_left _ (by omega)]; omega
  have hgl := h.segB _ ha (by intro e; rw [e] at hh; simp at hh)
  have HG : Hid (gl ≠ kb ∧ gl ≠ qb ∧ gl ≠ mb ∧ gl ≠ g ∧ ¬ X.F gl) := hgl
  obtain ⟨A, hA⟩ : ∃ A, A = Q.getD (rr * 2 + 1) 0 := ⟨_, rfl⟩
  rw [← hA] at hq
  have HA : Hid (A = Q.getD (rr * 2 + 1) 0) := hA
  have hrr2 : (rr : Int) < 5 := by omega
  have hkq := h.sep.2.2.2.2.1
  subst ha
  clear h hd he hh hr hZ hz hgl hA
  go_enter Try.func17, Try.ntmps17
  go_wp2_with fail
  refine HS.out.mono ?_
  rintro e w1 ⟨rfl, vt, hi, hm, hk, hf⟩
  rw [HH.out.2.1, HH.out.2.2]
  have hB1 : Blk w1 kb cells t := HH.out.1.blk.kept hk (by rintro (e | e); exact HH.out.1.sep.1 e; exact HH.out.1.sep.2.2.2.2.2.2.1 e)
  have hQ1 : Blk w1 qb (ivs Q) 66 := HH.out.1.q.kept hk (by rintro (e | e); exact HH.out.1.sep.2.1 e; exact HH.out.1.sep.2.2.2.2.2.2.2.2 e)
  have H1 : Hid ((X.with vt r.tk r.st).In w1 ∧ (vt.ownBlock = X.vt.ownBlock ∨ ∃ k, vt.ownBlock = some k ∧ w.heap.size ≤ k) ∧ Mm w1 mb g r.xs ∧ Blk w1 kb cells t ∧ Blk w1 qb (ivs Q) 66 ∧ Keeps (fun k => X.F k ∨ k = g) w w1) := ⟨hi, hf, hm, hB1, hQ1, hk⟩
  have c1 := hB1.cell HH.out.1.h1
  have c2 := hB1.cell HH.out.1.h2
  have c3 := hB1.cell HH.out.1.h3
  have c4 := hB1.cell HH.out.1.h4
  have z3 := hB1.frozen (ko + 3)
  have z4 := hB1.frozen (ko + 4)
  have hql : (ivs Q)[rr * 2 + 1]? = some (.int .i64 A) := by
    have h1 : rr * 2 + 1 < Q.length := by have := HH.out.1.ql; omega
    rw [ivs_get Q _ h1, HA.out]; simp [List.getD, List.getElem?_eq_getElem h1]
  have cq := hQ1.cell hql
  have zq := hQ1.frozen (rr * 2 + 1)
  have hzc1 := cell_kept hzc hk (by rintro (e | e); exact HG.out.2.2.2.2 e; exact HG.out.2.2.2.1 e)
  clear hzc hql
  clear hi hf hm hB1 hQ1 hk HS
  go_wp2_with fail
  go_quiet (fail)
  go_wp2_with fail
  go_quiet (fail)
  go_wp2_with fail
  go_quiet (fail)
  go_wp2
  go_ret
  refine knP_mk H1.out HH.out.1.sep HH.out.1.blk.lt HH.out.1.q.lt ?_ ?_ ?_
  · exact H1.out.2.2.2.1.drewN _
  · exact H1.out.2.2.2.2.1.drewN _
  · exact (Keeps.refl _ _).drewN _

set_option maxRecDepth 20000 in
set_option maxHeartbeats 1000000 in
theorem moves_3 {w : World} {X : Chn} {mb g : Nat} {xs : List UInt32} {kb ko : Nat} {cells : List Value} {t : TypeId} {a : Option Addr} {nl c held : Nat} {plc : Int} {lk : List Int} {qb : Nat} {Q : List Int} (h : KnW w X mb g xs kb ko cells t a nl c held true plc lk qb Q) (hlkl : lk.length ≤ X.lk.length)
    (r : StepR) (hr : stepP X.lk X.tk X.st xs = r) (hd : r.did = true) (he : r.e = 0) (hh : held < lk.length) (rr : Nat) (hrr : rr < 5) (hz : lk.getD held 0 = 2 * (rr : Int)) (hq : Q.getD (rr * 2 + 1) 0 = plc) (d : Nat) :
    Calls Try.prog 17 #[.pointer (some ⟨mb, 0, none⟩), .pointer (some ⟨kb, ko, none⟩), .slice (some ⟨qb, 0, none⟩) 5 d] w (KnP w X mb g r kb ((cells.set (ko + 3) (.bool false)).set (ko + 2) (.int .i64 ((held + 1 : Nat) : Int))) t qb Q) := by
  have HS := step_any X mb g xs w h.ch h.mm h.sep.2.2.2.1 h.sep.2.2.1
  rw [hr] at HS
  have HS : Hid (Calls _ _ _ _ _) := HS
  have HH : Hid (KnW w X mb g xs kb ko cells t a nl c held true plc lk qb Q ∧ r.did = true ∧ r.e = 0) := ⟨h, hd, he⟩
  have c0 := h.blk.cell h.h0
  have hnl : ¬ held = nl := by have := h.nl; omega
  have hnl1 : ¬ ((held : Int) = nl) := by omega
  have hnl2 : (held : Int) < nl := by have := h.nl; omega
  have hnl3 : held < nl := by omega
  obtain ⟨gl, ol, ha, hzc⟩ := h.seg.at hh
  obtain ⟨Z, hZ⟩ : ∃ Z, Z = lk.getD held 0 := ⟨_, rfl⟩
  rw [← hZ] at hzc hz
  have hdv : IntKind.i64.wrap (Z.tdiv 2) = rr := by rw [IntKind.wrap_i64, hz, Int.mul_tdiv_cancel_left _ (by omega)]; omega
  have hgl := h.segB _ ha (by intro e; rw [e] at hh; simp at hh)
  have HG : Hid (gl ≠ kb ∧ gl ≠ qb ∧ gl ≠ mb ∧ gl ≠ g ∧ ¬ X.F gl) := hgl
  obtain ⟨A, hA⟩ : ∃ A, A = Q.getD (rr * 2 + 1) 0 := ⟨_, rfl⟩
  rw [← hA] at hq
  have HA : Hid (A = Q.getD (rr * 2 + 1) 0) := hA
  have hrr2 : (rr : Int) < 5 := by omega
  have hkq := h.sep.2.2.2.2.1
  subst ha
  subst hq
  have hh1 : IntKind.i64.wrap ((held : Int) + 1) = ((held + 1 : Nat) : Int) := by rw [IntKind.wrap_i64]; have := h.ch.small; have := hlkl; omega
  clear h hd he hh hr hZ hz hgl hA hlkl
  go_enter Try.func17, Try.ntmps17
  go_wp2_with fail
  refine HS.out.mono ?_
  rintro e w1 ⟨rfl, vt, hi, hm, hk, hf⟩
  rw [HH.out.2.1, HH.out.2.2]
  have hB1 : Blk w1 kb cells t := HH.out.1.blk.kept hk (by rintro (e | e); exact HH.out.1.sep.1 e; exact HH.out.1.sep.2.2.2.2.2.2.1 e)
  have hQ1 : Blk w1 qb (ivs Q) 66 := HH.out.1.q.kept hk (by rintro (e | e); exact HH.out.1.sep.2.1 e; exact HH.out.1.sep.2.2.2.2.2.2.2.2 e)
  have H1 : Hid ((X.with vt r.tk r.st).In w1 ∧ (vt.ownBlock = X.vt.ownBlock ∨ ∃ k, vt.ownBlock = some k ∧ w.heap.size ≤ k) ∧ Mm w1 mb g r.xs ∧ Blk w1 kb cells t ∧ Blk w1 qb (ivs Q) 66 ∧ Keeps (fun k => X.F k ∨ k = g) w w1) := ⟨hi, hf, hm, hB1, hQ1, hk⟩
  have c1 := hB1.cell HH.out.1.h1
  have c2 := hB1.cell HH.out.1.h2
  have c3 := hB1.cell HH.out.1.h3
  have c4 := hB1.cell HH.out.1.h4
  have z2 := hB1.frozen (ko + 2)
  have z3 := hB1.frozen (ko + 3)
  have z4 := hB1.frozen (ko + 4)
  have hql : (ivs Q)[rr * 2 + 1]? = some (.int .i64 A) := by
    have h1 : rr * 2 + 1 < Q.length := by have := HH.out.1.ql; omega
    rw [ivs_get Q _ h1, HA.out]; simp [List.getD, List.getElem?_eq_getElem h1]
  have cq := hQ1.cell hql
  have zq := hQ1.frozen (rr * 2 + 1)
  have hzc1 := cell_kept hzc hk (by rintro (e | e); exact HG.out.2.2.2.2 e; exact HG.out.2.2.2.1 e)
  clear hzc hql
  clear hi hf hm hB1 hQ1 hk HS
  go_wp2_with fail
  go_quiet (fail)
  go_wp2_with fail
  go_quiet (fail)
  go_wp2_with fail
  go_quiet (fail)
  go_wp2
  go_ret
  refine knP_mk H1.out HH.out.1.sep HH.out.1.blk.lt HH.out.1.q.lt ?_ ?_ ?_
  · exact ((H1.out.2.2.2.1.drewN _).setCell (ko + 3) _).setCell (ko + 2) _
  · exact ((H1.out.2.2.2.2.1.drewN _).setCell_ne HH.out.1.sep.2.2.2.2.1.symm _).setCell_ne HH.out.1.sep.2.2.2.2.1.symm _
  · exact (((Keeps.refl _ _).drewN _).setCell _ _ fun _ => .inl rfl).setCell _ _ fun _ => .inl rfl

end Go.Proofs.Ytadhldpeklkcmaa
