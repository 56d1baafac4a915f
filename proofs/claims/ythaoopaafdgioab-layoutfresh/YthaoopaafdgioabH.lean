import Derived.Test.YthaoopaafdgioabE
import Derived.Test.YthaoopaafdgioabG
namespace Go.Proofs.Ythaoopaafdgioab
open Go.RowKit
set_option linter.unusedVariables false
set_option maxRecDepth 6000

theorem Rgn.inB_no {p q fr t : Int} (h : ¬ (0 ≤ p ∧ 1 ≤ q ∧ q ≤ 256 ∧ p ≤ 256 - q)) : Hid (Rgn.inB ⟨p, q, fr, t⟩ = false) := by
  show Rgn.inB ⟨p, q, fr, t⟩ = false
  rw [Bool.eq_false_iff, Ne, Rgn.inB_iff]; exact h
theorem Rgn.inB_yes {p q fr t : Int} (h : (0 ≤ p ∧ 1 ≤ q ∧ q ≤ 256 ∧ p ≤ 256 - q)) : Hid (Rgn.inB ⟨p, q, fr, t⟩ = true) := by
  show Rgn.inB ⟨p, q, fr, t⟩ = true
  rw [Rgn.inB_iff]; exact h
set_option maxHeartbeats 1000000 in
theorem inSpace_any (r : Rgn) (hr : r.Fine) (w : World) : Calls Try.prog 47 #[r.v] w fun e w' => e = .returned (.bool r.inB) ∧ Keeps (fun _ => False) w w' := by
  obtain ⟨p, q, fr, t⟩ := r
  have hf := hr
  unfold Rgn.Fine at hf
  dsimp only at hf
  go_enter Try.func47, Try.ntmps47
  by_cases h1 : 0 ≤ p
  · have e1 : decide (0 ≤ p) = true := by simp [h1]
    by_cases h2 : 1 ≤ q
    · have e2 : decide (1 ≤ q) = true := by simp [h2]
      by_cases h3 : q ≤ 256
      · have e3 : decide (q ≤ 256) = true := by simp [h3]
        have q1 : IntKind.i64.wrap (256 - q) = 256 - q := by rw [IntKind.wrap_i64]; omega
        by_cases h4 : p ≤ 256 - q
        · have e4 : decide (p ≤ 256 - q) = true := by simp [h4]
          have HS := Rgn.inB_yes (p := p) (q := q) (fr := fr) (t := t) (by omega)
          go_wp2
          go_ret
          exact ⟨by rw [HS.out]; rfl, (Keeps.refl _ _).alloc _⟩
        · have e4 : decide (p ≤ 256 - q) = false := by simp [h4]
          have HS := Rgn.inB_no (p := p) (q := q) (fr := fr) (t := t) (by omega)
          go_wp2
          go_ret
          exact ⟨by rw [HS.out]; rfl, (Keeps.refl _ _).alloc _⟩
      · have e3 : decide (q ≤ 256) = false := by simp [h3]
        have HS := Rgn.inB_no (p := p) (q := q) (fr := fr) (t := t) (by omega)
        go_wp2
        go_ret
        exact ⟨by rw [HS.out]; rfl, (Keeps.refl _ _).alloc _⟩
    · have e2 : decide (1 ≤ q) = false := by simp [h2]
      have HS := Rgn.inB_no (p := p) (q := q) (fr := fr) (t := t) (by omega)
      go_wp2
      go_ret
      exact ⟨by rw [HS.out]; rfl, (Keeps.refl _ _).alloc _⟩
  · have e1 : decide (0 ≤ p) = false := by simp [h1]
    have HS := Rgn.inB_no (p := p) (q := q) (fr := fr) (t := t) (by omega)
    go_wp2
    go_ret
    exact ⟨by rw [HS.out]; rfl, (Keeps.refl _ _).alloc _⟩

/-- A channel that may be laid out. -/
def Chn.whole (h : Chn) : Bool := h.sized && (h.kind == 2 || h.depth == 0)
set_option maxHeartbeats 1000000 in
theorem whole_any (h : Chn) (w : World) : Calls Try.prog 35 #[h.v] w fun e w' => e = .returned (.bool h.whole) ∧ Keeps (fun _ => False) w w' := by
  obtain ⟨W, hW⟩ : ∃ W, W = w.alloc (.cells #[.int .i64 h.kind, .int .i64 h.words, .int .i64 h.depth] 91) := ⟨_, rfl⟩
  obtain ⟨C, hC⟩ : ∃ C, C = w.heap.size := ⟨_, rfl⟩
  have HW : Hid (Keeps (fun _ => False) w W ∧ Blk W C [.int .i64 h.kind, .int .i64 h.words, .int .i64 h.depth] 91) := by rw [hW, hC]; exact ⟨(Keeps.refl _ _).alloc _, Blk.new _ _ _⟩
  obtain ⟨b, hb⟩ : ∃ b, h.sized = b := ⟨_, rfl⟩
  have HB : Hid (h.sized = b) := hb
  clear hb
  go_enter Try.func35, Try.ntmps35
  go_wp2_with fail
  rw [← hW, ← hC]
  refine (sized_any h W).mono ?_
  rintro e w1 ⟨rfl, hK⟩
  rw [HB.out]
  have HK : Hid (Keeps (fun _ => False) w w1 ∧ Blk w1 C [.int .i64 h.kind, .int .i64 h.words, .int .i64 h.depth] 91) := ⟨HW.out.1.trans hK fun _ _ h => h, HW.out.2.kept hK fun h => h⟩
  have c0 := HK.out.2.cell (i := 0) rfl
  have c2 := HK.out.2.cell (i := 2) rfl
  clear hK hW hC
  cases b with
  | false =>
    have HE : Hid (h.whole = false) := by show _ = _; unfold Chn.whole; rw [HB.out]; rfl
    go_wp2
    go_ret
    exact ⟨by rw [HE.out]; rfl, HK.out.1⟩
  | true =>
    by_cases h2 : h.kind = 2
    · have HE : Hid (h.whole = true) := by show _ = _; unfold Chn.whole; rw [HB.out]; simp [h2]
      have e2 : (h.kind == 2) = true := by simp [h2]
      clear h2
      go_wp2
      go_ret
      exact ⟨by rw [HE.out]; rfl, HK.out.1⟩
    · have e2 : (h.kind == 2) = false := by simp [h2]
      by_cases h3 : h.depth = 0
      · have HE : Hid (h.whole = true) := by show _ = _; unfold Chn.whole; rw [HB.out]; simp [h3]
        have e3 : (h.depth == 0) = true := by simp [h3]
        clear h3
        go_wp2
        go_ret
        exact ⟨by rw [HE.out]; rfl, HK.out.1⟩
      · have HE : Hid (h.whole = false) := by show _ = _; unfold Chn.whole; rw [HB.out]; simp [h2, h3]
        have e3 : (h.depth == 0) = false := by simp [h3]
        go_wp2
        go_ret
        exact ⟨by rw [HE.out]; rfl, HK.out.1⟩

theorem Two.slices {w : World} {lo : Nat} {u v : Value} {a b : List Dst} (h : Two w lo u v a b) :
    ∃ ad cp bd cq, u = .slice ad a.length cp ∧ v = .slice bd b.length cq ∧ Lst eDst w lo ad cp a ∧ Lst eDst w lo bd cq b := by
  obtain ⟨ad, cp, h1, h2⟩ := h.ra.lst
  obtain ⟨bd, cq, h3, h4⟩ := h.rb.lst
  exact ⟨ad, cp, bd, cq, h1, h3, h2, h4⟩
/-- A channel has one source, and one to four destinations. -/
def joined (n : Int) (ps : List Par) : Bool := decide ((endsL true n ps ps.length).length = 1) && decide (1 ≤ (endsL false n ps ps.length).length) && decide ((endsL false n ps ps.length).length ≤ 4)

set_option maxHeartbeats 1000000 in
theorem isJoined_any (x : Cfg) (n : Int) (w : World) (N : Nat) (hi : x.In w N) (hN : N ≤ w.heap.size) (hm : x.ps.length ≤ 8 ∧ ∀ P ∈ x.ps, P.ps.length ≤ 8) :
    Calls Try.prog 36 #[x.v, .int .i64 n] w fun e w' => e = .returned (.bool (joined n x.ps)) ∧ Keeps (fun _ => False) w w' := by
  have HC : Hid (∀ w, x.In w N → N ≤ w.heap.size → Calls Try.prog 49 #[x.v, .int .i64 n] w (EndsP w n x.ps)) := fun w hi hN => ends_any x n w N hi hN hm
  obtain ⟨W, hW⟩ : ∃ W, W = x.laid w := ⟨_, rfl⟩
  obtain ⟨C, hC⟩ : ∃ C, C = w.heap.size := ⟨_, rfl⟩
  have HO : Hid (One w x C N W) := by rw [hW, hC]; exact One.mk' hi hN
  clear hi hN hm
  unfold Cfg.laid at hW
  go_enter Try.func36, Try.ntmps36
  go_wp2_with fail
  rw [← hW, ← hC]
  clear hW hC
  refine (HC.out W HO.out.cin HO.out.nn).mono ?_
  rintro e w1 ⟨u, v, rfl, hT, hK⟩
  obtain ⟨ad, cp, bd, cq, rfl, rfl, ha, hb⟩ := hT.slices
  have HK : Hid (Keeps (fun _ => False) w w1) := HO.out.keeps.trans hK fun _ _ h => h
  obtain ⟨A, hA⟩ : ∃ A, (endsL true n x.ps x.ps.length).length = A := ⟨_, rfl⟩
  obtain ⟨B, hB⟩ : ∃ B, (endsL false n x.ps x.ps.length).length = B := ⟨_, rfl⟩
  have HJ : Hid (joined n x.ps = (decide (A = 1) && decide (1 ≤ B) && decide (B ≤ 4))) := by show _ = _; unfold joined; rw [hA, hB]
  rw [hA, hB]
  clear hA hB ha hb hT hK HC HO
  by_cases h1 : A = 1
  · subst h1
    by_cases h2 : 1 ≤ B
    · have e2 : decide (1 ≤ (B : Int)) = true := by simp; omega
      by_cases h3 : B ≤ 4
      · have e3 : decide ((B : Int) ≤ 4) = true := by simp; omega
        have HJ2 : Hid (joined n x.ps = true) := by show _ = _; rw [HJ.out]; simp [h2, h3]
        go_wp2
        go_ret
        exact ⟨by rw [HJ2.out]; rfl, HK.out⟩
      · have e3 : decide ((B : Int) ≤ 4) = false := by simp; omega
        have HJ2 : Hid (joined n x.ps = false) := by show _ = _; rw [HJ.out]; simp [h3]
        go_wp2
        go_ret
        exact ⟨by rw [HJ2.out]; rfl, HK.out⟩
    · have e2 : decide (1 ≤ (B : Int)) = false := by simp; omega
      have HJ2 : Hid (joined n x.ps = false) := by show _ = _; rw [HJ.out]; simp [h2]
      go_wp2
      go_ret
      exact ⟨by rw [HJ2.out]; rfl, HK.out⟩
  · have e1 : ((A : Int) == 1) = false := by simp; omega
    have HJ2 : Hid (joined n x.ps = false) := by show _ = _; rw [HJ.out]; simp [h1]
    go_wp2
    go_ret
    exact ⟨by rw [HJ2.out]; rfl, HK.out⟩
end Go.Proofs.Ythaoopaafdgioab
