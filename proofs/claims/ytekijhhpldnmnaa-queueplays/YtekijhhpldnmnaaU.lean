import Derived.Test.YtekijhhpldnmnaaWe
namespace Go.Proofs.Ytekijhhpldnmnaa
open Go.RowKit
set_option linter.unusedVariables false
set_option linter.unusedSimpArgs false

/-! ### The calls as functions of the words -/
def ptE (nil : Bool) (xs : List UInt32) (p n d : Int) (k : Nat) : Int :=
  if fitE nil n d ≠ 0 then fitE nil n d else if k < 1 ∨ n < (k : Int) then 200 else lkE nil xs p 1 n d
def ptB (nil : Bool) (xs : List UInt32) (p n d : Int) (k : Nat) : Bool := decide (ptE nil xs p n d k = 0) && !decide ((rdA xs p 1 n d).ms.length = d.toNat)
def ptX (nil : Bool) (xs : List UInt32) (p n d : Int) (m : List UInt32) : List UInt32 :=
  if ptB nil xs p n d m.length = true then lay xs p.toNat (enc 1 n.toNat d.toNat ((rdA xs p 1 n d).push m)) else xs
def stN (nil : Bool) (xs : List UInt32) (p : Int) (h : Nat) (n d : Int) : Nat := if lkE nil xs p h n d = 0 then (rdA xs p h n d).ms.length else 0
def loN (nil : Bool) (xs : List UInt32) (p n d : Int) : UInt32 := if lkE nil xs p 3 n d = 0 then (rdA xs p 3 n d).lost else 0
def hdB (nil : Bool) (xs : List UInt32) (p n d : Int) : Bool := decide (lkE nil xs p 3 n d = 0) && !(rdA xs p 3 n d).ms.isEmpty
def hdM (nil : Bool) (xs : List UInt32) (p n d : Int) : List UInt32 := if hdB nil xs p n d = true then (rdA xs p 3 n d).ms.headD [] else []
def tkX (nil : Bool) (xs : List UInt32) (p n d : Int) : List UInt32 :=
  if hdB nil xs p n d = true then lay xs p.toNat (enc 3 n.toNat d.toNat ((rdA xs p 3 n d).pop d.toNat)) else xs

section
variable (nil : Bool) (b g : Nat) (xs : List UInt32) (p n d : Int) (w : World) (hm : Mm w b g xs) (hp : p ≤ 9223372036854775807)
include hm hp

theorem put_any (a : Option Addr) (c : Nat) (m : List UInt32) (hs : SegW w a m) :
    Calls Try.prog 16 #[mpv nil b, .int .i64 p, .int .i64 n, .int .i64 d, .slice a m.length c] w fun e w' => e = .returned (.tuple #[.bool (ptB nil xs p n d m.length), .int .i64 (ptE nil xs p n d m.length)]) ∧ Mm w' b g (ptX nil xs p n d m) ∧ Keeps (· = g) w w' := by
  have hno : ∀ E : Int, ptE nil xs p n d m.length = E → E ≠ 0 → ptB nil xs p n d m.length = false ∧ ptX nil xs p n d m = xs := fun E h1 h2 => by
    have h3 : ptB nil xs p n d m.length = false := by unfold ptB; rw [h1, decide_eq_false h2]; rfl
    exact ⟨h3, by unfold ptX; rw [h3, if_neg (by decide)]⟩
  by_cases hf : fitE nil n d ≠ 0
  · have hE : ptE nil xs p n d m.length = fitE nil n d := by unfold ptE; rw [if_pos hf]
    obtain ⟨h1, h2⟩ := hno _ hE hf
    rw [hE, h1, h2]
    refine (put_fit nil b p n d _ w hf).mono ?_
    rintro e w' ⟨rfl, rfl⟩
    exact ⟨rfl, hm, Keeps.refl _ _⟩
  · have hf : fitE nil n d = 0 := Classical.byContradiction hf
    obtain ⟨rfl, f1, f2, f3, f4⟩ := fit_ok hf
    by_cases hk : m.length < 1 ∨ n < (m.length : Int)
    · have hE : ptE false xs p n d m.length = 200 := by unfold ptE; rw [if_neg (fun e => e hf), if_pos hk]
      obtain ⟨h1, h2⟩ := hno _ hE (by decide)
      rw [hE, h1, h2]
      refine (put_words b p n d a m.length c w hf hk).mono ?_
      rintro e w' ⟨rfl, rfl⟩
      exact ⟨rfl, hm, Keeps.refl _ _⟩
    · have hE : ptE false xs p n d m.length = lkE false xs p 1 n d := by unfold ptE; rw [if_neg (fun e => e hf), if_neg hk]
      by_cases hl : lkE false xs p 1 n d = 0
      · obtain ⟨_, p', n', d', rfl, rfl, rfl, L⟩ := lkE_ok (.inl rfl) hl
        obtain ⟨b0, o0, rfl⟩ : ∃ b0 o0, a = some ⟨b0, o0, none⟩ := by
          rcases hs with h | ⟨g, o, h, _⟩
          · rw [h] at hk; simp at hk
          · exact ⟨g, o, h⟩
        rw [hl] at hE
        by_cases hd : (rdA xs p' 1 n' d').ms.length = d'
        · have hB : ptB false xs p' n' d' m.length = false := by
            unfold ptB; rw [decide_eq_true hE, decide_eq_true (show (rdA xs p' 1 n' d').ms.length = (d' : Int).toNat from hd)]; rfl
          have hX : ptX false xs p' n' d' m = xs := by unfold ptX; rw [hB, if_neg (by decide)]
          rw [hE, hB, hX]
          refine (put_full b g xs p' n' d' _ _ m.length c w hm L (by omega) (by omega) hd).mono ?_
          rintro e w' ⟨rfl, k⟩
          exact ⟨rfl, hm.kept k (fun e => e) (fun e => e), k.mono fun _ _ e => e.elim⟩
        · have hB : ptB false xs p' n' d' m.length = true := by
            unfold ptB; rw [decide_eq_true hE, decide_eq_false (show ¬ (rdA xs p' 1 n' d').ms.length = (d' : Int).toNat from hd)]; rfl
          have hX : ptX false xs p' n' d' m = lay xs p' (enc 1 n' d' ((rdA xs p' 1 n' d').push m)) := by unfold ptX; rw [hB, if_pos rfl]; rfl
          rw [hE, hB, hX]
          exact put_some b g xs p' n' d' _ b0 o0 c m w hm L hs (by omega) (by omega) hd
      · obtain ⟨h1, h2⟩ := hno _ hE hl
        rw [hE, h1, h2]
        refine (put_no b g xs p n d a m.length c w hm hp hf (by omega) (by omega) hl).mono ?_
        rintro e w' ⟨rfl, k⟩
        exact ⟨rfl, hm.kept k (fun e => e) (fun e => e), k.mono fun _ _ e => e.elim⟩

theorem staged_any :
    Calls Try.prog 21 #[mpv nil b, .int .i64 p, .int .i64 n, .int .i64 d] w fun e w' => e = .returned (.tuple #[.int .i64 (stN nil xs p 1 n d), .int .i64 (lkE nil xs p 1 n d)]) ∧ Keeps (fun _ => False) w w' := by
  by_cases hl : lkE nil xs p 1 n d = 0
  · have hN : stN nil xs p 1 n d = (rdA xs p 1 n d).ms.length := if_pos hl
    rw [hN, hl]
    obtain ⟨rfl, p', n', d', rfl, rfl, rfl, L⟩ := lkE_ok (.inl rfl) hl
    exact staged_yes b g xs p' n' d' _ w hm L
  · have hN : stN nil xs p 1 n d = 0 := if_neg hl
    rw [hN]
    exact staged_no nil b g xs p n d w (fun _ => hm) hp hl

theorem count3_any :
    Calls Try.prog 20 #[mpv nil b, .int .i64 p, .int .i64 n, .int .i64 d] w fun e w' => e = .returned (.tuple #[.int .i64 (stN nil xs p 3 n d), .int .u32 ((loN nil xs p n d).toNat : Nat), .int .i64 (lkE nil xs p 3 n d)]) ∧ Keeps (fun _ => False) w w' := by
  by_cases hl : lkE nil xs p 3 n d = 0
  · have hN : stN nil xs p 3 n d = (rdA xs p 3 n d).ms.length := if_pos hl
    have hO : loN nil xs p n d = (rdA xs p 3 n d).lost := if_pos hl
    rw [hN, hO, hl]
    obtain ⟨rfl, p', n', d', rfl, rfl, rfl, L⟩ := lkE_ok (.inr rfl) hl
    exact count_yes b g xs p' n' d' _ w hm L
  · have hN : stN nil xs p 3 n d = 0 := if_neg hl
    have hO : loN nil xs p n d = 0 := if_neg hl
    rw [hN, hO]
    exact count_no nil b g xs p n d w (fun _ => hm) hp hl

/-- What Look tells: nothing, or a message in a block of its own. -/
def LookP (w : World) (m : List UInt32) (B : Bool) (E : Int) (e : Ending) (w' : World) : Prop :=
  ∃ a, e = .returned (.tuple #[.slice a m.length m.length, .bool B, .int .i64 E]) ∧ ((a = none ∧ m = []) ∨ ∃ G, w.heap.size ≤ G ∧ a = some ⟨G, 0, none⟩ ∧ Blk w' G (wvs m) 52) ∧ Keeps (fun _ => False) w w'

theorem look3_any :
    Calls Try.prog 18 #[mpv nil b, .int .i64 p, .int .i64 n, .int .i64 d] w fun e w' => LookP w (hdM nil xs p n d) (hdB nil xs p n d) (lkE nil xs p 3 n d) e w' := by
  by_cases hl : lkE nil xs p 3 n d = 0
  · obtain ⟨rfl, p', n', d', rfl, rfl, rfl, L⟩ := lkE_ok (.inr rfl) hl
    cases hms : (rdA xs p' 3 n' d').ms with
    | nil =>
      have hB : hdB false xs p' n' d' = false := by unfold hdB; rw [hms]; simp
      have hM : hdM false xs p' n' d' = [] := by unfold hdM; rw [hB]; rfl
      rw [hB, hM, hl]
      refine (look3_none b g xs p' n' d' _ w hm L hms).mono ?_
      rintro e w' ⟨rfl, k⟩
      exact ⟨none, rfl, .inl ⟨rfl, rfl⟩, k⟩
    | cons m t =>
      have hB : hdB false xs p' n' d' = true := by unfold hdB; rw [hms, hl]; simp
      have hM : hdM false xs p' n' d' = m := by unfold hdM; rw [hB, hms]; rfl
      rw [hB, hM, hl]
      refine (look3_some b g xs p' n' d' _ w hm L m t hms).mono ?_
      rintro e w' ⟨G, h1, rfl, h2, k⟩
      exact ⟨_, rfl, .inr ⟨G, h1, rfl, h2⟩, k⟩
  · have hB : hdB nil xs p n d = false := by unfold hdB; rw [decide_eq_false hl]; rfl
    have hM : hdM nil xs p n d = [] := by unfold hdM; rw [hB]; rfl
    rw [hB, hM]
    refine (look3_no nil b g xs p n d w (fun _ => hm) hp hl).mono ?_
    rintro e w' ⟨rfl, k⟩
    exact ⟨none, rfl, .inl ⟨rfl, rfl⟩, k⟩

theorem tak_any :
    Calls Try.prog 19 #[mpv nil b, .int .i64 p, .int .i64 n, .int .i64 d] w fun e w' => e = .returned (.tuple #[.bool (hdB nil xs p n d), .int .i64 (lkE nil xs p 3 n d)]) ∧ Mm w' b g (tkX nil xs p n d) ∧ Keeps (· = g) w w' := by
  by_cases hl : lkE nil xs p 3 n d = 0
  · obtain ⟨rfl, p', n', d', rfl, rfl, rfl, L⟩ := lkE_ok (.inr rfl) hl
    by_cases hms : (rdA xs p' 3 n' d').ms = []
    · have hB : hdB false xs p' n' d' = false := by unfold hdB; rw [hms]; simp
      have hX : tkX false xs p' n' d' = xs := by unfold tkX; rw [hB]; rfl
      rw [hB, hX, hl]
      refine (tak_none b g xs p' n' d' _ w hm L hms).mono ?_
      rintro e w' ⟨rfl, k⟩
      exact ⟨rfl, hm.kept k (fun e => e) (fun e => e), k.mono fun _ _ e => e.elim⟩
    · have hB : hdB false xs p' n' d' = true := by
        unfold hdB; rw [hl]
        cases hx : (rdA xs p' 3 n' d').ms with
        | nil => exact absurd hx hms
        | cons m t => simp
      have hX : tkX false xs p' n' d' = lay xs p' (enc 3 n' d' ((rdA xs p' 3 n' d').pop d')) := by unfold tkX; rw [hB]; rfl
      rw [hB, hX, hl]
      exact tak_some b g xs p' n' d' _ w hm L hms
  · have hB : hdB nil xs p n d = false := by unfold hdB; rw [decide_eq_false hl]; rfl
    have hX : tkX nil xs p n d = xs := by unfold tkX; rw [hB]; rfl
    rw [hB, hX]
    refine (tak_no nil b g xs p n d w (fun _ => hm) hp hl).mono ?_
    rintro e w' ⟨rfl, k⟩
    exact ⟨rfl, hm.kept k (fun e => e) (fun e => e), k.mono fun _ _ e => e.elim⟩

def dlF (nil : Bool) (xs : List UInt32) (p n d : Int) (ports : List Int) : List UInt32 := if dlE nil xs p n d ports = 0 then dlX xs p n d ports else xs

theorem deliver_any (a : Option Addr) (c : Nat) (ports : List Int) (hs : SegI w a ports) (hpp : ∀ q ∈ ports, q ≤ 9223372036854775807) :
    Calls Try.prog 17 #[mpv nil b, .int .i64 p, .int .i64 n, .int .i64 d, .slice a ports.length c] w fun e w' => e = .returned (.int .i64 (dlE nil xs p n d ports)) ∧ Mm w' b g (dlF nil xs p n d ports) ∧ Keeps (· = g) w w' := by
  have hno : ∀ E : Int, dlE nil xs p n d ports = E → E ≠ 0 → dlF nil xs p n d ports = xs := fun E h1 h2 => by unfold dlF; rw [if_neg (by rw [h1]; exact h2)]
  have hsame : ∀ (E : Int) (e : Ending) (w' : World), e = .returned (.int .i64 E) ∧ Keeps (fun _ => False) w w' → e = .returned (.int .i64 E) ∧ Mm w' b g xs ∧ Keeps (· = g) w w' := fun E e w' ⟨h1, k⟩ => ⟨h1, hm.kept k (fun e => e) (fun e => e), k.mono fun _ _ e => e.elim⟩
  by_cases hf : fitE nil n d ≠ 0
  · have hE : dlE nil xs p n d ports = fitE nil n d := by unfold dlE; rw [if_pos hf]
    rw [hno _ hE hf, hE]
    refine (deliver_fit nil b p n d _ w hf).mono ?_
    rintro e w' ⟨rfl, rfl⟩
    exact ⟨rfl, hm, Keeps.refl _ _⟩
  · have hf : fitE nil n d = 0 := Classical.byContradiction hf
    have hf' := hf
    obtain ⟨rfl, f1, f2, f3, f4⟩ := fit_ok hf
    have hE0 : dlE false xs p n d ports = if 4 < ports.length then 2 else if inM xs 1 n d p = false then 51 else if ports.all (inM xs 3 n d) = false then 51 else if rtM xs 1 n d p = false then 201 else if ports.all (rtM xs 3 n d) = false then 201 else 0 := by
      unfold dlE; rw [if_neg (fun e => e hf)]
    by_cases hk : 4 < ports.length
    · have hE : dlE false xs p n d ports = 2 := by rw [hE0, if_pos hk]
      rw [hno _ hE (by decide), hE]
      refine (deliver_long b p n d a ports.length c w hf hk).mono ?_
      rintro e w' ⟨rfl, rfl⟩
      exact ⟨rfl, hm, Keeps.refl _ _⟩
    · rw [if_neg hk] at hE0
      obtain ⟨n', rfl⟩ : ∃ k : Nat, n = k := ⟨n.toNat, by omega⟩
      obtain ⟨d', rfl⟩ : ∃ k : Nat, d = k := ⟨d.toNat, by omega⟩
      by_cases hi : 0 ≤ p ∧ p + (rsz 1 n' d' : Int) ≤ xs.length
      · have hiB : inM xs 1 n' d' p = true := decide_eq_true hi
        rw [hiB, if_neg (by decide)] at hE0
        obtain ⟨p', rfl⟩ : ∃ k : Nat, p = k := ⟨p.toNat, by omega⟩
        by_cases hn : ∀ q ∈ ports, 0 ≤ q ∧ q + (rsz 3 n' d' : Int) ≤ xs.length
        · have hnB : ports.all (inM xs 3 n' d') = true := List.all_eq_true.2 fun q hq => decide_eq_true (hn q hq)
          rw [hnB, if_neg (by decide)] at hE0
          by_cases hr : rightB 1 n' d' (win xs p' (rsz 1 n' d')) = true
          · have hrB : rtM xs 1 n' d' p' = true := hr
            rw [hrB, if_neg (by decide)] at hE0
            by_cases hr3 : ∀ q ∈ ports, rightB 3 n' d' (win xs q.toNat (rsz 3 n' d')) = true
            · have hr3B : ports.all (rtM xs 3 n' d') = true := List.all_eq_true.2 fun q hq => hr3 q hq
              rw [hr3B, if_neg (by decide)] at hE0
              have hF : dlF false xs p' n' d' ports = dlX xs p' n' d' ports := by unfold dlF; rw [if_pos hE0]
              rw [hE0, hF]
              exact deliver_done b g xs p' n' d' a c ports w hm hf (by omega) (by omega) hs hpp hn hr hr3
            · have hr3B : ports.all (rtM xs 3 n' d') = false := by
                cases hx : ports.all (rtM xs 3 n' d') with
                | false => rfl
                | true => exact absurd (fun q hq => List.all_eq_true.1 hx q hq) hr3
              rw [hr3B, if_pos rfl] at hE0
              rw [hno _ hE0 (by decide), hE0]
              exact (deliver_odds b g xs p' n' d' a c ports w hm hf (by omega) (by omega) hs hpp hn hr hr3).mono (hsame _)
          · have hrF : rightB 1 n' d' (win xs p' (rsz 1 n' d')) = false := by simpa using hr
            have hrB : rtM xs 1 n' d' p' = false := hrF
            rw [hrB, if_pos rfl] at hE0
            rw [hno _ hE0 (by decide), hE0]
            exact (deliver_odd b g xs p' n' d' a c ports w hm hf (by omega) (by omega) hs hpp hn hrF).mono (hsame _)
        · have hnB : ports.all (inM xs 3 n' d') = false := by
            cases hx : ports.all (inM xs 3 n' d') with
            | false => rfl
            | true => exact absurd (fun q hq => of_decide_eq_true (List.all_eq_true.1 hx q hq)) hn
          rw [hnB, if_pos rfl] at hE0
          rw [hno _ hE0 (by decide), hE0]
          exact (deliver_ports b g xs p' n' d' a c ports w hm hf (by omega) (by omega) hs hpp hn).mono (hsame _)
      · have hiB : inM xs 1 n' d' p = false := decide_eq_false hi
        rw [hiB, if_pos rfl] at hE0
        rw [hno _ hE0 (by decide), hE0]
        exact (deliver_stage b g xs p n' d' a ports.length c w hm hp hf hk hi).mono (hsame _)
end

end Go.Proofs.Ytekijhhpldnmnaa
