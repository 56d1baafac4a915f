import Derived.Test.YtekijhhpldnmnaaO
namespace Go.Proofs.Ytekijhhpldnmnaa
open Go.RowKit
set_option linter.unusedVariables false
set_option linter.unusedSimpArgs false

/-- The row that lies there. -/
def rdA (xs : List UInt32) (p : Int) (h : Nat) (n d : Int) : Rw := rd h n.toNat d.toNat (win xs p.toNat (rsz h n d))

/-- A row of its form lies there. -/
structure Lies (xs : List UInt32) (p h n d : Nat) (r : Rw) : Prop where
  n1 : 1 ≤ n
  n2 : n ≤ 16
  d1 : 1 ≤ d
  d2 : d ≤ 8
  fit : p + rsz h n d ≤ xs.length
  ok : r.Ok h n d
  enc : win xs p (rsz h n d) = enc h n d r

theorem fitE_nat {n d : Nat} (h1 : 1 ≤ n) (h2 : n ≤ 16) (h3 : 1 ≤ d) (h4 : d ≤ 8) : fitE false n d = 0 := by
  unfold fitE
  rw [if_neg (by decide), if_neg (by omega)]
theorem rsz_nat (h n d : Nat) : rsz h n d = h + d * (1 + n) := by simp [rsz]

theorem lkE_ok {nil : Bool} {xs : List UInt32} {p : Int} {h : Nat} {n d : Int} (hh : h = 1 ∨ h = 3) (e : lkE nil xs p h n d = 0) :
    nil = false ∧ ∃ p' n' d' : Nat, p = p' ∧ n = n' ∧ d = d' ∧ Lies xs p' h n' d' (rdA xs p h n d) := by
  unfold lkE at e
  by_cases ht : tkE nil xs.length p h n d ≠ 0
  · rw [if_pos ht] at e; exact absurd e ht
  · have ht : tkE nil xs.length p h n d = 0 := Classical.byContradiction ht
    rw [if_neg (fun q => q ht)] at e
    obtain ⟨hf, hn, f1, f2, f3, f4, f5, f6⟩ := tkE_ok ht
    obtain ⟨n', rfl⟩ : ∃ k : Nat, n = k := ⟨n.toNat, by omega⟩
    obtain ⟨d', rfl⟩ : ∃ k : Nat, d = k := ⟨d.toNat, by omega⟩
    obtain ⟨p', rfl⟩ : ∃ k : Nat, p = k := ⟨p.toNat, by omega⟩
    by_cases hr : rightB h (n' : Int).toNat (d' : Int).toNat (win xs (p' : Int).toNat (rsz h n' d')) = true
    · have hl : (win xs (p' : Int).toNat (rsz h n' d')).length = h + (d' : Int).toNat * (1 + (n' : Int).toNat) := by
        rw [win_length _ _ _ (by simp; omega)]; rfl
      exact ⟨hn, p', n', d', rfl, rfl, rfl, by omega, by omega, by omega, by omega, by omega, rd_ok hh hl hr, (enc_rd hh hl (by simp; omega) hr).symm⟩
    · rw [if_neg hr] at e; omega
theorem lkE_lies {xs : List UInt32} {p h n d : Nat} {r : Rw} (hh : h = 1 ∨ h = 3) (l : Lies xs p h n d r) : lkE false xs p h n d = 0 ∧ rdA xs p h n d = r := by
  have hf := fitE_nat l.n1 l.n2 l.d1 l.d2
  have hfit := l.fit
  have ht : tkE false xs.length p h n d = 0 := by
    unfold tkE
    rw [if_neg (fun e => e hf), if_pos ⟨by omega, by omega⟩]
  have hr : rightB h n d (win xs p (rsz h n d)) = true := by rw [l.enc]; exact right_enc hh l.ok l.d2 l.n2
  refine ⟨?_, ?_⟩
  · unfold lkE
    rw [if_neg (fun e => e ht)]
    exact if_pos hr
  · show rd h n d (win xs p (rsz h n d)) = r
    rw [l.enc]; exact rd_enc hh l.ok l.d2 l.n2

theorem look_no (nil : Bool) (b g : Nat) (xs : List UInt32) (p : Int) (h : Nat) (n d : Int) (w : World) (hm : nil = false → Mm w b g xs) (hh : h = 1 ∨ h = 3) (hp : p ≤ 9223372036854775807) (he : lkE nil xs p h n d ≠ 0) :
    Calls Try.prog 39 #[mpv nil b, .int .i64 p, .int .i64 h, .int .i64 n, .int .i64 d] w fun e w' => e = .returned (.tuple #[rw0, .int .i64 (lkE nil xs p h n d)]) ∧ Keeps (fun _ => False) w w' := by
  unfold lkE at *
  by_cases ht : tkE nil xs.length p h n d ≠ 0
  · rw [if_pos ht]
    exact look_away nil b g xs p h n d w hm (by omega) hp ht
  · have ht : tkE nil xs.length p h n d = 0 := Classical.byContradiction ht
    rw [if_neg (fun q => q ht)] at he ⊢
    obtain ⟨hf, rfl, f1, f2, f3, f4, f5, f6⟩ := tkE_ok ht
    obtain ⟨n', rfl⟩ : ∃ k : Nat, n = k := ⟨n.toNat, by omega⟩
    obtain ⟨d', rfl⟩ : ∃ k : Nat, d = k := ⟨d.toNat, by omega⟩
    obtain ⟨p', rfl⟩ : ∃ k : Nat, p = k := ⟨p.toNat, by omega⟩
    by_cases hr : rightB h (n' : Int).toNat (d' : Int).toNat (win xs (p' : Int).toNat (rsz h n' d')) = true
    · rw [if_pos hr] at he; exact absurd rfl he
    · rw [if_neg hr]
      refine (look_in b g xs p' h n' d' w (hm rfl) hh hf (by omega)).mono ?_
      rintro e w' (⟨h1, _⟩ | ⟨_, h2, h3⟩)
      · exact absurd h1 hr
      · exact ⟨h2, h3⟩
theorem look_yes (b g : Nat) (xs : List UInt32) (p h n d : Nat) (r : Rw) (w : World) (hm : Mm w b g xs) (hh : h = 1 ∨ h = 3) (l : Lies xs p h n d r) :
    Calls Try.prog 39 #[.pointer (some ⟨b, 0, none⟩), .int .i64 p, .int .i64 h, .int .i64 n, .int .i64 d] w fun e w' => ∃ G, w.heap.size ≤ G ∧ e = .returned (.tuple #[rwv p h n d G (rsz h n d), .int .i64 0]) ∧ Rb w' G h n d (enc h n d r) ∧ Keeps (fun _ => False) w w' := by
  refine (look_in b g xs p h n d w hm hh (fitE_nat l.n1 l.n2 l.d1 l.d2) l.fit).mono ?_
  rw [l.enc]
  rintro e w' (⟨_, h1⟩ | ⟨h2, _⟩)
  · exact h1
  · rw [right_enc hh l.ok l.d2 l.n2] at h2; cases h2

/-- A row is laid back. -/
theorem rlay_any (b g : Nat) (xs : List UInt32) (p h n d G N : Nat) (l : List UInt32) (w : World) (hm : Mm w b g xs) (hB : Blk w G (wvs l) 52) (hN : N = l.length) (hf : p + N ≤ xs.length) :
    Calls Try.prog 43 #[rwv p h n d G N, .pointer (some ⟨b, 0, none⟩)] w fun e w' => e = .returned (.int .i64 0) ∧ Mm w' b g (lay xs p l) ∧ Keeps (· = g) w w' := by
  obtain ⟨W, hW, hK, hB0⟩ := row_new w p h n d G N
  have HC := lay_in b g xs p (some ⟨G, 0, none⟩) N l W (hm.kept hK (fun e => e) (fun e => e)) (segW_of_blk (hB.kept hK fun e => e)) (by omega)
  rw [← hN] at HC
  have HC : Hid (Calls _ _ _ _ _) := HC
  have HW : Hid (W = _ ∧ Keeps (fun _ => False) w W) := ⟨hW, hK⟩
  clear hW hK hB0 hm hB hN hf
  go_enter Try.func43, Try.ntmps43
  go_wp2_with fail
  rw [← HW.out.1]
  refine HC.out.mono ?_
  rintro e w1 ⟨rfl, h1, h2⟩
  have H1 : Hid (Mm _ _ _ _ ∧ Keeps _ _ _) := ⟨h1, h2⟩
  clear h1 h2 HC
  go_wp2
  go_ret
  exact ⟨rfl, H1.out.1, (HW.out.2.mono fun _ _ e => e.elim).trans H1.out.2 fun _ _ e => e⟩

theorem done_ok (w : World) : Calls Try.prog 42 #[.int .i64 0] w fun e w' => e = .returned (.tuple #[.bool true, .int .i64 0]) ∧ w' = w := by
  go_enter Try.func42, Try.ntmps42
  go_wp2
  go_ret2
  exact ⟨rfl, rfl⟩

end Go.Proofs.Ytekijhhpldnmnaa
