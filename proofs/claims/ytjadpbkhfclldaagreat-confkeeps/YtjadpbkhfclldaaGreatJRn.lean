import Derived.Test.YtjadpbkhfclldaaGreatJRb
namespace Go.Proofs.YtjadpbkhfclldaaGreat
open Go.RowKit
set_option linter.unusedVariables false

theorem highN_lowB (k N : Nat) : highN (lowB k N) = N % 256 ^ k := by
  induction k with
  | zero => simp [lowB, highN, Nat.mod_one]
  | succ k ih =>
    have e : (UInt8.ofNat (N / 256 ^ k)).toNat = N / 256 ^ k % 256 := UInt8.toNat_ofNat'
    have d : N % (256 ^ k * 256) = N % 256 ^ k + 256 ^ k * (N / 256 ^ k % 256) := Nat.mod_mul
    rw [lowB_succ, highN_snoc, lowB_length, ih, e, Nat.pow_succ, d, Nat.mul_comm (256 ^ k)]
theorem highN_inj : ∀ (xs ys : List UInt8), xs.length = ys.length → highN xs = highN ys → xs = ys
  | [], [], _, _ => rfl
  | x :: xs, y :: ys, hl, h => by
    simp only [highN] at h
    have hx := x.toNat_lt
    have hy := y.toNat_lt
    have h1 : x.toNat = y.toNat := by omega
    have h2 : highN xs = highN ys := by omega
    rw [UInt8.toNat_inj.1 h1, highN_inj xs ys (by simpa using hl) h2]
theorem lowB_highN (xs : List UInt8) : lowB xs.length (highN xs) = xs :=
  highN_inj _ _ (lowB_len _ _) (by rw [highN_lowB, Nat.mod_eq_of_lt (highN_lt xs)])

/-- These bytes stand at p. -/
def Std (B : List UInt8) (p : Nat) (E : List UInt8) : Prop := p + E.length ≤ B.length ∧ (B.drop p).take E.length = E
theorem std_nil (B : List UInt8) (p : Nat) (h : p ≤ B.length) : Std B p [] := ⟨by simpa using h, by simp⟩
theorem std_app {B E F : List UInt8} {p : Nat} : Std B p (E ++ F) ↔ Std B p E ∧ Std B (p + E.length) F := by
  unfold Std
  rw [List.length_append]
  constructor
  · rintro ⟨h1, h2⟩
    refine ⟨⟨by omega, ?_⟩, by omega, ?_⟩
    · have := congrArg (List.take E.length) h2
      rw [List.take_take, Nat.min_eq_left (by omega)] at this
      simpa using this
    · have := congrArg (List.drop E.length) h2
      rw [List.drop_take, List.drop_drop] at this
      simpa using this
  · rintro ⟨⟨h1, h2⟩, h3, h4⟩
    refine ⟨by omega, ?_⟩
    rw [List.take_add, h2, List.drop_drop, h4]

/-- A reader of something and its form. -/
structure Good {α : Type} (f : List UInt8 → Nat → Rs α) (e : α → List UInt8) (d : α → Bool) : Prop where
  fwd : ∀ {B : List UInt8} {p : Nat} {x : α}, d x = false → Std B p (e x) → f B p = .ok (x, p + (e x).length)
  bwd : ∀ {B : List UInt8} {p q : Nat} {x : α}, p ≤ B.length → f B p = .ok (x, q) → d x = false ∧ Std B p (e x) ∧ q = p + (e x).length
  err : ∀ {B : List UInt8} {p q : Nat}, p ≤ B.length → f B p = .error q → q ≤ B.length

theorem bind_eq_ok {α β : Type} {x : Rs α} {f : α × Nat → Rs β} {r : β × Nat} (h : x.bind f = .ok r) : ∃ v, x = .ok v ∧ f v = .ok r := by
  cases x with
  | error q => cases h
  | ok v => exact ⟨v, rfl, h⟩
theorem bind_eq_err {α β : Type} {x : Rs α} {f : α × Nat → Rs β} {q : Nat} (h : x.bind f = .error q) : x = .error q ∨ ∃ v, x = .ok v ∧ f v = .error q := by
  cases x with
  | error q' => cases h; exact .inl rfl
  | ok v => exact .inr ⟨v, rfl, h⟩

section
variable {α β γ : Type} {f : List UInt8 → Nat → Rs α} {e : α → List UInt8} {d : α → Bool} {f2 : List UInt8 → Nat → Rs β} {e2 : β → List UInt8} {d2 : β → Bool}
/-- One behind another. -/
theorem Good.seq (h : Good f e d) (h2 : Good f2 e2 d2) : Good (fun B p => (f B p).bind fun a => (f2 B a.2).bind fun b => .ok ((a.1, b.1), b.2)) (fun x => e x.1 ++ e2 x.2) (fun x => d x.1 || d2 x.2) := by
  refine ⟨?_, ?_, ?_⟩
  · rintro B p ⟨x, y⟩ hd hs
    simp only [Bool.or_eq_false_iff] at hd
    obtain ⟨s1, s2⟩ := std_app.1 hs
    rw [h.fwd hd.1 s1]
    show (f2 B (p + (e x).length)).bind _ = _
    rw [h2.fwd hd.2 s2, List.length_append, ← Nat.add_assoc]; rfl
  · rintro B p q ⟨x, y⟩ hp hr
    obtain ⟨⟨a, q1⟩, r1, hr⟩ := bind_eq_ok hr
    obtain ⟨⟨b, q2⟩, r2, hr⟩ := bind_eq_ok hr
    cases hr
    obtain ⟨k1, k2, rfl⟩ := h.bwd hp r1
    obtain ⟨k3, k4, rfl⟩ := h2.bwd k2.1 r2
    exact ⟨by simp [k1, k3], std_app.2 ⟨k2, k4⟩, by simp [Nat.add_assoc]⟩
  · rintro B p q hp hr
    rcases bind_eq_err hr with r1 | ⟨⟨a, q1⟩, r1, hr⟩
    · exact h.err hp r1
    · obtain ⟨_, k2, rfl⟩ := h.bwd hp r1
      rcases bind_eq_err hr with r2 | ⟨⟨b, q2⟩, r2, hr⟩
      · exact h2.err k2.1 r2
      · cases hr
/-- Told otherwise. -/
theorem Good.iso (h : Good f e d) (g : α → γ) (k : γ → α) (hkg : ∀ x, d x = false → k (g x) = x) (hgk : ∀ y, d (k y) = false → g (k y) = y) :
    Good (fun B p => (f B p).bind fun a => .ok (g a.1, a.2)) (fun y => e (k y)) (fun y => d (k y)) := by
  refine ⟨?_, ?_, ?_⟩
  · intro B p y hd hs
    rw [h.fwd hd hs]
    show Except.ok (g (k y), _) = _
    rw [hgk y hd]
  · intro B p q y hp hr
    obtain ⟨⟨a, q1⟩, r1, hr⟩ := bind_eq_ok hr
    cases hr
    obtain ⟨k1, k2, rfl⟩ := h.bwd hp r1
    simp only [hkg a k1]
    exact ⟨k1, k2, by first | trivial | rfl⟩
  · intro B p q hp hr
    rcases bind_eq_err hr with r1 | ⟨⟨a, q1⟩, r1, hr⟩
    · exact h.err hp r1
    · cases hr
theorem Good.cong {f' : List UInt8 → Nat → Rs α} {e' : α → List UInt8} {d' : α → Bool} (h : Good f e d) (h1 : ∀ B p, f' B p = f B p) (h2 : ∀ x, e' x = e x) (h3 : ∀ x, d' x = d x) : Good f' e' d' := by
  have e1 : f' = f := funext fun B => funext fun p => h1 B p
  have e2 : e' = e := funext h2
  have e3 : d' = d := funext h3
  rw [e1, e2, e3]; exact h
end

theorem gNum : Good rdNum nb wN := by
  have h4 : (256 : Nat) ^ 4 = 4294967296 := by decide
  refine ⟨?_, ?_, ?_⟩
  · intro B p n hd hs
    have hn : 0 ≤ n ∧ n ≤ 4294967295 := by
      unfold wN at hd; simp at hd; omega
    have hl := hs.1
    have hv := hs.2
    rw [nb_length] at hl hv ⊢
    unfold rdNum
    rw [if_neg (by omega), hv]
    unfold nb
    rw [highN_lowB, h4, Nat.mod_eq_of_lt (by omega)]
    have : (((n % 4294967296).toNat : Nat) : Int) = n := by omega
    rw [this]
  · intro B p q n hp hr
    unfold rdNum at hr
    split at hr
    · cases hr
    · rename_i hl
      cases hr
      have hlen : ((B.drop p).take 4).length = 4 := by rw [List.length_take, List.length_drop]; omega
      have hlt := highN_lt ((B.drop p).take 4)
      rw [hlen, h4] at hlt
      refine ⟨by unfold wN; simp; omega, ⟨by rw [nb_length]; omega, ?_⟩, by rw [nb_length]⟩
      rw [nb_length]
      unfold nb
      have : ((((highN ((B.drop p).take 4) : Nat) : Int)) % 4294967296).toNat = highN ((B.drop p).take 4) := by omega
      rw [this]
      have := lowB_highN ((B.drop p).take 4)
      rw [hlen] at this
      exact this.symm
  · intro B p q hp hr
    unfold rdNum at hr
    split at hr
    · cases hr; exact hp
    · cases hr

theorem gU8 : Good rdU8 (fun n => lowB 1 n) (fun n => decide (255 < n)) := by
  refine ⟨?_, ?_, ?_⟩
  · intro B p n hd hs
    have hn : n ≤ 255 := by simpa using hd
    have hl := hs.1
    have hv := hs.2
    rw [lowB_len] at hl hv ⊢
    unfold rdU8
    rw [if_neg (by omega), hv, highN_lowB, Nat.pow_one, Nat.mod_eq_of_lt (by omega)]
  · intro B p q n hp hr
    unfold rdU8 at hr
    split at hr
    · cases hr
    · rename_i hl
      cases hr
      have hlen : ((B.drop p).take 1).length = 1 := by rw [List.length_take, List.length_drop]; omega
      have hlt := highN_lt ((B.drop p).take 1)
      rw [hlen, Nat.pow_one] at hlt
      refine ⟨by simp; omega, ⟨by rw [lowB_len]; omega, ?_⟩, by rw [lowB_len]⟩
      rw [lowB_len]
      have := lowB_highN ((B.drop p).take 1)
      rw [hlen] at this
      exact this.symm
  · intro B p q hp hr
    unfold rdU8 at hr
    split at hr
    · cases hr; exact hp
    · cases hr

theorem gSrc : Good rdSrc (fun s => lowB 1 (if s then 1 else 0)) (fun _ => false) := by
  refine ⟨?_, ?_, ?_⟩
  · intro B p s hd hs
    unfold rdSrc
    rw [gU8.fwd (x := if s then 1 else 0) (by cases s <;> rfl) hs]
    cases s <;> rfl
  · intro B p q s hp hr
    obtain ⟨⟨n, q1⟩, r1, hr⟩ := bind_eq_ok hr
    obtain ⟨k1, k2, rfl⟩ := gU8.bwd hp r1
    simp only at hr
    split at hr
    · cases hr
    · rename_i hn
      cases hr
      have : n = 0 ∨ n = 1 := by omega
      rcases this with rfl | rfl
      · exact ⟨rfl, k2, rfl⟩
      · exact ⟨rfl, k2, rfl⟩
  · intro B p q hp hr
    rcases bind_eq_err hr with r1 | ⟨⟨n, q1⟩, r1, hr⟩
    · exact gU8.err hp r1
    · simp only at hr
      split at hr
      · cases hr; exact hp
      · cases hr

theorem gText : Good rdText nameBy nameW := by
  have h4 : (256 : Nat) ^ 4 = 4294967296 := by decide
  have hds : ∀ s : ByteArray, s.data.toList.length = s.size := fun s => rfl
  refine ⟨?_, ?_, ?_⟩
  · intro B p s hd hs
    have hn : s.size ≤ 255 := by unfold nameW at hd; simpa using hd
    unfold nameBy at hs ⊢
    rw [if_neg (by omega)] at hs ⊢
    obtain ⟨s1, s2⟩ := std_app.1 hs
    have l1 := s1.1
    have v1 := s1.2
    have l2 := s2.1
    have v2 := s2.2
    rw [lowB_len] at l1 v1 l2 v2
    rw [hds] at l2 v2
    have hN : txtN B p = s.size := by unfold txtN; rw [v1, highN_lowB, h4, Nat.mod_eq_of_lt (by omega)]
    have hE : txtE B p 0 255 = 0 := by
      unfold txtE
      rw [if_neg (by omega), if_neg (by omega), hN, if_neg (by omega), if_neg (by omega)]
    unfold rdText
    rw [if_pos hE]
    have hV : txtV B p 0 255 = s.data.toList := by unfold txtV; rw [if_pos hE, hN, v2]
    have hP : txtP B p 0 255 = p + 4 + s.size := by unfold txtP; rw [if_pos hE, hN]
    rw [hV, hP, List.length_append, lowB_len, hds, Array.toArray_toList, Nat.add_assoc]
  · intro B p q s hp hr
    unfold rdText at hr
    split at hr
    · rename_i hE
      cases hr
      unfold txtE at hE
      rw [if_neg (by omega)] at hE
      split at hE
      · omega
      · split at hE
        · omega
        · split at hE
          · omega
          · rename_i h1 h2 h3
            have hE0 : txtE B p 0 255 = 0 := by unfold txtE; rw [if_neg (by omega), if_neg h1, if_neg h2, if_neg h3]
            have hV : txtV B p 0 255 = (B.drop (p + 4)).take (txtN B p) := by unfold txtV; rw [if_pos hE0]
            have hP : txtP B p 0 255 = p + 4 + txtN B p := by unfold txtP; rw [if_pos hE0]
            have hlen : ((B.drop (p + 4)).take (txtN B p)).length = txtN B p := by rw [List.length_take, List.length_drop]; omega
            have hsz : (⟨(txtV B p 0 255).toArray⟩ : ByteArray).size = txtN B p := by show (txtV B p 0 255).toArray.size = _; rw [hV, List.size_toArray, hlen]
            have hl4 : ((B.drop p).take 4).length = 4 := by rw [List.length_take, List.length_drop]; omega
            have hlow : lowB 4 (txtN B p) = (B.drop p).take 4 := by have := lowB_highN ((B.drop p).take 4); rw [hl4] at this; exact this
            have hnm : nameBy ⟨(txtV B p 0 255).toArray⟩ = (B.drop p).take 4 ++ (B.drop (p + 4)).take (txtN B p) := by
              unfold nameBy
              rw [if_neg (by rw [hsz]; omega), hsz, hlow, hV]
            refine ⟨by unfold nameW; rw [hsz]; simp; omega, ?_, ?_⟩
            · rw [hnm]
              refine std_app.2 ⟨⟨by rw [hl4]; omega, by rw [hl4]⟩, ?_⟩
              rw [hl4]
              exact ⟨by rw [hlen]; omega, by rw [hlen]⟩
            · rw [hP, hnm, List.length_append, hl4, hlen]; omega
    · cases hr
  · intro B p q hp hr
    unfold rdText at hr
    split at hr
    · cases hr
    · cases hr; exact hp

theorem gMany {α : Type} {f : List UInt8 → Nat → Rs α} {e : α → List UInt8} {d : α → Bool} (h : Good f e d) (B : List UInt8) : ∀ (n p : Nat), p ≤ B.length →
    (∀ l : List α, l.length = n → l.any d = false → Std B p (l.flatMap e) → rdMany (f B) n p = .ok (l, p + (l.flatMap e).length)) ∧
    (∀ l q, rdMany (f B) n p = .ok (l, q) → l.length = n ∧ l.any d = false ∧ Std B p (l.flatMap e) ∧ q = p + (l.flatMap e).length) ∧ (∀ q, rdMany (f B) n p = .error q → q ≤ B.length) := by
  intro n
  induction n with
  | zero =>
    intro p hp
    refine ⟨?_, ?_, ?_⟩
    · intro l hl _ _
      rw [List.length_eq_zero_iff.1 hl]; rfl
    · intro l q hr
      cases hr
      exact ⟨rfl, rfl, std_nil B p hp, rfl⟩
    · intro q hr; cases hr
  | succ n ih =>
    intro p hp
    obtain ⟨i1, i2, i3⟩ := ih p hp
    refine ⟨?_, ?_, ?_⟩
    · intro l hl hd hs
      obtain ⟨l', x, rfl⟩ : ∃ l' x, l = l' ++ [x] := ⟨l.dropLast, l.getLast (by intro e; rw [e] at hl; simp at hl), (List.dropLast_concat_getLast _).symm⟩
      rw [List.any_append, Bool.or_eq_false_iff] at hd
      rw [List.flatMap_append] at hs ⊢
      obtain ⟨s1, s2⟩ := std_app.1 hs
      have hx : d x = false := by simpa using hd.2
      have s3 : Std B (p + (l'.flatMap e).length) (e x) := by simpa using s2
      unfold rdMany
      rw [i1 l' (by simpa using hl) hd.1 s1]
      show (f B (p + (l'.flatMap e).length)).bind _ = _
      rw [h.fwd hx s3]
      show Except.ok (l' ++ [x], _) = _
      congr 2
      simp [Nat.add_assoc]
    · intro l q hr
      unfold rdMany at hr
      obtain ⟨⟨l', q1⟩, r1, hr⟩ := bind_eq_ok hr
      obtain ⟨⟨x, q2⟩, r2, hr⟩ := bind_eq_ok hr
      cases hr
      obtain ⟨k1, k2, k3, rfl⟩ := i2 l' q1 r1
      obtain ⟨k4, k5, rfl⟩ := h.bwd k3.1 r2
      refine ⟨by simp [k1], by rw [List.any_append, k2]; simp [k4], ?_, ?_⟩
      · rw [List.flatMap_append]; exact std_app.2 ⟨k3, by simpa using k5⟩
      · simp [Nat.add_assoc]
    · intro q hr
      unfold rdMany at hr
      rcases bind_eq_err hr with r1 | ⟨⟨l', q1⟩, r1, hr⟩
      · exact i3 q r1
      · obtain ⟨k1, k2, k3, rfl⟩ := i2 l' q1 r1
        rcases bind_eq_err hr with r2 | ⟨⟨x, q2⟩, r2, hr⟩
        · exact h.err k3.1 r2
        · cases hr
theorem Good.list {α : Type} {f : List UInt8 → Nat → Rs α} {e : α → List UInt8} {d : α → Bool} (h : Good f e d) : Good (fun B p => rdList B (f B) p) (listB e) (listW d) := by
  refine ⟨?_, ?_, ?_⟩
  · intro B p l hd hs
    unfold listW at hd
    rw [Bool.or_eq_false_iff] at hd
    have hn : ¬ 255 < l.length := by simpa using hd.1
    unfold listB at hs ⊢
    rw [if_neg hn] at hs ⊢
    obtain ⟨s1, s2⟩ := std_app.1 hs
    unfold rdList
    rw [gU8.fwd (x := l.length) hd.1 s1]
    show rdMany (f B) l.length (p + (lowB 1 l.length).length) = _
    rw [(gMany h B l.length _ s1.1).1 l rfl hd.2 s2, List.length_append, Nat.add_assoc]
  · intro B p q l hp hr
    obtain ⟨⟨n, q1⟩, r1, hr⟩ := bind_eq_ok hr
    obtain ⟨k1, k2, rfl⟩ := gU8.bwd hp r1
    obtain ⟨k3, k4, k5, rfl⟩ := (gMany h B n _ k2.1).2.1 l q hr
    subst k3
    have hn : ¬ 255 < l.length := by simpa using k1
    have e1 : listB e l = lowB 1 l.length ++ l.flatMap e := by unfold listB; rw [if_neg hn]
    rw [e1]
    exact ⟨by unfold listW; rw [k1, k4]; rfl, std_app.2 ⟨k2, k5⟩, by rw [List.length_append, Nat.add_assoc]⟩
  · intro B p q hp hr
    rcases bind_eq_err hr with r1 | ⟨⟨n, q1⟩, r1, hr⟩
    · exact gU8.err hp r1
    · obtain ⟨k1, k2, rfl⟩ := gU8.bwd hp r1
      exact (gMany h B n _ k2.1).2.2 q hr
end Go.Proofs.YtjadpbkhfclldaaGreat
namespace Go.Proofs.YtjadpbkhfclldaaGreat
open Go.RowKit
set_option linter.unusedVariables false
set_option maxRecDepth 6000

def rdMark (B : List UInt8) (p : Nat) : Rs Unit := (rdNum B p).bind fun r => if r.1 = 826493762 then .ok ((), r.2) else .error p

set_option maxHeartbeats 1000000 in
theorem mark_any (b g p : Nat) (B : List UInt8) (w : World) (h : Rd w b g B p 0) :
    Calls Tryz.prog 66 #[.agg #[.pointer (some ⟨b, 0, none⟩)]] w fun e w' => ((∃ q, rdMark B p = .ok ((), q) ∧ e = .returned (.tuple #[]) ∧ Rd w' b g B q 0) ∨ (∃ q, rdMark B p = .error q ∧ e = gone q 110)) ∧ Keeps (· = b) w w' := by
  have HC : Hid (rdMark B p = (rdNum B p).bind _) := rfl
  obtain ⟨c, hc⟩ : ∃ c, c = w.heap.size := ⟨_, rfl⟩
  have HR : Hid (Rd w b g B p 0 ∧ c = w.heap.size) := ⟨h, hc⟩
  have hb : c ≠ b := by have := h.blk.lt; omega
  clear h
  go_enter Tryz.func66, Tryz.ntmps66
  go_wp2_with fail
  rw [← hc]
  obtain ⟨W, hW⟩ : ∃ W, W = w.alloc (.cells #[.pointer (some ⟨b, 0, none⟩)] 126) := ⟨_, rfl⟩
  have hB : Blk W c [.pointer (some ⟨b, 0, none⟩)] 126 := by rw [hW, hc]; exact Blk.new w _ _
  have hR : Rd W b g B p 0 := by rw [hW]; exact HR.out.1.kept ((Keeps.refl (fun _ => False) w).alloc _) (fun e => e) (fun e => e)
  have HK : Hid (Keeps (· = b) w W) := by rw [hW]; exact (Keeps.refl _ w).alloc _
  have p0 := hB.cell (i := 0) rfl
  rw [← hW]
  have HB : Hid (Blk W c [.pointer (some ⟨b, 0, none⟩)] 126 ∧ Rd W b g B p 0) := ⟨hB, hR⟩
  clear hW hB hR HR hc
  refine (rAt_any b g p 0 B W HB.out.2).mono ?_
  rintro e w1 ⟨rfl, hw⟩
  obtain rfl := hw.symm
  clear hw
  go_wp2
  refine wp_region_panicTo (fun e w' => ((∃ q, rdMark B p = .ok ((), q) ∧ e = .returned (.tuple #[]) ∧ Rd w' b g B q 0) ∨ (∃ q, rdMark B p = .error q ∧ e = gone q 110)) ∧ Keeps (· = b) w w') (fun c a w h1 h2 => ⟨h1, h2⟩) ?_
  obtain ⟨V, hV⟩ : ∃ V, numV B p 0 4 = V := ⟨_, rfl⟩
  have hlt := numV_lt B p 0 4
  rw [hV, show (256 : Nat) ^ 4 = 4294967296 from by decide] at hlt
  have HV : Hid (numV B p 0 4 = V) := hV
  clear hV
  go_region_held2 (fun w' => w'.cell? ⟨c, 0, none⟩ = some (.pointer (some ⟨b, 0, none⟩))) (first | exact hS | go_keep)
    (first
      | (go_at_call 75; refine (rU32_any b g p 0 B _ HB.out.2.drew).mono ?_; rintro e w2 ⟨rfl, hR2, hK2⟩; rw [HV.out]; have hS : w2.cell? ⟨c, 0, none⟩ = some (.pointer (some ⟨b, 0, none⟩)) := (HB.out.1.drew.kept hK2 hb).cell (i := 0) rfl)
      | (go_at_call 74; refine (item32_any b g _ B _ _ _ hR2).mono ?_; rintro e w3 ⟨⟨he, rfl⟩ | ⟨he, rfl⟩, hK3⟩; rotate_left; exact ⟨rfl, .inr ⟨p, bind_err HC.out ((rdNum_of B p).elim (fun h => absurd h.1 he) (fun h => h.2.1)), by rw [(rdNum_of B p).elim (fun h => absurd h.1 he) (fun h => h.2.2)]⟩, (HK.out.drew.trans hK2 fun _ _ e => e).trans hK3 fun _ _ e => e.elim⟩; have hS : w3.cell? ⟨c, 0, none⟩ = some (.pointer (some ⟨b, 0, none⟩)) := ((HB.out.1.drew.kept hK2 hb).kept hK3 fun e => e).cell (i := 0) rfl))
  refine PanicTo.normal ?_
  have hv : rdNum B p = .ok ((V : Int), numP B p 0 4) := by
    rcases rdNum_of B p with h | h
    · rw [h.2, HV.out]
    · exact absurd he h.1
  obtain ⟨P1, hP1⟩ : ∃ P1, numP B p 0 4 = P1 := ⟨_, rfl⟩
  rw [hP1] at hv hR2
  have HF : Hid (rdNum B p = .ok ((V : Int), P1) ∧ Rd w3 b g B P1 0 ∧ Keeps (· = b) w w3 ∧ Blk w3 c [.pointer (some ⟨b, 0, none⟩)] 126) := by
    refine ⟨hv, ?_, (HK.out.drew.trans hK2 fun _ _ e => e).trans hK3 fun _ _ e => e.elim, (HB.out.1.drew.kept hK2 hb).kept hK3 fun e => e⟩
    have := hR2.kept hK3 (fun e => e) (fun e => e)
    rw [he] at this; exact this
  clear hR2 hK2 hK3 hS he hv hP1 HB HV p0
  have HD := bind_ok HC.out HF.out.1
  by_cases hm : V = 826493762
  · have HM : Hid (rdMark B p = .ok ((), P1)) := by
      show rdMark B p = .ok ((), P1)
      rw [HD, if_pos (show ((V : Int), P1).1 = 826493762 by show (V : Int) = 826493762; omega)]
    have hm' : ((V : Int) != 826493762) = false := by simp; omega
    clear HD hm
    go_wp2
    go_end0
    exact ⟨.inl ⟨P1, HM.out, rfl, HF.out.2.1⟩, HF.out.2.2.1⟩
  · have HM : Hid (rdMark B p = .error p) := by
      show rdMark B p = .error p
      rw [HD, if_neg (show ¬ ((V : Int), P1).1 = 826493762 by show ¬ (V : Int) = 826493762; omega)]
    have hm' : ((V : Int) != 826493762) = true := by simp; omega
    clear HD hm
    go_wp2
    exact ⟨rfl, .inr ⟨p, HM.out, rfl⟩, HF.out.2.2.1⟩

/-- The end: the sum, and nothing behind it. -/
def rdEnd (B : List UInt8) (p : Nat) : Except (Nat × Int) Unit :=
  if B.length < p + 4 then .error (p, 110) else if p + 4 < B.length then .error (p + 4, 110) else if highN ((B.drop p).take 4) = sumN (B.take p) then .ok () else .error (p, 111)

theorem seg_take (w : World) (a : Option Addr) (xs : List UInt8) (h : Seg w a xs) (n : Nat) : Seg w a (xs.take n) := by
  rcases h with h | ⟨g, o, ha, hc⟩
  · left; rw [h]; simp
  · refine .inr ⟨g, o, ha, fun j hj => ?_⟩
    rw [List.length_take] at hj
    have := hc j (by omega)
    rw [List.getElem_take]; exact this
theorem Seg.keptB {S : Nat → Prop} {w w' : World} {a : Option Addr} {xs : List UInt8} (h : Seg w a xs) (hK : Keeps S w w') (hn : xs ≠ [] → ∀ y, a = some y → ¬ S y.block) : Seg w' a xs := by
  rcases h with h | ⟨g, o, ha, hc⟩
  · exact .inl h
  · refine .inr ⟨g, o, ha, fun j hj => ?_⟩
    have h1 := hc j hj
    rw [World.cell?_of_block (w := w) (hK.block g (World.block_lt_of_cell? w _ h1) (hn (fun e => by rw [e] at hj; simp at hj) _ ha))]
    exact h1

theorem rdNum_len {B : List UInt8} {p q : Nat} (h : rdNum B p = .error q) : B.length < p + 4 := by
  unfold rdNum at h; split at h
  · assumption
  · cases h
theorem rdNum_ok {B : List UInt8} {p q V : Nat} (h : rdNum B p = .ok ((V : Int), q)) : ¬ B.length < p + 4 ∧ q = p + 4 ∧ V = highN ((B.drop p).take 4) := by
  unfold rdNum at h; split at h
  · cases h
  · rename_i hn
    injection h with h
    injection h with h1 h2
    exact ⟨hn, h2.symm, by omega⟩
theorem rdEnd_short {B : List UInt8} {p : Nat} (h : B.length < p + 4) : rdEnd B p = .error (p, 110) := by unfold rdEnd; rw [if_pos h]

set_option maxHeartbeats 1000000 in
theorem rsum_any (b g p : Nat) (B : List UInt8) (a : Option Addr) (cap : Nat) (w : World) (h : Rd w b g B p 0) (hs : Seg w a B) (hno : B ≠ [] → ∀ y, a = some y → y.block ≠ b) (hcap : B.length ≤ cap ∧ cap ≤ maxLen) :
    Calls Tryz.prog 68 #[.agg #[.pointer (some ⟨b, 0, none⟩)], .slice a B.length cap] w fun e w' => ((rdEnd B p = .ok () ∧ e = .returned (.tuple #[])) ∨ (∃ q k, rdEnd B p = .error (q, k) ∧ e = gone q k)) ∧ Keeps (· = b) w w' := by
  obtain ⟨L, hL⟩ : ∃ L, B.length = L := ⟨_, rfl⟩
  have HL : Hid (B.length = L ∧ Seg w a B ∧ (B ≠ [] → ∀ y, a = some y → y.block ≠ b)) := ⟨hL, hs, hno⟩
  rw [hL] at hcap ⊢
  obtain ⟨hc1, hc2⟩ := hcap
  have hc1' : (L : Int) ≤ cap := by omega
  have hc2' : (cap : Int) ≤ 9223372036854775807 := by unfold maxLen at hc2; omega
  clear hL hs hno hc2
  obtain ⟨c, hc⟩ : ∃ c, c = w.heap.size := ⟨_, rfl⟩
  have HR : Hid (Rd w b g B p 0 ∧ c = w.heap.size) := ⟨h, hc⟩
  have hb : c ≠ b := by have := h.blk.lt; omega
  clear h
  go_enter Tryz.func68, Tryz.ntmps68
  go_wp2_with fail
  rw [← hc]
  obtain ⟨W, hW⟩ : ∃ W, W = w.alloc (.cells #[.pointer (some ⟨b, 0, none⟩)] 126) := ⟨_, rfl⟩
  have hB : Blk W c [.pointer (some ⟨b, 0, none⟩)] 126 := by rw [hW, hc]; exact Blk.new w _ _
  have hR : Rd W b g B p 0 := by rw [hW]; exact HR.out.1.kept ((Keeps.refl (fun _ => False) w).alloc _) (fun e => e) (fun e => e)
  have HK : Hid (Keeps (· = b) w W) := by rw [hW]; exact (Keeps.refl _ w).alloc _
  have p0 := hB.cell (i := 0) rfl
  rw [← hW]
  have HB : Hid (Blk W c [.pointer (some ⟨b, 0, none⟩)] 126 ∧ Rd W b g B p 0) := ⟨hB, hR⟩
  clear hW hB hR HR hc
  refine (rAt_any b g p 0 B W HB.out.2).mono ?_
  rintro e w1 ⟨rfl, hw⟩
  obtain rfl := hw.symm
  clear hw
  go_wp2
  refine wp_region_panicTo (fun e w' => ((rdEnd B p = .ok () ∧ e = .returned (.tuple #[])) ∨ (∃ q k, rdEnd B p = .error (q, k) ∧ e = gone q k)) ∧ Keeps (· = b) w w') (fun c a w h1 h2 => ⟨h1, h2⟩) ?_
  obtain ⟨V, hV⟩ : ∃ V, numV B p 0 4 = V := ⟨_, rfl⟩
  have hlt := numV_lt B p 0 4
  rw [hV, show (256 : Nat) ^ 4 = 4294967296 from by decide] at hlt
  have HV : Hid (numV B p 0 4 = V) := hV
  clear hV
  go_region_held2 (fun w' => w'.cell? ⟨c, 0, none⟩ = some (.pointer (some ⟨b, 0, none⟩))) (first | exact hS | go_keep)
    (first
      | (go_at_call 75; refine (rU32_any b g p 0 B _ HB.out.2.drew).mono ?_; rintro e w2 ⟨rfl, hR2, hK2⟩; rw [HV.out]; have hS : w2.cell? ⟨c, 0, none⟩ = some (.pointer (some ⟨b, 0, none⟩)) := (HB.out.1.drew.kept hK2 hb).cell (i := 0) rfl)
      | (go_at_call 74; refine (item32_any b g _ B _ _ _ hR2).mono ?_; rintro e w3 ⟨⟨he, rfl⟩ | ⟨he, rfl⟩, hK3⟩; rotate_left; exact ⟨rfl, .inr ⟨p, 110, rdEnd_short (rdNum_len ((rdNum_of B p).elim (fun h => absurd h.1 he) (fun h => h.2.1))), by rw [(rdNum_of B p).elim (fun h => absurd h.1 he) (fun h => h.2.2)]⟩, (HK.out.drew.trans hK2 fun _ _ e => e).trans hK3 fun _ _ e => e.elim⟩; have hS : w3.cell? ⟨c, 0, none⟩ = some (.pointer (some ⟨b, 0, none⟩)) := ((HB.out.1.drew.kept hK2 hb).kept hK3 fun e => e).cell (i := 0) rfl))
  refine PanicTo.normal ?_
  have hv : rdNum B p = .ok ((V : Int), numP B p 0 4) := by
    rcases rdNum_of B p with h | h
    · rw [h.2, HV.out]
    · exact absurd he h.1
  obtain ⟨P1, hP1⟩ : ∃ P1, numP B p 0 4 = P1 := ⟨_, rfl⟩
  rw [hP1] at hv hR2
  have HF : Hid (rdNum B p = .ok ((V : Int), P1) ∧ Rd w3 b g B P1 0 ∧ Keeps (· = b) w w3 ∧ Blk w3 c [.pointer (some ⟨b, 0, none⟩)] 126) := by
    refine ⟨hv, ?_, (HK.out.drew.trans hK2 fun _ _ e => e).trans hK3 fun _ _ e => e.elim, (HB.out.1.drew.kept hK2 hb).kept hK3 fun e => e⟩
    have := hR2.kept hK3 (fun e => e) (fun e => e)
    rw [he] at this; exact this
  clear hR2 hK2 hK3 hS he hv hP1 HB HV p0
  obtain ⟨hlen, hP1, hVV⟩ := rdNum_ok HF.out.1
  have p1 := HF.out.2.2.2.cell (i := 0) rfl
  have HX : Hid (¬ B.length < p + 4 ∧ P1 = p + 4 ∧ V = highN ((B.drop p).take 4)) := ⟨hlen, hP1, hVV⟩
  clear hlen hP1 hVV
  go_wp2_with fail
  refine (rLeft_any b g P1 0 B w3 HF.out.2.1).mono ?_
  rintro e w4 ⟨rfl, hw⟩
  obtain rfl := hw.symm
  clear hw
  have hP1 : P1 ≤ L := by have := HX.out; have := HL.out.1; omega
  rw [HL.out.1]
  by_cases hl : P1 < L
  · have hl' : (0 : Int) < (L : Int) - P1 := by omega
    go_wp2_with fail
    refine (rAt_any b g P1 0 B w3 HF.out.2.1).mono ?_
    rintro e w4 ⟨rfl, hw⟩
    obtain rfl := hw.symm
    clear hw
    go_wp2
    refine ⟨rfl, .inr ⟨P1, 110, ?_, rfl⟩, HF.out.2.2.1⟩
    have h1 := HX.out; have h2 := HL.out.1
    unfold rdEnd
    rw [if_neg h1.1, if_pos (by omega), h1.2.1]
  · have hl' : ¬ (0 : Int) < (L : Int) - P1 := by omega
    obtain ⟨x, hx⟩ : ∃ x, a = some x := by
      rcases HL.out.2.1 with h | ⟨g', o', h, _⟩
      · have h1 := HX.out.1; rw [h] at h1; simp at h1
      · exact ⟨_, h⟩
    have hpL : (p : Int) ≤ L := by have := HX.out.2.1; omega
    have hpc : (p : Int) ≤ cap := by omega
    subst hx
    obtain ⟨xb, xo, xs⟩ := x
    go_wp2_with fail
    have hseg : Seg w3 (some ⟨xb, xo, xs⟩) (B.take p) := seg_take _ _ _ (HL.out.2.1.keptB HF.out.2.2.1 fun h1 y h2 => HL.out.2.2 h1 y h2) p
    have hlt2 : (B.take p).length = p := by rw [List.length_take]; have := HX.out.1; omega
    have HC := sum_any (some ⟨xb, xo, xs⟩) cap (B.take p) w3 hseg (by rw [hlt2]; unfold maxLen; omega)
    rw [hlt2] at HC
    refine HC.mono ?_
    rintro e w4 ⟨rfl, hw⟩
    obtain rfl := hw.symm
    clear hw HC hseg hlt2
    have hE : rdEnd B p = if V = sumN (B.take p) then .ok () else .error (p, 111) := by
      have h1 := HX.out; have h2 := HL.out.1
      unfold rdEnd
      rw [if_neg h1.1, if_neg (by omega), h1.2.2]
    have HE : Hid (rdEnd B p = if V = sumN (B.take p) then .ok () else .error (p, 111)) := hE
    clear hE
    obtain ⟨U, hU⟩ : ∃ U, sumN (B.take p) = U := ⟨_, rfl⟩
    have HU : Hid (sumN (B.take p) = U) := hU
    rw [hU]
    clear hU
    by_cases hm : V = U
    · have hm' : ((V : Int) != (U : Int)) = false := by simp; omega
      go_wp2
      go_end0
      refine ⟨.inl ⟨?_, rfl⟩, HF.out.2.2.1⟩
      rw [HE.out, HU.out, if_pos hm]
    · have hm' : ((V : Int) != (U : Int)) = true := by simp; omega
      go_wp2
      refine ⟨rfl, .inr ⟨p, 111, ?_, rfl⟩, HF.out.2.2.1⟩
      rw [HE.out, HU.out, if_neg hm]
end Go.Proofs.YtjadpbkhfclldaaGreat
