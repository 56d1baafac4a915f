import Derived.Test.YtmkeccibminnhaaTy
namespace Go.Proofs.Ytmkeccibminnhaa
open Go.RowKit
set_option linter.unusedVariables false

structure PPar where
  name : ByteArray
  entry : Int
  action : Int
  restarts : Int
  inputs : Int
  outputs : Int
  rs : List Rgn
  ps : List Prt
structure PCfg where
  frames : Int
  major : Int
  kernel : Int
  room : Int
  cs : List (List Win)
  ps : List PPar
  hs : List Chn
def Par.pure (x : Par) : PPar := ⟨x.name, x.entry, x.action, x.restarts, x.inputs, x.outputs, x.rs, x.ps⟩
def Cfg.pure (x : Cfg) : PCfg := ⟨x.frames, x.major, x.kernel, x.room, x.cs.map Core.ws, x.ps.map Par.pure, x.hs⟩

abbrev Rs (α : Type) := Except Nat (α × Nat)
def rdNum (B : List UInt8) (p : Nat) : Rs Int := if B.length < p + 4 then .error p else .ok (((highN ((B.drop p).take 4) : Nat) : Int), p + 4)
def rdU8 (B : List UInt8) (p : Nat) : Rs Nat := if B.length < p + 1 then .error p else .ok (highN ((B.drop p).take 1), p + 1)
def rdText (B : List UInt8) (p : Nat) : Rs ByteArray := if txtE B p 0 255 = 0 then .ok (⟨(txtV B p 0 255).toArray⟩, txtP B p 0 255) else .error p
def rdSrc (B : List UInt8) (p : Nat) : Rs Bool := (rdU8 B p).bind fun r => if 1 < r.1 then .error p else .ok (r.1 == 1, r.2)
def rdMany {α : Type} (f : Nat → Rs α) : Nat → Nat → Rs (List α)
  | 0, p => .ok ([], p)
  | n + 1, p => (rdMany f n p).bind fun r => (f r.2).bind fun s => .ok (r.1 ++ [s.1], s.2)
def rdList {α : Type} (B : List UInt8) (f : Nat → Rs α) (p : Nat) : Rs (List α) := (rdU8 B p).bind fun r => rdMany f r.1 r.2
def rdWin (B : List UInt8) (p : Nat) : Rs Win := (rdNum B p).bind fun a => (rdNum B a.2).bind fun b => (rdNum B b.2).bind fun c => .ok (⟨a.1 - 1, b.1, c.1⟩, c.2)
def rdRgn (B : List UInt8) (p : Nat) : Rs Rgn := (rdNum B p).bind fun a => (rdNum B a.2).bind fun b => (rdNum B b.2).bind fun c => (rdNum B c.2).bind fun d => .ok (⟨a.1, b.1, c.1, d.1⟩, d.2)
def rdChn (B : List UInt8) (p : Nat) : Rs Chn := (rdNum B p).bind fun a => (rdNum B a.2).bind fun b => (rdNum B b.2).bind fun c => .ok (⟨a.1, b.1, c.1⟩, c.2)
def rdPrt (B : List UInt8) (p : Nat) : Rs Prt := (rdNum B p).bind fun a => (rdSrc B a.2).bind fun b => .ok (⟨a.1, b.1⟩, b.2)
def rdCore (B : List UInt8) (p : Nat) : Rs (List Win) := rdList B (rdWin B) p
def rdPar (B : List UInt8) (p : Nat) : Rs PPar := (rdText B p).bind fun s => (rdNum B s.2).bind fun a => (rdNum B a.2).bind fun b => (rdNum B b.2).bind fun c => (rdNum B c.2).bind fun d => (rdNum B d.2).bind fun e =>
  (rdList B (rdRgn B) e.2).bind fun r => (rdList B (rdPrt B) r.2).bind fun q => .ok (⟨s.1, a.1, b.1, c.1, d.1, e.1, r.1, q.1⟩, q.2)
def rdCfg (B : List UInt8) (p : Nat) : Rs PCfg := (rdNum B p).bind fun a => (rdNum B a.2).bind fun b => (rdNum B b.2).bind fun c => (rdNum B c.2).bind fun d =>
  (rdList B (rdCore B) d.2).bind fun x => (rdList B (rdPar B) x.2).bind fun y => (rdList B (rdChn B) y.2).bind fun z => .ok (⟨a.1, b.1, c.1, d.1, x.1, y.1, z.1⟩, z.2)

theorem bind_ok {α β : Type} {r : Rs β} {x : Rs α} {f : α × Nat → Rs β} {v : α × Nat} (hC : r = x.bind f) (h : x = .ok v) : r = f v := by rw [hC, h]; rfl
theorem bind_err {α β : Type} {r : Rs β} {x : Rs α} {f : α × Nat → Rs β} {q : Nat} (hC : r = x.bind f) (h : x = .error q) : r = .error q := by rw [hC, h]; rfl
end Go.Proofs.Ytmkeccibminnhaa
namespace Go.Proofs.Ytmkeccibminnhaa
open Go.RowKit
set_option linter.unusedVariables false

theorem highN_lowB (k N : Nat) : highN (lowB k N) = N % 256 ^ k := by
  induction k with
  | zero => simp [lowB, highN, Nat.mod_one]
  | succ k ih =>
    have e : (UInt8.ofNat (N / 256 ^ k)).toNat = N / 256 ^ k % 256 := UInt8.toNat_ofNat'
    have d : N % (256 ^ k * 256) = N % 256 ^ k + 256 ^ k * (N / 256 ^ k % 256) := Nat.mod_mul
    rw [lowB_succ, highN_snoc, lowB_length, ih, e, Nat.pow_succ, d, Nat.mul_comm (256 ^ k)]
theorem highN_inj : ∀ (xs ys : List UInt8), xs.length = ys.length → highN xs = highN ys → xs = ys
  | [], [], _, _ => rfl
  | x :: xs, y :: ys, hl, h => by
    simp only [highN] at h
    have hx := x.toNat_lt
    have hy := y.toNat_lt
    have h1 : x.toNat = y.toNat := by omega
    have h2 : highN xs = highN ys := by omega
    rw [UInt8.toNat_inj.1 h1, highN_inj xs ys (by simpa using hl) h2]
theorem lowB_highN (xs : List UInt8) : lowB xs.length (highN xs) = xs :=
  highN_inj _ _ (lowB_len _ _) (by rw [highN_lowB, Nat.mod_eq_of_lt (highN_lt xs)])

/-- These bytes stand at p. -/
def Std (B : List UInt8) (p : Nat) (E : List UInt8) : Prop := p + E.length ≤ B.length ∧ (B.drop p).take E.length = E
theorem std_nil (B : List UInt8) (p : Nat) (h : p ≤ B.length) : Std B p [] := ⟨by simpa using h, by simp⟩
theorem std_app {B E F : List UInt8} {p : Nat} : Std B p (E ++ F) ↔ Std B p E ∧ Std B (p + E.length) F := by
  unfold Std
  rw [List.length_append]
  constructor
  · rintro ⟨h1, h2⟩
    refine ⟨⟨by omega, ?_⟩, by omega, ?_⟩
    · have := congrArg (List.take E.length) h2
      rw [List.take_take, Nat.min_eq_left (by omega)] at this
      simpa using this
    · have := congrArg (List.drop E.length) h2
      rw [List.drop_take, List.drop_drop] at this
      simpa using this
  · rintro ⟨⟨h1, h2⟩, h3, h4⟩
    refine ⟨by omega, ?_⟩
    rw [List.take_add, h2, List.drop_drop, h4]

/-- A reader of something and its form. -/
structure Good {α : Type} (f : List UInt8 → Nat → Rs α) (e : α → List UInt8) (d : α → Bool) : Prop where
  fwd : ∀ {B : List UInt8} {p : Nat} {x : α}, d x = false → Std B p (e x) → f B p = .ok (x, p + (e x).length)
  bwd : ∀ {B : List UInt8} {p q : Nat} {x : α}, p ≤ B.length → f B p = .ok (x, q) → d x = false ∧ Std B p (e x) ∧ q = p + (e x).length
  err : ∀ {B : List UInt8} {p q : Nat}, p ≤ B.length → f B p = .error q → q ≤ B.length

theorem bind_eq_ok {α β : Type} {x : Rs α} {f : α × Nat → Rs β} {r : β × Nat} (h : x.bind f = .ok r) : ∃ v, x = .ok v ∧ f v = .ok r := by
  cases x with
  | error q => cases h
  | ok v => exact ⟨v, rfl, h⟩
theorem bind_eq_err {α β : Type} {x : Rs α} {f : α × Nat → Rs β} {q : Nat} (h : x.bind f = .error q) : x = .error q ∨ ∃ v, x = .ok v ∧ f v = .error q := by
  cases x with
  | error q' => cases h; exact .inl rfl
  | ok v => exact .inr ⟨v, rfl, h⟩

section
variable {α β γ : Type} {f : List UInt8 → Nat → Rs α} {e : α → List UInt8} {d : α → Bool} {f2 : List UInt8 → Nat → Rs β} {e2 : β → List UInt8} {d2 : β → Bool}
/-- One behind another. -/
theorem Good.seq (h : Good f e d) (h2 : Good f2 e2 d2) : Good (fun B p => (f B p).bind fun a => (f2 B a.2).bind fun b => .ok ((a.1, b.1), b.2)) (fun x => e x.1 ++ e2 x.2) (fun x => d x.1 || d2 x.2) := by
  refine ⟨?_, ?_, ?_⟩
  · rintro B p ⟨x, y⟩ hd hs
    simp only [Bool.or_eq_false_iff] at hd
    obtain ⟨s1, s2⟩ := std_app.1 hs
    rw [h.fwd hd.1 s1]
    show (f2 B (p + (e x).length)).bind _ = _
    rw [h2.fwd hd.2 s2, List.length_append, ← Nat.add_assoc]; rfl
  · rintro B p q ⟨x, y⟩ hp hr
    obtain ⟨⟨a, q1⟩, r1, hr⟩ := bind_eq_ok hr
    obtain ⟨⟨b, q2⟩, r2, hr⟩ := bind_eq_ok hr
    cases hr
    obtain ⟨k1, k2, rfl⟩ := h.bwd hp r1
    obtain ⟨k3, k4, rfl⟩ := h2.bwd k2.1 r2
    exact ⟨by simp [k1, k3], std_app.2 ⟨k2, k4⟩, by simp [Nat.add_assoc]⟩
  · rintro B p q hp hr
    rcases bind_eq_err hr with r1 | ⟨⟨a, q1⟩, r1, hr⟩
    · exact h.err hp r1
    · obtain ⟨_, k2, rfl⟩ := h.bwd hp r1
      rcases bind_eq_err hr with r2 | ⟨⟨b, q2⟩, r2, hr⟩
      · exact h2.err k2.1 r2
      · cases hr
/-- Told otherwise. -/
theorem Good.iso (h : Good f e d) (g : α → γ) (k : γ → α) (hkg : ∀ x, d x = false → k (g x) = x) (hgk : ∀ y, d (k y) = false → g (k y) = y) :
    Good (fun B p => (f B p).bind fun a => .ok (g a.1, a.2)) (fun y => e (k y)) (fun y => d (k y)) := by
  refine ⟨?_, ?_, ?_⟩
  · intro B p y hd hs
    rw [h.fwd hd hs]
    show Except.ok (g (k y), _) = _
    rw [hgk y hd]
  · intro B p q y hp hr
    obtain ⟨⟨a, q1⟩, r1, hr⟩ := bind_eq_ok hr
    cases hr
    obtain ⟨k1, k2, rfl⟩ := h.bwd hp r1
    simp only [hkg a k1]
    exact ⟨k1, k2, by first | trivial | rfl⟩
  · intro B p q hp hr
    rcases bind_eq_err hr with r1 | ⟨⟨a, q1⟩, r1, hr⟩
    · exact h.err hp r1
    · cases hr
theorem Good.cong {f' : List UInt8 → Nat → Rs α} {e' : α → List UInt8} {d' : α → Bool} (h : Good f e d) (h1 : ∀ B p, f' B p = f B p) (h2 : ∀ x, e' x = e x) (h3 : ∀ x, d' x = d x) : Good f' e' d' := by
  have e1 : f' = f := funext fun B => funext fun p => h1 B p
  have e2 : e' = e := funext h2
  have e3 : d' = d := funext h3
  rw [e1, e2, e3]; exact h
end

theorem gNum : Good rdNum nb wN := by
  have h4 : (256 : Nat) ^ 4 = 4294967296 := by decide
  refine ⟨?_, ?_, ?_⟩
  · intro B p n hd hs
    have hn : 0 ≤ n ∧ n ≤ 4294967295 := by
      unfold wN at hd; simp at hd; omega
    have hl := hs.1
    have hv := hs.2
    rw [nb_length] at hl hv ⊢
    unfold rdNum
    rw [if_neg (by omega), hv]
    unfold nb
    rw [highN_lowB, h4, Nat.mod_eq_of_lt (by omega)]
    have : (((n % 4294967296).toNat : Nat) : Int) = n := by omega
    rw [this]
  · intro B p q n hp hr
    unfold rdNum at hr
    split at hr
    · cases hr
    · rename_i hl
      cases hr
      have hlen : ((B.drop p).take 4).length = 4 := by rw [List.length_take, List.length_drop]; omega
      have hlt := highN_lt ((B.drop p).take 4)
      rw [hlen, h4] at hlt
      refine ⟨by unfold wN; simp; omega, ⟨by rw [nb_length]; omega, ?_⟩, by rw [nb_length]⟩
      rw [nb_length]
      unfold nb
      have : ((((highN ((B.drop p).take 4) : Nat) : Int)) % 4294967296).toNat = highN ((B.drop p).take 4) := by omega
      rw [this]
      have := lowB_highN ((B.drop p).take 4)
      rw [hlen] at this
      exact this.symm
  · intro B p q hp hr
    unfold rdNum at hr
    split at hr
    · cases hr; exact hp
    · cases hr

theorem gU8 : Good rdU8 (fun n => lowB 1 n) (fun n => decide (255 < n)) := by
  refine ⟨?_, ?_, ?_⟩
  · intro B p n hd hs
    have hn : n ≤ 255 := by simpa using hd
    have hl := hs.1
    have hv := hs.2
    rw [lowB_len] at hl hv ⊢
    unfold rdU8
    rw [if_neg (by omega), hv, highN_lowB, Nat.pow_one, Nat.mod_eq_of_lt (by omega)]
  · intro B p q n hp hr
    unfold rdU8 at hr
    split at hr
    · cases hr
    · rename_i hl
      cases hr
      have hlen : ((B.drop p).take 1).length = 1 := by rw [List.length_take, List.length_drop]; omega
      have hlt := highN_lt ((B.drop p).take 1)
      rw [hlen, Nat.pow_one] at hlt
      refine ⟨by simp; omega, ⟨by rw [lowB_len]; omega, ?_⟩, by rw [lowB_len]⟩
      rw [lowB_len]
      have := lowB_highN ((B.drop p).take 1)
      rw [hlen] at this
      exact this.symm
  · intro B p q hp hr
    unfold rdU8 at hr
    split at hr
    · cases hr; exact hp
    · cases hr

theorem gSrc : Good rdSrc (fun s => lowB 1 (if s then 1 else 0)) (fun _ => false) := by
  refine ⟨?_, ?_, ?_⟩
  · intro B p s hd hs
    unfold rdSrc
    rw [gU8.fwd (x := if s then 1 else 0) (by cases s <;> rfl) hs]
    cases s <;> rfl
  · intro B p q s hp hr
    obtain ⟨⟨n, q1⟩, r1, hr⟩ := bind_eq_ok hr
    obtain ⟨k1, k2, rfl⟩ := gU8.bwd hp r1
    simp only at hr
    split at hr
    · cases hr
    · rename_i hn
      cases hr
      have : n = 0 ∨ n = 1 := by omega
      rcases this with rfl | rfl
      · exact ⟨rfl, k2, rfl⟩
      · exact ⟨rfl, k2, rfl⟩
  · intro B p q hp hr
    rcases bind_eq_err hr with r1 | ⟨⟨n, q1⟩, r1, hr⟩
    · exact gU8.err hp r1
    · simp only at hr
      split at hr
      · cases hr; exact hp
      · cases hr

theorem gText : Good rdText nameB nameW := by
  have h4 : (256 : Nat) ^ 4 = 4294967296 := by decide
  have hds : ∀ s : ByteArray, s.data.toList.length = s.size := fun s => rfl
  refine ⟨?_, ?_, ?_⟩
  · intro B p s hd hs
    have hn : s.size ≤ 255 := by unfold nameW at hd; simpa using hd
    unfold nameB at hs ⊢
    rw [if_neg (by omega)] at hs ⊢
    obtain ⟨s1, s2⟩ := std_app.1 hs
    have l1 := s1.1
    have v1 := s1.2
    have l2 := s2.1
    have v2 := s2.2
    rw [lowB_len] at l1 v1 l2 v2
    rw [hds] at l2 v2
    have hN : txtN B p = s.size := by unfold txtN; rw [v1, highN_lowB, h4, Nat.mod_eq_of_lt (by omega)]
    have hE : txtE B p 0 255 = 0 := by
      unfold txtE
      rw [if_neg (by omega), if_neg (by omega), hN, if_neg (by omega), if_neg (by omega)]
    unfold rdText
    rw [if_pos hE]
    have hV : txtV B p 0 255 = s.data.toList := by unfold txtV; rw [if_pos hE, hN, v2]
    have hP : txtP B p 0 255 = p + 4 + s.size := by unfold txtP; rw [if_pos hE, hN]
    rw [hV, hP, List.length_append, lowB_len, hds, Array.toArray_toList, Nat.add_assoc]
  · intro B p q s hp hr
    unfold rdText at hr
    split at hr
    · rename_i hE
      cases hr
      unfold txtE at hE
      rw [if_neg (by omega)] at hE
      split at hE
      · omega
      · split at hE
        · omega
        · split at hE
          · omega
          · rename_i h1 h2 h3
            have hE0 : txtE B p 0 255 = 0 := by unfold txtE; rw [if_neg (by omega), if_neg h1, if_neg h2, if_neg h3]
            have hV : txtV B p 0 255 = (B.drop (p + 4)).take (txtN B p) := by unfold txtV; rw [if_pos hE0]
            have hP : txtP B p 0 255 = p + 4 + txtN B p := by unfold txtP; rw [if_pos hE0]
            have hlen : ((B.drop (p + 4)).take (txtN B p)).length = txtN B p := by rw [List.length_take, List.length_drop]; omega
            have hsz : (⟨(txtV B p 0 255).toArray⟩ : ByteArray).size = txtN B p := by show (txtV B p 0 255).toArray.size = _; rw [hV, List.size_toArray, hlen]
            have hl4 : ((B.drop p).take 4).length = 4 := by rw [List.length_take, List.length_drop]; omega
            have hlow : lowB 4 (txtN B p) = (B.drop p).take 4 := by have := lowB_highN ((B.drop p).take 4); rw [hl4] at this; exact this
            have hnm : nameB ⟨(txtV B p 0 255).toArray⟩ = (B.drop p).take 4 ++ (B.drop (p + 4)).take (txtN B p) := by
              unfold nameB
              rw [if_neg (by rw [hsz]; omega), hsz, hlow, hV]
            refine ⟨by unfold nameW; rw [hsz]; simp; omega, ?_, ?_⟩
            · rw [hnm]
              refine std_app.2 ⟨⟨by rw [hl4]; omega, by rw [hl4]⟩, ?_⟩
              rw [hl4]
              exact ⟨by rw [hlen]; omega, by rw [hlen]⟩
            · rw [hP, hnm, List.length_append, hl4, hlen]; omega
    · cases hr
  · intro B p q hp hr
    unfold rdText at hr
    split at hr
    · cases hr
    · cases hr; exact hp

theorem gMany {α : Type} {f : List UInt8 → Nat → Rs α} {e : α → List UInt8} {d : α → Bool} (h : Good f e d) (B : List UInt8) : ∀ (n p : Nat), p ≤ B.length →
    (∀ l : List α, l.length = n → l.any d = false → Std B p (l.flatMap e) → rdMany (f B) n p = .ok (l, p + (l.flatMap e).length)) ∧
    (∀ l q, rdMany (f B) n p = .ok (l, q) → l.length = n ∧ l.any d = false ∧ Std B p (l.flatMap e) ∧ q = p + (l.flatMap e).length) ∧ (∀ q, rdMany (f B) n p = .error q → q ≤ B.length) := by
  intro n
  induction n with
  | zero =>
    intro p hp
    refine ⟨?_, ?_, ?_⟩
    · intro l hl _ _
      rw [List.length_eq_zero_iff.1 hl]; rfl
    · intro l q hr
      cases hr
      exact ⟨rfl, rfl, std_nil B p hp, rfl⟩
    · intro q hr; cases hr
  | succ n ih =>
    intro p hp
    obtain ⟨i1, i2, i3⟩ := ih p hp
    refine ⟨?_, ?_, ?_⟩
    · intro l hl hd hs
      obtain ⟨l', x, rfl⟩ : ∃ l' x, l = l' ++ [x] := ⟨l.dropLast, l.getLast (by intro e; rw [e] at hl; simp at hl), (List.dropLast_concat_getLast _).symm⟩
      rw [List.any_append, Bool.or_eq_false_iff] at hd
      rw [List.flatMap_append] at hs ⊢
      obtain ⟨s1, s2⟩ := std_app.1 hs
      have hx : d x = false := by simpa using hd.2
      have s3 : Std B (p + (l'.flatMap e).length) (e x) := by simpa using s2
      unfold rdMany
      rw [i1 l' (by simpa using hl) hd.1 s1]
      show (f B (p + (l'.flatMap e).length)).bind _ = _
      rw [h.fwd hx s3]
      show Except.ok (l' ++ [x], _) = _
      congr 2
      simp [Nat.add_assoc]
    · intro l q hr
      unfold rdMany at hr
      obtain ⟨⟨l', q1⟩, r1, hr⟩ := bind_eq_ok hr
      obtain ⟨⟨x, q2⟩, r2, hr⟩ := bind_eq_ok hr
      cases hr
      obtain ⟨k1, k2, k3, rfl⟩ := i2 l' q1 r1
      obtain ⟨k4, k5, rfl⟩ := h.bwd k3.1 r2
      refine ⟨by simp [k1], by rw [List.any_append, k2]; simp [k4], ?_, ?_⟩
      · rw [List.flatMap_append]; exact std_app.2 ⟨k3, by simpa using k5⟩
      · simp [Nat.add_assoc]
    · intro q hr
      unfold rdMany at hr
      rcases bind_eq_err hr with r1 | ⟨⟨l', q1⟩, r1, hr⟩
      · exact i3 q r1
      · obtain ⟨k1, k2, k3, rfl⟩ := i2 l' q1 r1
        rcases bind_eq_err hr with r2 | ⟨⟨x, q2⟩, r2, hr⟩
        · exact h.err k3.1 r2
        · cases hr
theorem Good.list {α : Type} {f : List UInt8 → Nat → Rs α} {e : α → List UInt8} {d : α → Bool} (h : Good f e d) : Good (fun B p => rdList B (f B) p) (listB e) (listW d) := by
  refine ⟨?_, ?_, ?_⟩
  · intro B p l hd hs
    unfold listW at hd
    rw [Bool.or_eq_false_iff] at hd
    have hn : ¬ 255 < l.length := by simpa using hd.1
    unfold listB at hs ⊢
    rw [if_neg hn] at hs ⊢
    obtain ⟨s1, s2⟩ := std_app.1 hs
    unfold rdList
    rw [gU8.fwd (x := l.length) hd.1 s1]
    show rdMany (f B) l.length (p + (lowB 1 l.length).length) = _
    rw [(gMany h B l.length _ s1.1).1 l rfl hd.2 s2, List.length_append, Nat.add_assoc]
  · intro B p q l hp hr
    obtain ⟨⟨n, q1⟩, r1, hr⟩ := bind_eq_ok hr
    obtain ⟨k1, k2, rfl⟩ := gU8.bwd hp r1
    obtain ⟨k3, k4, k5, rfl⟩ := (gMany h B n _ k2.1).2.1 l q hr
    subst k3
    have hn : ¬ 255 < l.length := by simpa using k1
    have e1 : listB e l = lowB 1 l.length ++ l.flatMap e := by unfold listB; rw [if_neg hn]
    rw [e1]
    exact ⟨by unfold listW; rw [k1, k4]; rfl, std_app.2 ⟨k2, k5⟩, by rw [List.length_append, Nat.add_assoc]⟩
  · intro B p q hp hr
    rcases bind_eq_err hr with r1 | ⟨⟨n, q1⟩, r1, hr⟩
    · exact gU8.err hp r1
    · obtain ⟨k1, k2, rfl⟩ := gU8.bwd hp r1
      exact (gMany h B n _ k2.1).2.2 q hr
end Go.Proofs.Ytmkeccibminnhaa
