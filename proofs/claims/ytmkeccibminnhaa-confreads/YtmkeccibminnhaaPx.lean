import Derived.Test.YtmkeccibminnhaaRe
import Derived.Test.YtmkeccibminnhaaRp
import Derived.Test.YtmkeccibminnhaaEn
namespace Go.Proofs.Ytmkeccibminnhaa
open Go.RowKit
set_option linter.unusedVariables false

def pbody (x : PCfg) : List UInt8 := lowB 4 826493762 ++ x.e
def pform (x : PCfg) : List UInt8 := pbody x ++ lowB 4 (sumN (pbody x))

theorem winE : Win.e = Win.e2 := by
  funext x
  have h : nb (inc x.p) = nb (x.p + 1) := by
    unfold nb
    congr 2
    show IntKind.i64.wrap (x.p + 1) % 4294967296 = _
    rw [IntKind.wrap_i64]; omega
  unfold Win.e Win.e2 Win.ns nbs
  simp only [List.flatMap_cons, h]
theorem winD {x : Win} (h : x.Fine) : x.d = x.d2 := by
  obtain ⟨⟨h1, h2⟩, _⟩ := h
  have hw : wN (inc x.p) = wN (x.p + 1) := by
    unfold wN
    show (decide (IntKind.i64.wrap (x.p + 1) < 0) || decide (4294967295 < IntKind.i64.wrap (x.p + 1))) = _
    rw [IntKind.wrap_i64, Bool.eq_iff_iff]; simp; omega
  unfold Win.d Win.d2 Win.ns wNs
  simp only [List.any_cons, hw]
theorem listB_map {α β : Type} (e : β → List UInt8) (g : α → β) (l : List α) : listB e (l.map g) = listB (fun x => e (g x)) l := by
  unfold listB; rw [List.length_map, List.flatMap_map]
theorem listW_map {α β : Type} (d : β → Bool) (g : α → β) (l : List α) : listW d (l.map g) = listW (fun x => d (g x)) l := by
  unfold listW; rw [List.length_map, List.any_map]; rfl
theorem any_cong {α : Type} {d d' : α → Bool} {l : List α} (h : ∀ x ∈ l, d x = d' x) : l.any d = l.any d' := by
  induction l with
  | nil => rfl
  | cons x l ih => rw [List.any_cons, List.any_cons, h x (by simp), ih fun y hy => h y (by simp [hy])]
theorem listW_cong {α : Type} {d d' : α → Bool} {l : List α} (h : ∀ x ∈ l, d x = d' x) : listW d l = listW d' l := by unfold listW; rw [any_cong h]
theorem cfgE (x : Cfg) : x.e = x.pure.e := by
  unfold Cfg.e PCfg.e Cfg.pure Cfg.ns
  simp only [listB_map]
  rw [show (fun c : Core => listB Win.e2 c.ws) = Core.e from by funext c; unfold Core.e; rw [winE]]
  rfl
theorem cfgD (x : Cfg) (h : ∀ c ∈ x.cs, ∀ y ∈ c.ws, y.Fine) : x.d = x.pure.d := by
  unfold Cfg.d PCfg.d Cfg.pure Cfg.ns
  simp only [listW_map]
  rw [show listW Core.d x.cs = listW (fun c => listW Win.d2 c.ws) x.cs from listW_cong fun c hc => listW_cong fun y hy => winD (h c hc y hy)]
  rfl
theorem cfgForm (x : Cfg) : form x = pform x.pure := by
  unfold form pform body pbody markB
  rw [cfgE]

theorem std_self (E F : List UInt8) : Std (E ++ F) 0 E := ⟨by simp, by simp⟩
theorem std_mid (A E F : List UInt8) : Std (A ++ (E ++ F)) A.length E := ⟨by simp, by simp⟩
theorem std_more {B E : List UInt8} {p : Nat} (h : Std B p E) (M : List UInt8) : Std (B ++ M) p E := by
  refine ⟨by rw [List.length_append]; have := h.1; omega, ?_⟩
  rw [List.drop_append_of_le_length (by have := h.1; omega), List.take_append_of_le_length (by rw [List.length_drop]; have := h.1; omega)]
  exact h.2
theorem std_less {B E : List UInt8} {p n : Nat} (h : Std (B.take n) p E) : Std B p E := by
  have h1 := h.1
  rw [List.length_take] at h1
  refine ⟨by omega, ?_⟩
  have h2 := h.2
  rw [List.drop_take, List.take_take, Nat.min_eq_left (by omega)] at h2
  exact h2
theorem pform_len (x : PCfg) : (pform x).length = 4 + x.e.length + 4 := by
  unfold pform pbody; rw [List.length_append, List.length_append, lowB_len, lowB_len]

/-- Behind a form. -/
theorem rd_form (x : PCfg) (hd : x.d = false) (M : List UInt8) : rdMark (pform x ++ M) 0 = .ok ((), 4) ∧ rdCfg (pform x ++ M) 4 = .ok (x, 4 + x.e.length) := by
  have e1 : pform x ++ M = lowB 4 826493762 ++ (x.e ++ (lowB 4 (sumN (pbody x)) ++ M)) := by unfold pform pbody; simp only [List.append_assoc]
  rw [e1]
  refine ⟨?_, ?_⟩
  · have := gMark.fwd (x := ()) rfl (std_self (lowB 4 826493762) (x.e ++ (lowB 4 (sumN (pbody x)) ++ M)))
    rw [lowB_len] at this; exact this
  · have := gCfg.fwd hd (std_mid (lowB 4 826493762) x.e (lowB 4 (sumN (pbody x)) ++ M))
    rw [lowB_len] at this; exact this
theorem dec_of {B : List UInt8} {x : PCfg} {p q : Nat} (h1 : rdMark B 0 = .ok ((), p)) (h2 : rdCfg B p = .ok (x, q)) : dec B = match rdEnd B q with | .error e => .error e | .ok _ => .ok x := by
  unfold dec; rw [h1]; simp only; rw [h2]; rfl
theorem dec_form (x : PCfg) (hd : x.d = false) : dec (pform x) = .ok x := by
  obtain ⟨h1, h2⟩ := rd_form x hd []
  rw [List.append_nil] at h1 h2
  rw [dec_of h1 h2]
  have hl := pform_len x
  have hb : (pform x).take (4 + x.e.length) = pbody x := by
    have : (pbody x).length = 4 + x.e.length := by unfold pbody; rw [List.length_append, lowB_len]
    unfold pform; rw [← this]; simp
  have hv : highN (((pform x).drop (4 + x.e.length)).take 4) = sumN (pbody x) := by
    have h3 : (pbody x).length = 4 + x.e.length := by unfold pbody; rw [List.length_append, lowB_len]
    have h4 : (pform x).drop (4 + x.e.length) = lowB 4 (sumN (pbody x)) := by unfold pform; rw [← h3]; simp
    rw [h4, List.take_of_length_le (by rw [lowB_len]; exact Nat.le_refl _), highN_lowB, Nat.mod_eq_of_lt]
    have := sumN_lt (pbody x)
    have e : (256 : Nat) ^ 4 = 4294967296 := by decide
    omega
  unfold rdEnd
  rw [if_neg (by omega), if_neg (by omega), hb, if_pos hv]
theorem dec_more (x : PCfg) (hd : x.d = false) (M : List UInt8) (hM : M ≠ []) : dec (pform x ++ M) = .error ((pform x).length, 110) := by
  obtain ⟨h1, h2⟩ := rd_form x hd M
  rw [dec_of h1 h2]
  have hl := pform_len x
  have : 0 < M.length := List.length_pos_iff.2 hM
  unfold rdEnd
  rw [if_neg (by rw [List.length_append]; omega), if_pos (by rw [List.length_append]; omega), hl]
/-- What was read. -/
theorem dec_ok {B : List UInt8} {x : PCfg} (h : dec B = .ok x) : x.d = false ∧ B = pform x := by
  unfold dec at h
  split at h
  · cases h
  · rename_i r h1
    split at h
    · cases h
    · rename_i y h2
      split at h
      · cases h
      · rename_i u h3
        cases h
        obtain ⟨r1, r2⟩ := r
        obtain ⟨y1, y2⟩ := y
        obtain ⟨_, k1, rfl⟩ := gMark.bwd (Nat.zero_le _) h1
        obtain ⟨k2, k3, rfl⟩ := gCfg.bwd k1.1 h2
        refine ⟨k2, ?_⟩
        have l1 : (lowB 4 826493762).length = 4 := lowB_len _ _
        simp only [l1, Nat.zero_add] at k1 k3 h3
        unfold rdEnd at h3
        split at h3
        · cases h3
        · split at h3
          · cases h3
          · split at h3
            · rename_i h5 h6 h7
              have hb : B.take (4 + y1.e.length) = pbody y1 := by
                have := (std_app (B := B) (p := 0) (E := lowB 4 826493762) (F := y1.e)).2 ⟨k1, by rw [l1, Nat.zero_add]; exact k3⟩
                have h8 := this.2
                rw [List.length_append, l1, List.drop_zero] at h8
                exact h8
              have hlen : (B.drop (4 + y1.e.length)).length = 4 := by rw [List.length_drop]; omega
              have hs : B.drop (4 + y1.e.length) = lowB 4 (sumN (pbody y1)) := by
                rw [List.take_of_length_le (by omega), hb] at h7
                rw [← h7]
                have := lowB_highN (B.drop (4 + y1.e.length))
                rw [hlen] at this
                exact this.symm
              unfold pform
              rw [← hb, ← List.take_append_drop (4 + y1.e.length) B]
              congr 1
              · rw [List.take_append_drop]
              · rw [List.take_append_drop, hb]; exact hs
            · cases h3
theorem dec_err {B : List UInt8} {q : Nat} {k : Int} (h : dec B = .error (q, k)) : q ≤ B.length ∧ (k = 110 ∨ k = 111) := by
  unfold dec at h
  split at h
  · rename_i q' h1
    cases h
    exact ⟨gMark.err (Nat.zero_le _) h1, .inl rfl⟩
  · rename_i r h1
    obtain ⟨r1, r2⟩ := r
    obtain ⟨_, k1, rfl⟩ := gMark.bwd (Nat.zero_le _) h1
    split at h
    · rename_i q' h2
      cases h
      exact ⟨gCfg.err k1.1 h2, .inl rfl⟩
    · rename_i y h2
      obtain ⟨y1, y2⟩ := y
      obtain ⟨k2, k3, rfl⟩ := gCfg.bwd k1.1 h2
      split at h
      · rename_i e h3
        cases h
        unfold rdEnd at h3
        have := k3.1
        split at h3
        · cases h3; exact ⟨this, .inl rfl⟩
        · split at h3
          · cases h3; exact ⟨by simp only at *; omega, .inl rfl⟩
          · split at h3
            · cases h3
            · cases h3; exact ⟨this, .inr rfl⟩
      · cases h
theorem dec_cut (x : PCfg) (hd : x.d = false) (n : Nat) (hn : n < (pform x).length) : ∃ q, dec ((pform x).take n) = .error (q, 110) ∧ q ≤ n := by
  have hlen : ((pform x).take n).length = n := by rw [List.length_take]; omega
  cases h : dec ((pform x).take n) with
  | ok y =>
    obtain ⟨h1, h2⟩ := dec_ok h
    obtain ⟨a1, a2⟩ := rd_form x hd []
    rw [List.append_nil] at a1 a2
    obtain ⟨b1, b2⟩ := rd_form y h1 []
    rw [List.append_nil, ← h2] at b1 b2
    have s2 := std_less (gCfg.bwd (by rw [hlen]; have := (gMark.bwd (Nat.zero_le _) b1).2.1.1; rw [hlen, lowB_len] at this; omega) b2).2.1
    have := gCfg.fwd h1 s2
    rw [a2] at this
    injection this with this
    injection this with e1 e2
    rw [h2, ← e1] at hlen
    omega
  | error e =>
    obtain ⟨q, k⟩ := e
    obtain ⟨h1, h2⟩ := dec_err h
    rw [hlen] at h1
    rcases h2 with rfl | rfl
    · exact ⟨q, rfl, h1⟩
    · exfalso
      unfold dec at h
      split at h
      · cases h
      · rename_i r g1
        obtain ⟨r1, r2⟩ := r
        obtain ⟨_, k1, rfl⟩ := gMark.bwd (Nat.zero_le _) g1
        split at h
        · cases h
        · rename_i y g2
          obtain ⟨y1, y2⟩ := y
          obtain ⟨k2, k3, rfl⟩ := gCfg.bwd k1.1 g2
          obtain ⟨a1, a2⟩ := rd_form x hd []
          rw [List.append_nil] at a1 a2
          have l1 : (lowB 4 826493762).length = 4 := lowB_len _ _
          have := gCfg.fwd k2 (std_less k3)
          rw [l1, Nat.zero_add, a2] at this
          injection this with this
          injection this with e1 e2
          split at h
          · rename_i e h3
            cases h
            unfold rdEnd at h3
            have hpl := pform_len x
            rw [hlen] at h3
            rw [if_pos (by simp only [l1, Nat.zero_add] at *; rw [← e1]; omega)] at h3
            cases h3
          · cases h
end Go.Proofs.Ytmkeccibminnhaa
