import Derived.Test.YtfcgpjojjehkiaaRj
namespace Go.Proofs.Ytfcgpjojjehkiaa
open Go.RowKit
set_option linter.unusedVariables false

theorem dlE_sd {nil : Bool} {xs : List UInt32} {p n : Int} {ports : List Int} (e : sdE nil n ≠ 0) : dlE nil xs p n ports = sdE nil n := by
  unfold dlE
  cases nil
  · rw [if_neg (by simp)]
    have h1 : sdE false n = 1 := by
      unfold sdE at *
      simp only [Bool.false_eq_true, if_false] at e ⊢
      by_cases h1 : n < 1 ∨ 16 < n
      · rw [if_pos h1]
      · rw [if_neg h1] at e; exact absurd rfl e
    by_cases hc : ports.length < 1 ∨ 4 < ports.length
    · rw [if_pos hc, h1]
    · rw [if_neg hc]
      have ht : takesE xs.length (boxes p n ports) = 1 := by
        unfold boxes takesE
        have : Bx.tk ⟨p, 2, n⟩ xs.length = 1 := by show tkE false xs.length p 2 n = 1; rw [tkE_sd e, h1]
        rw [this, if_pos (by omega)]
      unfold laE
      rw [ht, if_pos (by omega), h1]
  · rfl

theorem okAt_zero (xs : List UInt32) (p n : Int) (ports : List Int) : okAt xs (boxes p n ports) 0 = rtB xs ⟨p, 2, n⟩ := by
  unfold okAt
  show (rtB xs ⟨p, 2, n⟩ && _) = _
  simp
theorem okAt_succ (xs : List UInt32) (p n : Int) (ports : List Int) (i : Nat) (hi : i < ports.length) : okAt xs (boxes p n ports) (i + 1) = (rtB xs (bxq n (ports.getD i 0)) && apOk p n ports i) := by
  have e : (boxes p n ports).getD (i + 1) default = bxq n (ports.getD i 0) := by
    rw [List.getD_eq_getElem?_getD]
    show ((pbx n ports)[i]?).getD default = _
    unfold pbx
    rw [List.getElem?_map, List.getElem?_eq_getElem hi, List.getD_eq_getElem?_getD, List.getElem?_eq_getElem hi]; rfl
  unfold okAt apOk
  rw [e]
  congr 2
  have e2 : (boxes p n ports).take (i + 1) = ⟨p, 2, n⟩ :: (pbx n ports).take i := rfl
  rw [e2, List.any_cons]
  congr 1
  unfold pbx
  rw [← List.map_take, List.any_map]
  rfl
theorem form_iff (xs : List UInt32) (p n : Int) (ports : List Int) : formB xs (boxes p n ports) = true ↔ rtB xs ⟨p, 2, n⟩ = true ∧ apB p n ports = true ∧ ∀ i, i < ports.length → rtB xs (bxq n (ports.getD i 0)) = true := by
  unfold formB apB
  rw [List.all_eq_true, List.all_eq_true, boxes_length]
  constructor
  · intro h
    refine ⟨by rw [← okAt_zero xs p n ports]; exact h 0 (by simp), fun i hi => ?_, fun i hi => ?_⟩
    · rw [List.mem_range] at hi
      have := h (i + 1) (by simp; omega)
      rw [okAt_succ _ _ _ _ _ hi, Bool.and_eq_true] at this
      exact this.2
    · have := h (i + 1) (by simp; omega)
      rw [okAt_succ _ _ _ _ _ hi, Bool.and_eq_true] at this
      exact this.1
  · rintro ⟨h1, h2, h3⟩ i hi
    rw [List.mem_range] at hi
    cases i with
    | zero => rw [okAt_zero]; exact h1
    | succ i =>
      rw [okAt_succ _ _ _ _ _ (by omega), h3 i (by omega), h2 i (by rw [List.mem_range]; omega)]; rfl
theorem laE_form {xs : List UInt32} {p n : Int} {ports : List Int} (ht : ∀ b ∈ boxes p n ports, b.tk xs.length = 0) : laE xs (boxes p n ports) = if formB xs (boxes p n ports) then 0 else 191 := by
  unfold laE
  rw [takesE_all ht, if_neg (by simp)]

/-- Right words are those that are laid for what they say. -/
theorem right_same3 {n : Nat} {l : List UInt32} (hl : l.length = 3 + n) (hr : rightB 3 n l = true) : hdW 3 n (hT l) (hF 3 l) (hM 3 l) = l := by
  unfold hT hF hT
  by_cases h0 : wd l 0 = 0
  · rw [decide_eq_false (by simpa using h0)]
    unfold rightB at hr
    rw [if_pos h0, zeroB_eq, hl] at hr
    have : List.replicate (3 + n) 0 = l := of_decide_eq_true hr
    show List.replicate (3 + n) 0 = l
    exact this
  · rw [decide_eq_true h0]
    obtain ⟨-, k1, k2⟩ := right_len hr h0
    have h := right_eq3 hl h0 k1 k2
    rw [hr] at h
    have := of_decide_eq_true h.symm
    simpa using this
theorem hdW_age {n : Nat} {T F : Bool} {ms : List UInt32} : lay (hdW 3 n T F ms) 1 [0] = hdW 3 n T false ms := by
  cases T
  · show lay (List.replicate (3 + n) 0) 1 [0] = List.replicate (3 + n) 0
    rw [Nat.add_comm 3 n]; simp [lay, List.replicate_succ]
  · simp [hdW, hdP, lay]
theorem right_age {n : Nat} {l : List UInt32} (hl : l.length = 3 + n) (hr : rightB 3 n l = true) : hdW 3 n (hT l) false (hM 3 l) = lay l 1 [0] := by
  have := right_same3 hl hr
  rw [← hdW_age (F := hF 3 l), this]
theorem lay_lay_win (ys : List UInt32) (q m : Nat) (hm : 2 ≤ m) (h : q + m ≤ ys.length) : lay ys q (lay (win ys q m) 1 [0]) = lay ys (q + 1) [0] := by
  have hl := win_length ys q m h
  have hl2 : (lay (win ys q m) 1 [0]).length = m := by rw [lay_length _ _ _ (by simp; omega)]; exact hl
  apply List.ext_getElem?
  intro i
  have g1 := lay_get? ys q (lay (win ys q m) 1 [0]) (by omega) i
  have g2 := lay_get? ys (q + 1) [0] (by simp; omega) i
  rw [g1, g2, hl2]
  by_cases c1 : q ≤ i ∧ i < q + m
  · rw [if_pos c1, lay_get? (win ys q m) 1 [0] (by simp; omega), win_get?]
    by_cases c2 : i = q + 1
    · subst c2
      rw [if_pos (by simp), if_pos (by simp)]
      simp
    · rw [if_neg (by simp; omega), if_pos (by omega), if_neg (by simp; omega)]; congr 1; omega
  · rw [if_neg c1, if_neg (by simp; omega)]

/-- The ports lie apart, by what apart says. -/
theorem apB_pw {p n : Int} {ports : List Int} (hn : 1 ≤ n) (hp : 0 ≤ p) (hq : ∀ q ∈ ports, 0 ≤ q) (h : apB p n ports = true) :
    ((pbx n ports).map fun b => b.p.toNat).Pairwise (fun a b => Apt a (3 + n.toNat) b (3 + n.toNat)) ∧ ∀ q ∈ (pbx n ports).map (fun b => b.p.toNat), Apt q (3 + n.toNat) p.toNat (2 + n.toNat) := by
  have e : (pbx n ports).map (fun b => b.p.toNat) = ports.map Int.toNat := by unfold pbx; rw [List.map_map]; rfl
  have hap : ∀ i, (hi : i < ports.length) → (bxq n ports[i]).meets ⟨p, 2, n⟩ = false ∧ ∀ k, (hk : k < i) → (bxq n ports[i]).meets (bxq n (ports[k]'(by omega))) = false := by
    intro i hi
    unfold apB at h
    rw [List.all_eq_true] at h
    have h1 := h i (by rw [List.mem_range]; exact hi)
    unfold apOk at h1
    rw [List.getD_eq_getElem?_getD, List.getElem?_eq_getElem hi, Bool.not_eq_true', Bool.or_eq_false_iff, List.any_eq_false] at h1
    refine ⟨h1.1, fun k hk => ?_⟩
    have := h1.2 (ports[k]'(by omega)) (by
      refine List.mem_of_getElem? (i := k) ?_
      rw [List.getElem?_take, if_pos hk, List.getElem?_eq_getElem])
    simpa using this
  rw [e]
  constructor
  · rw [List.pairwise_map, List.pairwise_iff_getElem]
    intro i j hi hj hij
    have h1 := (hap j hj).2 i hij
    have q1 := hq _ (List.getElem_mem hi)
    have q2 := hq _ (List.getElem_mem hj)
    rw [meets_iff] at h1
    unfold Apt
    rw [Bool.and_eq_false_iff, decide_eq_false_iff_not, decide_eq_false_iff_not] at h1
    simp only at h1
    omega
  · intro q hq'
    obtain ⟨r, hr, rfl⟩ := List.mem_map.1 hq'
    obtain ⟨i, hi, rfl⟩ := List.getElem_of_mem hr
    have h1 := (hap i hi).1
    have q1 := hq _ hr
    rw [meets_iff] at h1
    unfold Apt
    rw [Bool.and_eq_false_iff, decide_eq_false_iff_not, decide_eq_false_iff_not] at h1
    simp only at h1
    omega

theorem foldl_cong {α β : Type} {f g : α → β → α} (l : List β) (a : α) (h : ∀ y x, x ∈ l → f y x = g y x) : l.foldl f a = l.foldl g a := by
  induction l generalizing a with
  | nil => rfl
  | cons x l ih => rw [List.foldl_cons, List.foldl_cons, h a x (by simp)]; exact ih _ fun y z hz => h y z (by simp [hz])

/-- What is laid on a port: the stage's message, or what it held. -/
def nxt (xs : List UInt32) (p n : Int) (q : Int) : List UInt32 :=
  if wd xs p.toNat = 0 then hdW 3 n.toNat (hT (wn xs (bxq n q))) false (hM 3 (wn xs (bxq n q))) else hdW 3 n.toNat true true (hM 2 (wn xs ⟨p, 2, n⟩))
def nxtX (xs : List UInt32) (p n : Int) (ports : List Int) : List UInt32 := ports.foldl (fun ys q => lay ys q.toNat (nxt xs p n q)) xs

theorem nxt_length {xs : List UInt32} {p n q : Int} (h1 : 1 ≤ n) (hq : (wn xs (bxq n q)).length = 3 + n.toNat) (hr : rtB xs (bxq n q) = true) (hp : (wn xs ⟨p, 2, n⟩).length = 2 + n.toNat) (hr2 : rtB xs ⟨p, 2, n⟩ = true) : (nxt xs p n q).length = 3 + n.toNat := by
  unfold nxt
  split
  · rw [right_age hq hr, lay_length _ _ _ (by simp; omega)]; exact hq
  · refine hdW_length (.inr rfl) ?_
    unfold hM
    split
    · simp
    · rename_i h0
      obtain ⟨-, k1, k2⟩ := right_len hr2 h0
      rw [List.length_take, List.length_drop]
      have k3 : (wd (wn xs ⟨p, 2, n⟩) (2 - 1)).toNat ≤ n.toNat := k2
      omega

theorem nxtX_eq {xs : List UInt32} {p n : Int} {ports : List Int} (h0 : dlE false xs p n ports = 0) (hla : laE xs (boxes p n ports) = 0) :
    lay (nxtX xs p n ports) p.toNat (List.replicate (2 + n.toNat) 0) = dlX false xs p n ports := by
  obtain ⟨⟨b1, b2, b3, b4⟩, b5, b6⟩ := boxes_ok hla
  obtain ⟨ht, hok⟩ := laE_ok hla
  have hf : formB xs (boxes p n ports) = true := by
    unfold formB; rw [List.all_eq_true]; intro i hi; exact hok i (by rw [List.mem_range] at hi; exact hi)
  obtain ⟨f1, f2, f3⟩ := (form_iff xs p n ports).1 hf
  obtain ⟨a1, a2⟩ := apB_pw b1 b3 (fun q hq => (b5 q hq).1) f2
  have hqs : ∀ q ∈ (pbx n ports).map (fun b => b.p.toNat), q + (3 + n.toNat) ≤ xs.length := by
    intro q hq
    obtain ⟨b, hb, rfl⟩ := List.mem_map.1 hq
    obtain ⟨r, hr, rfl⟩ := List.mem_map.1 hb
    have := b5 r hr
    show r.toNat + _ ≤ _
    omega
  have enx : nxtX xs p n ports = ((pbx n ports).map fun b => b.p.toNat).foldl (fun ys q => lay ys q (nxt xs p n (q : Int))) xs := by
    unfold nxtX pbx
    rw [List.map_map, List.foldl_map]
    refine foldl_cong _ _ fun ys q hq => ?_
    have := b5 q hq
    show lay ys q.toNat (nxt xs p n q) = lay ys q.toNat (nxt xs p n ((q.toNat : Nat) : Int))
    rw [show ((q.toNat : Nat) : Int) = q by omega]
  unfold dlX
  rw [if_pos h0]
  have hrt : ∀ q : Nat, q ∈ (pbx n ports).map (fun b => b.p.toNat) → rtB xs (bxq n (q : Int)) = true := by
    intro q hq
    obtain ⟨b, hb, rfl⟩ := List.mem_map.1 hq
    obtain ⟨r, hr, rfl⟩ := List.mem_map.1 hb
    obtain ⟨i, hi, rfl⟩ := List.getElem_of_mem hr
    have := f3 i hi
    rw [List.getD_eq_getElem?_getD, List.getElem?_eq_getElem hi] at this
    have h2 := b5 _ hr
    show rtB xs (bxq n (((ports[i]).toNat : Nat) : Int)) = true
    rw [show (((ports[i]).toNat : Nat) : Int) = ports[i] by omega]
    exact this
  by_cases hz : wd xs p.toNat = 0
  · rw [if_pos hz, ageX_eq, enx]
    have hS := step_age (3 + n.toNat) (by omega)
    have hfe := hS.fold_eq (step' := fun ys q => lay ys q (nxt xs p n (q : Int))) _ xs xs rfl hqs a1 (fun _ _ => rfl) (by
      intro ys q hq hyl hw
      have hwl : (win xs q (3 + n.toNat)).length = 3 + n.toNat := win_length _ _ _ (hqs q hq)
      have e1 : nxt xs p n (q : Int) = lay (win xs q (3 + n.toNat)) 1 [0] := by
        unfold nxt
        rw [if_pos hz]
        exact right_age (l := win xs q (3 + n.toNat)) hwl (hrt q hq)
      show lay ys q (nxt xs p n (q : Int)) = lay ys (q + 1) [0]
      rw [e1, ← hw]
      exact lay_lay_win ys q (3 + n.toNat) (by omega) (by rw [hyl]; exact hqs q hq))
    rw [hfe]
    have hl2 := hS.fold_len _ _ hqs
    have hw0 := hS.fold_other _ _ hqs p.toNat (2 + n.toNat) a2
    have hst : win xs p.toNat (2 + n.toNat) = List.replicate (2 + n.toNat) 0 := by
      have hr := b6
      unfold rightB at hr
      have hwl : (win xs p.toNat (2 + n.toNat)).length = 2 + n.toNat := win_length _ _ _ (by omega)
      rw [if_pos (by rw [win_wd _ _ _ _ (by omega), Nat.add_zero]; exact hz), zeroB_eq, hwl] at hr
      exact (of_decide_eq_true hr).symm
    rw [hst] at hw0
    have := lay_win (((pbx n ports).map fun b => b.p.toNat).foldl (fun ys q => lay ys (q + 1) [0]) xs) p.toNat (2 + n.toNat) (by rw [hl2]; omega)
    rw [hw0] at this
    exact this
  · rw [if_neg hz, briX_eq, enx]
    congr 1
    refine foldl_cong _ _ fun ys q hq => ?_
    congr 1
    unfold nxt
    rw [if_neg hz]
    have h0' : wd (win xs p.toNat (2 + n.toNat)) 0 ≠ 0 := by rw [win_wd _ _ _ _ (by omega), Nat.add_zero]; exact hz
    obtain ⟨-, k1, k2⟩ := right_len b6 h0'
    have hw1 : wd (win xs p.toNat (2 + n.toNat)) (2 - 1) = wd xs (p.toNat + 1) := win_wd _ _ _ _ (by omega)
    rw [hw1] at k2
    have em : hM 2 (wn xs ⟨p, 2, n⟩) = win xs (p.toNat + 2) (wd xs (p.toNat + 1)).toNat := by
      show hM 2 (win xs p.toNat (2 + n.toNat)) = _
      unfold hM
      rw [if_neg h0', hw1]
      unfold win
      rw [List.drop_take, List.drop_drop, List.take_take, show 2 + n.toNat - 2 = n.toNat by omega, Nat.min_eq_left k2]
    rw [em]
    rfl

end Go.Proofs.Ytfcgpjojjehkiaa
