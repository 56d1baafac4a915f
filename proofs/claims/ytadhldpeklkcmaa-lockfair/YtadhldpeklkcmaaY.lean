import Derived.Test.YtadhldpeklkcmaaX
namespace Go.Proofs.Ytadhldpeklkcmaa
open Go.RowKit
set_option linter.unusedVariables false

theorem kvs_rest_set (Cs : List Ck) (rest : List Value) (i j : Nat) (C D : Ck) (v : Value) (hC : Cs[i]? = some C) (hj : j < 5) (hD : D.vs = C.vs.set j v) : (kvs Cs ++ rest).set (i * 5 + j) v = kvs (Cs.set i D) ++ rest := by
  have hi := (List.getElem?_eq_some_iff.1 hC).1
  rw [List.set_append_left _ _ (by rw [kvs_length]; omega), kvs_set Cs i j C D v hC hj hD]
theorem kvs_same (Cs : List Ck) (i : Nat) (C D : Ck) (hC : Cs[i]? = some C) (hD : D.vs = C.vs) : kvs (Cs.set i D) = kvs Cs := by
  have h := kvs_set Cs i 0 C D (.pointer (some ⟨C.X.b, 0, none⟩)) hC (by omega) (by rw [hD]; rfl)
  rw [← h]
  apply List.ext_getElem?
  intro k
  rw [List.getElem?_set]
  by_cases e : i * 5 + 0 = k
  · subst e
    have hi := (List.getElem?_eq_some_iff.1 hC).1
    rw [if_pos rfl, if_pos (by rw [kvs_length]; omega), kvs_get Cs i 0 C hC (by omega)]
    rfl
  · rw [if_neg e]

/-- Behind a step of one of them. -/
def FairP (w0 : World) (N mb g qb kb : Nat) (rest : List Value) (Cs : List Ck) (A G : Nat → Nat) (i : Nat) (C : Ck) (e : Ending) (w' : World) : Prop :=
  e = .returned (.bool true) ∧ ∃ (D : Ck) (xs : List UInt32) (A' G' : Nat → Nat), D.lk = C.lk ∧ D.X.b = C.X.b ∧ FR w0 w' N mb g qb kb rest (Cs.set i D) xs A' G' ∧ PI (Cs.set i D) A' G' ∧ (∀ r, A' r ≤ A r + 1) ∧ A' 4 = A 4 ∧ G' 4 = G 4

section
variable {w0 w : World} {N mb g qb kb : Nat} {rest : List Value} {Cs : List Ck} {xs : List UInt32} {A G : Nat → Nat}

theorem Ck.held_no {C : Ck} (h : C.ask = false) : C.held = C.pl.length := by unfold Ck.held; rw [h]; simp
theorem Ck.held_yes {C : Ck} (h : C.ask = true) : C.held = C.pl.length - 1 := by unfold Ck.held; rw [h]; simp

theorem PI.same (h : PI Cs A G) {i : Nat} {C D : Ck} (hC : Cs[i]? = some C) (e1 : D.lk = C.lk) (e2 : D.pl = C.pl) (e3 : D.ask = C.ask) : PI (Cs.set i D) A G := by
  have hwD : CkWf D := by
    have hw := h.mem_wf hC
    exact ⟨by rw [e1]; exact hw.up, by rw [e2, e1]; exact hw.len, by rw [e3, e2]; exact hw.pos, by rw [e1]; exact hw.top⟩
  have hh : D.held = C.held := by unfold Ck.held; rw [e3, e2]
  have tr : ∀ {j : Nat} {E : Ck}, (Cs.set i D)[j]? = some E → ∃ E' : Ck, Cs[j]? = some E' ∧ E.lk = E'.lk ∧ E.pl = E'.pl ∧ E.held = E'.held := by
    intro j E hE
    rcases get_set hE with ⟨rfl, rfl, _⟩ | ⟨_, hE'⟩
    · exact ⟨C, hC, e1, e2, hh⟩
    · exact ⟨E, hE', rfl, rfl, rfl⟩
  refine ⟨wf_set h.wf hwD, ?_, ?_, ?_, ?_, ?_⟩
  · intro j E p hE hp
    obtain ⟨E', h1, h2, h3, h4⟩ := tr hE
    rw [h2, h3]; exact h.hold j E' p h1 (by omega)
  · intro j E p hE hp
    obtain ⟨E', h1, h2, h3, h4⟩ := tr hE
    rw [h2, h3]; exact h.range j E' p h1 (by rw [← h3]; exact hp)
  · intro a b E F p q hE hF hp hq h1 h2
    obtain ⟨E', a1, a2, a3, a4⟩ := tr hE
    obtain ⟨F', b1, b2, b3, b4⟩ := tr hF
    rw [a2, b2] at h1
    rw [a3, b3] at h2
    exact h.uniq a b E' F' p q a1 b1 (by rw [← a3]; exact hp) (by rw [← b3]; exact hq) h1 h2
  · intro s t hs h1 h2
    obtain ⟨j, E, p, hE, hp, e4, e5⟩ := h.surj s t hs h1 h2
    by_cases hj : j = i
    · subst hj
      rw [hC] at hE
      cases hE
      exact ⟨j, D, p, set_get hC, by rw [e2]; exact hp, by rw [e1]; exact e4, by rw [e2]; exact e5⟩
    · exact ⟨j, E, p, set_get_ne hE hj, hp, e4, e5⟩
  · intro s hs
    have hc := cnt_set (D := D) hC s
    have c1 : claims s D = claims s C := by unfold claims; rw [e1, e2]
    rw [c1] at hc
    have := h.cnt s hs
    omega

theorem fair_moves (h : FR w0 w N mb g qb kb rest Cs xs A G) (hP : PI Cs A G) (hl5 : Cs.length ≤ 5) {i : Nat} {C : Ck} (hC : Cs[i]? = some C) (hA : ∀ r, r < 5 → A r < 9223372036854775807) (d : Nat) :
    Calls Try.prog 17 #[.pointer (some ⟨mb, 0, none⟩), .pointer (some ⟨kb, i * 5, none⟩), .slice (some ⟨qb, 0, none⟩) 5 d] w (FairP w0 N mb g qb kb rest Cs A G i C) := by
  obtain ⟨al, cl, hlv, hK⟩ := h.kn hC
  have hO := h.ok C (List.mem_of_getElem? hC)
  have hw := hP.mem_wf hC
  have hlen := hw.len
  have up1 : ∀ (f : Nat → Nat) r x, upd f r (f r + 1) x ≤ f x + 1 := by
    intro f r x
    by_cases e : x = r
    · subst e; rw [upd_eq]; omega
    · rw [upd_ne _ _ _ _ e]; omega
  cases ha : C.ask with
  | false =>
    have hh := Ck.held_no ha
    by_cases hfull : C.pl.length = C.lk.length
    · refine (moves_0 hK _ (step_full hO ha hfull) rfl rfl (by rw [hh, lkI_len]; exact hfull) d).mono fun e w' hk => ?_
      have he := hk.1
      obtain ⟨D, d1, d2, d3, d4, d5, hF⟩ := h.step hC C.pl false C.plc hk (fun vt => by
        rw [kvs_same Cs i C _ hC]
        simp [Ck.vs, Ck.held, ha, Chn.with]) h.wr hO.tk (by simp only; rw [hO.st]; unfold Ck.stN; rw [ha]) hlen (fun e => by cases e)
      exact ⟨he, D, _, A, G, d1, d5, hF, hP.same hC d1 d2 (d3.trans ha.symm), fun _ => by omega, rfl, rfl⟩
    · have hlt : C.pl.length < C.lk.length := by omega
      obtain ⟨r, hr⟩ : ∃ r, C.lk.getD C.pl.length 0 = r := ⟨_, rfl⟩
      have hr4 : r < 4 := by rw [← hr, nat_getD hlt]; exact hw.top _ (List.getElem_mem hlt)
      have hb := hP.bound hl5 hr4
      rw [ha] at hK
      have hqA := qOf_A A G (show r < 5 by omega)
      have hAr := hA r (by omega)
      refine (moves_1 hK _ (step_ask hO h.wr ha hlt hr (by omega) hb.1 (by omega)) rfl rfl (by rw [hh, lkI_len]; exact hlt) r (by omega) (by rw [hh, lkI_get _ hlt, hr]) (by rw [hqA]; omega) (by rw [hqA]; omega) d).mono fun e w' hk => ?_
      have he := hk.1
      rw [hqA, qOf_setA A G (show r < 5 by omega)] at hk
      obtain ⟨D, d1, d2, d3, d4, d5, hF⟩ := h.step hC (C.pl ++ [A r]) true (A r : Nat) hk (fun vt => by
        rw [kvs_rest_set Cs rest i 3 C ⟨C.X.with vt (plW (C.pl ++ [A r])) 2, C.lv, C.lk, C.pl ++ [A r], true, C.plc⟩ (.bool true) hC (by omega) (by simp [Ck.vs, Ck.held, ha, Chn.with]),
          kvs_rest_set _ rest i 4 _ ⟨C.X.with vt (plW (C.pl ++ [A r])) 2, C.lv, C.lk, C.pl ++ [A r], true, (A r : Nat)⟩ (.int .i64 (A r : Nat)) (set_get hC) (by omega) (by simp [Ck.vs, Ck.held, Chn.with]), List.set_set]) (h.wr.take (by omega)) rfl rfl (by simp; omega) (fun _ => ⟨by simp, by simp⟩)
      exact ⟨he, D, _, _, G, d1, d5, hF, hP.ask hC ha hlt hr d1 d2 d3, fun x => up1 A r x, upd_ne _ _ _ _ (by omega), rfl⟩
  | true =>
    have hh := Ck.held_yes ha
    have hpos := hO.pos ha
    obtain ⟨r, hr⟩ : ∃ r, C.lk.getD (C.pl.length - 1) 0 = r := ⟨_, rfl⟩
    obtain ⟨t, ht⟩ : ∃ t, C.pl.getD (C.pl.length - 1) 0 = t := ⟨_, rfl⟩
    have hlt : C.pl.length - 1 < C.lk.length := by omega
    have hr4 : r < 4 := by rw [← hr, nat_getD hlt]; exact hw.top _ (List.getElem_mem hlt)
    have hb := hP.bound hl5 hr4
    have hrg := hP.range i C (C.pl.length - 1) hC (by omega)
    rw [hr, ht] at hrg
    have hqG := qOf_G A G (show r < 5 by omega)
    have hst := step_look (xs := xs) hO h.wr ha hr ht (by omega)
    rw [ha] at hK
    by_cases he : G r = t
    · rw [if_pos (by rw [he])] at hst
      refine (moves_3 hK (by rw [hO.lk]; exact Nat.le_refl _) _ hst rfl rfl (by rw [hh, lkI_len]; exact hlt) r (by omega) (by rw [hh, lkI_get _ hlt, hr]) (by rw [hqG, hpos.2, ht, he]) d).mono fun e w' hk => ?_
      have he2 := hk.1
      obtain ⟨D, d1, d2, d3, d4, d5, hF⟩ := h.step hC C.pl false C.plc hk (fun vt => by
        rw [kvs_rest_set Cs rest i 3 C ⟨C.X.with vt C.X.tk (settledN C.X.lk C.X.tk), C.lv, C.lk, C.pl.take (C.pl.length - 1), false, C.plc⟩ (.bool false) hC (by omega) (by simp [Ck.vs, Ck.held, ha, Chn.with]),
          kvs_rest_set _ rest i 2 _ ⟨C.X.with vt C.X.tk (settledN C.X.lk C.X.tk), C.lv, C.lk, C.pl, false, C.plc⟩ (.int .i64 ((C.held + 1 : Nat) : Int)) (set_get hC) (by omega) (by
            have e3 : C.held + 1 = C.pl.length := by rw [hh]; omega
            simp [Ck.vs, Chn.with, e3]
            simp [Ck.held]), List.set_set]) h.wr hO.tk (by simp only; unfold settledN; rw [hO.tk, hO.lk, plW_len, lkI_len]; simp) hlen (fun e => by cases e)
      exact ⟨he2, D, _, A, G, d1, d5, hF, hP.got hC ha (by rw [ht, hr, he]) d1 d2 d3, fun _ => by omega, rfl, rfl⟩
    · rw [if_neg (fun e => he (ofNat_near hrg.1 (by omega) e))] at hst
      refine (moves_2 hK _ hst rfl rfl (by rw [hh, lkI_len]; exact hlt) r (by omega) (by rw [hh, lkI_get _ hlt, hr]) (by rw [hqG, hpos.2, ht]; omega) d).mono fun e w' hk => ?_
      have he2 := hk.1
      obtain ⟨D, d1, d2, d3, d4, d5, hF⟩ := h.step hC C.pl true C.plc hk (fun vt => by
        rw [kvs_same Cs i C _ hC]
        simp [Ck.vs, Ck.held, ha, Chn.with]) h.wr hO.tk (by simp only; rw [hO.st]; unfold Ck.stN; rw [ha]; simp) hlen (fun _ => hpos)
      exact ⟨he2, D, _, A, G, d1, d5, hF, hP.same hC d1 d2 (d3.trans ha.symm), fun _ => by omega, rfl, rfl⟩

theorem fair_gives (h : FR w0 w N mb g qb kb rest Cs xs A G) (hP : PI Cs A G) (hl5 : Cs.length ≤ 5) {i : Nat} {C : Ck} (hC : Cs[i]? = some C) (hA : ∀ r, r < 5 → A r < 9223372036854775807) (d : Nat) :
    Calls Try.prog 21 #[.pointer (some ⟨mb, 0, none⟩), .pointer (some ⟨kb, i * 5, none⟩), .slice (some ⟨qb, 0, none⟩) 5 d] w (FairP w0 N mb g qb kb rest Cs A G i C) := by
  obtain ⟨al, cl, hlv, hK⟩ := h.kn hC
  have hO := h.ok C (List.mem_of_getElem? hC)
  have hw := hP.mem_wf hC
  have hlen := hw.len
  cases ha : C.ask with
  | true =>
    rw [ha] at hK
    refine (gives_0 hK _ (back_asked hO ha) rfl rfl d).mono fun e w' hk => ?_
    have he2 := hk.1
    obtain ⟨D, d1, d2, d3, d4, d5, hF⟩ := h.step hC C.pl true C.plc hk (fun vt => by
      rw [kvs_same Cs i C _ hC]
      simp [Ck.vs, Ck.held, ha, Chn.with]) h.wr hO.tk (by simp only; rw [hO.st]; unfold Ck.stN; rw [ha]; simp) hlen (fun _ => hO.pos ha)
    exact ⟨he2, D, _, A, G, d1, d5, hF, hP.same hC d1 d2 (d3.trans ha.symm), fun _ => by omega, rfl, rfl⟩
  | false =>
    have hh := Ck.held_no ha
    rw [ha] at hK
    by_cases h0 : C.pl.length = 0
    · refine (gives_1 hK _ (back_none hO ha h0) rfl rfl (by rw [hh]; exact h0) d).mono fun e w' hk => ?_
      have he2 := hk.1
      obtain ⟨D, d1, d2, d3, d4, d5, hF⟩ := h.step hC C.pl false C.plc hk (fun vt => by
        rw [kvs_same Cs i C _ hC]
        simp [Ck.vs, Ck.held, ha, Chn.with]) h.wr hO.tk (by simp only; rw [hO.st]; unfold Ck.stN; rw [ha]) hlen (fun e => by cases e)
      exact ⟨he2, D, _, A, G, d1, d5, hF, hP.same hC d1 d2 (d3.trans ha.symm), fun _ => by omega, rfl, rfl⟩
    · obtain ⟨m, hm⟩ : ∃ m, C.pl.length = m + 1 := ⟨C.pl.length - 1, by omega⟩
      obtain ⟨r, hr⟩ : ∃ r, C.lk.getD m 0 = r := ⟨_, rfl⟩
      have hlt : m < C.lk.length := by omega
      have hr4 : r < 4 := by rw [← hr, nat_getD hlt]; exact hw.top _ (List.getElem_mem hlt)
      have hb := hP.bound hl5 hr4
      have hhold := hP.hold i C m hC (by omega)
      have hrg := hP.range i C m hC (by omega)
      rw [hr] at hhold hrg
      have hqG := qOf_G A G (show r < 5 by omega)
      have hAr := hA r (by omega)
      rw [hh, hm] at hK
      refine (gives_2 hK (by rw [hO.lk]; exact Nat.le_refl _) _ (back_free hO h.wr ha hm hr hhold (by omega) (by omega) (by omega)) rfl rfl (by rw [lkI_len]; exact hlt) r (by omega) (by rw [lkI_get _ hlt, hr]) (by rw [hqG]; omega) (by rw [hqG]; omega) d).mono fun e w' hk => ?_
      have he2 := hk.1
      rw [hqG, qOf_setG A G (show r < 5 by omega)] at hk
      obtain ⟨D, d1, d2, d3, d4, d5, hF⟩ := h.step hC (C.pl.take m) false C.plc hk (fun vt => by
        rw [kvs_rest_set Cs rest i 2 C ⟨C.X.with vt (plW (C.pl.take m)) 1, C.lv, C.lk, C.pl.take m, false, C.plc⟩ (.int .i64 (m : Int)) hC (by omega) (by
          have e3 : min m C.pl.length = m := by omega
          simp [Ck.vs, Ck.held, ha, Chn.with, e3])]) (h.wr.free (by omega)) rfl (by
          have e3 : (C.pl.take m).length = m := by rw [List.length_take]; omega
          simp only
          rw [e3, if_neg (by simp), if_neg (by omega)]) (by rw [List.length_take]; omega) (fun e => by cases e)
      exact ⟨he2, D, _, A, _, d1, d5, hF, hP.free hC ha hm hr d1 d2 d3, fun _ => by omega, rfl, upd_ne _ _ _ _ (by omega)⟩
end

end Go.Proofs.Ytadhldpeklkcmaa
