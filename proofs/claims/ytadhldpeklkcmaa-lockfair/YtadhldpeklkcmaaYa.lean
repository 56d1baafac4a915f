import Derived.Test.YtadhldpeklkcmaaY
namespace Go.Proofs.Ytadhldpeklkcmaa
open Go.RowKit
set_option linter.unusedVariables false

section
variable {w0 w : World} {N mb g qb kb : Nat} {rest : List Value} {Cs : List Ck} {xs : List UInt32} {A G : Nat → Nat}

theorem mv_ask (h : FR w0 w N mb g qb kb rest Cs xs A G) {i : Nat} {C : Ck} (hC : Cs[i]? = some C) (ha : C.ask = false) (hlt : C.pl.length < C.lk.length) {r : Nat} (hr : C.lk.getD C.pl.length 0 = r) (hr5 : r < 5) (b1 : G r ≤ A r) (b2 : A r ≤ G r + 6) (hA : A r < 9223372036854775807) (d : Nat) :
    Calls Try.prog 17 #[.pointer (some ⟨mb, 0, none⟩), .pointer (some ⟨kb, i * 5, none⟩), .slice (some ⟨qb, 0, none⟩) 5 d] w fun e w' => e = .returned (.bool true) ∧ ∃ D : Ck, D.lk = C.lk ∧ D.pl = C.pl ++ [A r] ∧ D.ask = true ∧ D.X.b = C.X.b ∧ FR w0 w' N mb g qb kb rest (Cs.set i D) (lay xs (2 * r) [UInt32.ofNat (A r + 1)]) (upd A r (A r + 1)) G := by
  obtain ⟨al, cl, hlv, hK⟩ := h.kn hC
  have hO := h.ok C (List.mem_of_getElem? hC)
  have hh := Ck.held_no ha
  rw [ha] at hK
  have hqA := qOf_A A G hr5
  refine (moves_1 hK _ (step_ask hO h.wr ha hlt hr hr5 b1 b2) rfl rfl (by rw [hh, lkI_len]; exact hlt) r hr5 (by rw [hh, lkI_get _ hlt, hr]) (by rw [hqA]; omega) (by rw [hqA]; omega) d).mono fun e w' hk => ?_
  have he := hk.1
  rw [hqA, qOf_setA A G hr5] at hk
  obtain ⟨D, d1, d2, d3, d4, d5, hF⟩ := h.step hC (C.pl ++ [A r]) true (A r : Nat) hk (fun vt => by
    rw [kvs_rest_set Cs rest i 3 C ⟨C.X.with vt (plW (C.pl ++ [A r])) 2, C.lv, C.lk, C.pl ++ [A r], true, C.plc⟩ (.bool true) hC (by omega) (by simp [Ck.vs, Ck.held, ha, Chn.with]),
      kvs_rest_set _ rest i 4 _ ⟨C.X.with vt (plW (C.pl ++ [A r])) 2, C.lv, C.lk, C.pl ++ [A r], true, (A r : Nat)⟩ (.int .i64 (A r : Nat)) (set_get hC) (by omega) (by simp [Ck.vs, Ck.held, Chn.with]), List.set_set]) (h.wr.take hr5) rfl rfl (by simp; omega) (fun _ => ⟨by simp, by simp⟩)
  exact ⟨he, D, d1, d2, d3, d5, hF⟩

theorem mv_got (h : FR w0 w N mb g qb kb rest Cs xs A G) {i : Nat} {C : Ck} (hC : Cs[i]? = some C) (ha : C.ask = true) {r : Nat} (hr : C.lk.getD (C.pl.length - 1) 0 = r) (ht : C.pl.getD (C.pl.length - 1) 0 = G r) (hr5 : r < 5) (d : Nat) :
    Calls Try.prog 17 #[.pointer (some ⟨mb, 0, none⟩), .pointer (some ⟨kb, i * 5, none⟩), .slice (some ⟨qb, 0, none⟩) 5 d] w fun e w' => e = .returned (.bool true) ∧ ∃ D : Ck, D.lk = C.lk ∧ D.pl = C.pl ∧ D.ask = false ∧ D.X.b = C.X.b ∧ FR w0 w' N mb g qb kb rest (Cs.set i D) xs A G := by
  obtain ⟨al, cl, hlv, hK⟩ := h.kn hC
  have hO := h.ok C (List.mem_of_getElem? hC)
  have hh := Ck.held_yes ha
  have hpos := hO.pos ha
  have hlen := hO.len
  have hlt : C.pl.length - 1 < C.lk.length := by omega
  have hqG := qOf_G A G hr5
  have hst := step_look (xs := xs) hO h.wr ha hr ht hr5
  rw [if_pos rfl] at hst
  rw [ha] at hK
  refine (moves_3 hK (by rw [hO.lk]; exact Nat.le_refl _) _ hst rfl rfl (by rw [hh, lkI_len]; exact hlt) r hr5 (by rw [hh, lkI_get _ hlt, hr]) (by rw [hqG, hpos.2, ht]) d).mono fun e w' hk => ?_
  have he2 := hk.1
  obtain ⟨D, d1, d2, d3, d4, d5, hF⟩ := h.step hC C.pl false C.plc hk (fun vt => by
    rw [kvs_rest_set Cs rest i 3 C ⟨C.X.with vt C.X.tk (settledN C.X.lk C.X.tk), C.lv, C.lk, C.pl.take (C.pl.length - 1), false, C.plc⟩ (.bool false) hC (by omega) (by simp [Ck.vs, Ck.held, ha, Chn.with]),
      kvs_rest_set _ rest i 2 _ ⟨C.X.with vt C.X.tk (settledN C.X.lk C.X.tk), C.lv, C.lk, C.pl, false, C.plc⟩ (.int .i64 ((C.held + 1 : Nat) : Int)) (set_get hC) (by omega) (by
        have e3 : C.held + 1 = C.pl.length := by rw [hh]; omega
        simp [Ck.vs, Chn.with, e3]
        simp [Ck.held]), List.set_set]) h.wr hO.tk (by simp only; unfold settledN; rw [hO.tk, hO.lk, plW_len, lkI_len]; simp) hlen (fun e => by cases e)
  exact ⟨he2, D, d1, d2, d3, d5, hF⟩

theorem FR.wait (h : FR w0 w N mb g qb kb rest Cs xs A G) {r : Nat} (hr5 : r < 5) (b1 : G r ≤ A r) (b2 : A r ≤ G r + 6) :
    Calls Try.prog 23 #[.pointer (some ⟨mb, 0, none⟩), .int .i64 (2 * (r : Int))] w fun e w' => e = .returned (.tuple #[.int .i64 ((A r : Int) - (G r : Int)), .int .i64 0]) ∧ Keeps (fun _ => False) w w' := by
  have H := waiting_any mb g xs (2 * (r : Int)) w h.mm (by omega)
  have e1 : wtN xs (2 * (r : Int)) = A r - G r := by
    unfold wtN
    rw [if_pos (h.wr.ok hr5), h.wr.nx hr5, h.wr.tu hr5, ofNat_sub_toNat b1 b2]
  have e2 : okE xs (2 * (r : Int)) = 0 := by unfold okE; rw [if_pos (h.wr.ok hr5)]
  rw [e1, e2] at H
  have e3 : (((A r - G r : Nat)) : Int) = (A r : Int) - (G r : Int) := by omega
  rw [e3] at H
  exact H

/-- How it stands, by what the chain itself tells. -/
theorem Ck.Ok.stand {D : Ck} {w : World} (hO : D.Ok w) : heldN D.X.tk D.X.st = D.held ∧ askedB D.X.st = D.ask ∧ D.X.tk.length = D.pl.length ∧ allB D.X = ((D.held : Int) == (D.lk.length : Int)) ∧ D.pl.length = D.held + (if D.ask then 1 else 0) := by
  have hlen := hO.len
  have e3 : D.X.tk.length = D.pl.length := by rw [hO.tk, plW_len]
  cases hda : D.ask with
  | true =>
    have hpos := (hO.pos hda).1
    have hst : D.X.st = 2 := by rw [hO.st]; unfold Ck.stN; rw [hda, if_pos rfl]
    have hh := Ck.held_yes hda
    refine ⟨?_, ?_, e3, ?_, ?_⟩
    · unfold heldN; rw [if_pos hst, e3, hh]
    · unfold askedB; rw [hst]; rfl
    · unfold allB
      have e : ((D.held : Int) == (D.lk.length : Int)) = false := beq_eq_false_iff_ne.2 (by omega)
      rw [e, hst]; rfl
    · rw [if_pos rfl, hh]; omega
  | false =>
    have hh := Ck.held_no hda
    have h2 := st_ne2 hO hda
    refine ⟨?_, ?_, e3, ?_, ?_⟩
    · unfold heldN; rw [if_neg h2, e3, hh]
    · unfold askedB; exact decide_eq_false h2
    · unfold allB
      by_cases hf : D.pl.length = D.lk.length
      · have hst : D.X.st = 0 := by rw [hO.st]; unfold Ck.stN; rw [hda, if_neg (by simp), if_pos hf]
        rw [hst, hh, hf]; simp
      · have hst : D.X.st = 1 := by rw [hO.st]; unfold Ck.stN; rw [hda, if_neg (by simp), if_neg hf]
        have e : ((D.held : Int) == (D.lk.length : Int)) = false := beq_eq_false_iff_ne.2 (by omega)
        rw [hst, e]; rfl
    · rw [if_neg (by simp), hh]; omega

theorem FR.rdy (h : FR w0 w N mb g qb kb rest Cs xs A G) (hP : PI Cs A G) (hne : Cs ≠ []) : ∃ C ∈ Cs, C.rdy (qOf A G) := by
  obtain ⟨C, hC, hr⟩ := hP.ready hne
  refine ⟨C, hC, ?_⟩
  unfold Ck.rdy
  by_cases h1 : C.held = C.lk.length
  · exact .inl h1
  · by_cases h2 : C.ask = false
    · exact .inr (.inl h2)
    · have h2' : C.ask = true := by simpa using h2
      have hO := h.ok C hC
      have hw := hP.wf C hC
      have hh := Ck.held_yes h2'
      have hpos := hO.pos h2'
      have hlen := hO.len
      rcases hr with h3 | h3 | h3
      · exact absurd h3 h1
      · exact absurd h3 h2
      · refine .inr (.inr ?_)
        have hl : C.held < C.lk.length := by omega
        have h4 : C.lk.getD C.held 0 < 4 := by rw [nat_getD hl]; exact hw.top _ (List.getElem_mem hl)
        rw [qOf_G A G (by omega), hpos.2, h3, hh]

/-- The first of them all: it has lock 4, and nothing else was ever asked for. -/
theorem PI.fresh {Cs : List Ck} {A G : Nat → Nat} (h : ∀ C ∈ Cs, C.lk.Pairwise (· < ·) ∧ C.pl = [] ∧ C.ask = false ∧ ∀ r ∈ C.lk, r < 4) (hA : ∀ r, r < 4 → A r = 0 ∧ G r = 0) : PI Cs A G := by
  have hm : ∀ {i : Nat} {C : Ck}, Cs[i]? = some C → C.pl = [] ∧ C.ask = false := fun hC => ⟨(h _ (List.mem_of_getElem? hC)).2.1, (h _ (List.mem_of_getElem? hC)).2.2.1⟩
  refine ⟨fun C hC => ?_, ?_, ?_, ?_, ?_, ?_⟩
  · obtain ⟨h1, h2, h3, h4⟩ := h C hC
    exact ⟨h1, by rw [h2]; exact Nat.zero_le _, fun e => (by rw [h3] at e; cases e), h4⟩
  · intro i C p hC hp
    rw [Ck.held_no (hm hC).2, (hm hC).1] at hp
    simp at hp
  · intro i C p hC hp
    rw [(hm hC).1] at hp
    simp at hp
  · intro i j C D p q hC _ hp
    rw [(hm hC).1] at hp
    simp at hp
  · intro r t hr h1 h2
    have := hA r hr
    omega
  · intro r hr
    rw [(hA r hr).1, (hA r hr).2]
    have : Cs.countP (claims r) = 0 := by
      rw [List.countP_eq_zero]
      intro C hC
      obtain ⟨h1, h2, h3, h4⟩ := h C hC
      unfold claims
      rw [h2]; simp
    omega
end

end Go.Proofs.Ytadhldpeklkcmaa
