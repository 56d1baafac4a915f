import Derived.Test.YtadhldpeklkcmaaW
namespace Go.Proofs.Ytadhldpeklkcmaa
open Go.RowKit
set_option linter.unusedVariables false

structure FR (w0 w : World) (N mb g qb kb : Nat) (rest : List Value) (Cs : List Ck) (xs : List UInt32) (A G : Nat → Nat) : Prop where
  mm : Mm w mb g xs
  q : Blk w qb (ivs (qOf A G)) 66
  row : Blk w kb (kvs Cs ++ rest) 54
  ok : ∀ C ∈ Cs, C.Ok w
  sep : Sep w N (FK (MF mb g) (· = qb) (· = kb) Cs)
  keeps : Keeps (fun k => N ≤ k) w0 w
  nw : N = w0.heap.size
  wr : WR xs A G

section
variable {w0 w w' : World} {N mb g qb kb : Nat} {rest : List Value} {Cs : List Ck} {xs : List UInt32} {A G : Nat → Nat}

theorem FR.grown (h : FR w0 w N mb g qb kb rest Cs xs A G) (k : Keeps (fun _ => False) w w') : FR w0 w' N mb g qb kb rest Cs xs A G :=
  ⟨h.mm.grown k, h.q.kept k (fun e => e), h.row.kept k (fun e => e), fun C hC => (h.ok C hC).kept k (fun _ _ e => e) (fun _ _ e => e), h.sep.grown k.size, h.keeps.trans k (fun _ _ e => e.elim), h.nw, h.wr⟩

theorem FR.low (h : FR w0 w N mb g qb kb rest Cs xs A G) : Keeps (fun k => w0.heap.size ≤ k) w0 w := h.nw ▸ h.keeps

theorem FR.cells (h : FR w0 w N mb g qb kb rest Cs xs A G) {i : Nat} {C : Ck} (hC : Cs[i]? = some C) {t : Nat} (ht : t < 5) : (kvs Cs ++ rest)[i * 5 + t]? = C.vs[t]? := by
  have hi := (List.getElem?_eq_some_iff.1 hC).1
  rw [List.getElem?_append_left (by rw [kvs_length]; omega)]
  exact kvs_get Cs i t C hC ht

theorem FR.kn (h : FR w0 w N mb g qb kb rest Cs xs A G) {i : Nat} {C : Ck} (hC : Cs[i]? = some C) : ∃ al cl, C.lv = .slice al C.lk.length cl ∧ KnW w C.X mb g xs kb (i * 5) (kvs Cs ++ rest) 54 al C.lk.length cl C.held C.ask C.plc (lkI C.lk) qb (qOf A G) := by
  have hO := h.ok C (List.mem_of_getElem? hC)
  obtain ⟨al, cl, hlv, -, -⟩ := owns_slice hO.row
  have hrow := hO.row
  rw [hlv] at hrow
  refine ⟨al, cl, hlv, hO.ch, h.mm, h.row, ?_, ?_, ?_, ?_, ?_, (lkI_len _).symm, owns_segI (c := cl) (by rw [lkI_len]; exact hrow), ?_, h.q, rfl, ?_, ?_⟩
  · have := h.cells hC (t := 0) (by omega)
    rw [Nat.add_zero] at this
    exact this
  · rw [h.cells hC (by omega), ← hlv]; rfl
  · rw [h.cells hC (by omega)]; rfl
  · rw [h.cells hC (by omega)]; rfl
  · rw [h.cells hC (by omega)]; rfl
  · intro x hx hne
    have hb : RF C.lv x.block := by
      unfold RF; rw [hlv, hx]; rfl
    have hf := fkL (a := MF mb g) (b := (· = qb)) (c := (· = kb)) hC hb
    refine ⟨fun e => ?_, fun e => ?_, fun e => ?_, fun e => ?_, fun e => ?_⟩
    · have := h.sep.one _ 2 _ hf (fk2 e); omega
    · have := h.sep.one _ 1 _ hf (fk1 e); omega
    · have := h.sep.one _ 0 _ hf (fk0 (.inl e)); omega
    · have := h.sep.one _ 0 _ hf (fk0 (.inr e)); omega
    · have := h.sep.one _ _ _ hf (fkX hC e); omega
  · refine ⟨fun e => ?_, fun e => ?_, fun e => ?_, fun e => ?_, fun e => ?_, fun e => ?_, fun e => ?_, fun e => ?_, fun e => ?_⟩
    · have := h.sep.one _ 2 _ (fkX hC e) (fk2 rfl); omega
    · have := h.sep.one _ 1 _ (fkX hC e) (fk1 rfl); omega
    · have := h.sep.one _ 0 _ (fkX hC e) (fk0 (.inl rfl)); omega
    · have := h.sep.one _ 0 _ (fkX hC e) (fk0 (.inr rfl)); omega
    · have := h.sep.one 2 1 kb (fk2 rfl) (fk1 e); omega
    · have := h.sep.one 2 0 kb (fk2 rfl) (fk0 (.inl e)); omega
    · have := h.sep.one 2 0 kb (fk2 rfl) (fk0 (.inr e)); omega
    · have := h.sep.one 1 0 qb (fk1 rfl) (fk0 (.inl e)); omega
    · have := h.sep.one 1 0 qb (fk1 rfl) (fk0 (.inr e)); omega
  · rw [lkI_len]; have := hO.len; unfold Ck.held; split <;> omega

theorem FR.step (h : FR w0 w N mb g qb kb rest Cs xs A G) {i : Nat} {C : Ck} (hC : Cs[i]? = some C) {r : StepR} {cells' : List Value} {A' G' : Nat → Nat} {e : Ending} (pl : List Nat) (ask : Bool) (plc : Int)
    (hP : KnP w C.X mb g r kb cells' 54 qb (qOf A' G') e w') (hc : ∀ vt, cells' = kvs (Cs.set i ⟨C.X.with vt r.tk r.st, C.lv, C.lk, pl, ask, plc⟩) ++ rest) (hwr : WR r.xs A' G')
    (htk : r.tk = plW pl) (hst : r.st = if ask then 2 else if pl.length = C.lk.length then 0 else 1) (hlen : pl.length ≤ C.lk.length) (hpos : ask = true → 0 < pl.length ∧ plc = (pl.getD (pl.length - 1) 0 : Nat)) :
    ∃ D : Ck, D.lk = C.lk ∧ D.pl = pl ∧ D.ask = ask ∧ D.plc = plc ∧ D.X.b = C.X.b ∧ FR w0 w' N mb g qb kb rest (Cs.set i D) r.xs A' G' := by
  obtain ⟨-, vt, hi, hf, hm, hB, hQ, hk⟩ := hP
  have hO := h.ok C (List.mem_of_getElem? hC)
  refine ⟨⟨C.X.with vt r.tk r.st, C.lv, C.lk, pl, ask, plc⟩, rfl, rfl, rfl, rfl, rfl, ?_⟩
  have hx : ∀ (j : Nat) (D : Ck) (x : Nat), Cs[j]? = some D → j ≠ i → D.X.F x → ¬ (C.X.F x ∨ x = g ∨ x = kb ∨ x = qb) := by
    rintro j D x hD hj hx (e | e | e | e)
    · have := h.sep.one _ _ x (fkX hD hx) (fkX hC e); omega
    · have := h.sep.one _ 0 x (fkX hD hx) (fk0 (.inr e)); omega
    · have := h.sep.one _ 2 x (fkX hD hx) (fk2 e); omega
    · have := h.sep.one _ 1 x (fkX hD hx) (fk1 e); omega
  have hy : ∀ (j : Nat) (D : Ck) (x : Nat), Cs[j]? = some D → RF D.lv x → ¬ (C.X.F x ∨ x = g ∨ x = kb ∨ x = qb) := by
    rintro j D x hD hx (e | e | e | e)
    · have := h.sep.one _ _ x (fkL hD hx) (fkX hC e); omega
    · have := h.sep.one _ 0 x (fkL hD hx) (fk0 (.inr e)); omega
    · have := h.sep.one _ 2 x (fkL hD hx) (fk2 e); omega
    · have := h.sep.one _ 1 x (fkL hD hx) (fk1 e); omega
  refine ⟨hm, hQ, by rw [← hc vt]; exact hB, ?_, ?_, h.keeps.trans hk ?_, h.nw, hwr⟩
  · intro D hD
    obtain ⟨j, hj⟩ := List.getElem?_of_mem hD
    rcases get_set hj with ⟨rfl, rfl, _⟩ | ⟨hne, hj'⟩
    · exact ⟨hi, owns_kept hO.row hk (hy j C · hC), hO.lk, htk, hst, hO.up, hO.top, hlen, hpos⟩
    · exact (h.ok D (List.mem_of_getElem? hj')).kept hk (fun x hx' => hx j D x hj' hne hx') (fun x hx' => hy j D x hj' hx')
  · refine h.sep.upd (2 * i + 3) ?_ ?_ ?_ hk.size (by have := h.keeps.size; have := h.nw; omega)
    · rintro k (⟨e, _⟩ | ⟨e, _⟩ | ⟨e, _⟩ | ⟨j, D, hD, ⟨e, hF⟩ | ⟨e, hF⟩⟩)
      · omega
      · omega
      · omega
      · obtain rfl : j = i := by omega
        rcases get_set hD with ⟨_, rfl, _⟩ | ⟨hne, _⟩
        · rcases Chn.with_F hf hF with h1 | h1
          · exact .inl (fkX hC h1)
          · exact .inr h1
        · exact absurd rfl hne
      · omega
    · rintro k (⟨e, _⟩ | ⟨e, _⟩ | ⟨e, _⟩ | ⟨j, D, hD, ⟨e, hF⟩ | ⟨e, hF⟩⟩)
      · omega
      · omega
      · omega
      · obtain rfl : j = i := by omega
        rcases get_set hD with ⟨_, rfl, _⟩ | ⟨hne, _⟩
        · exact hi.lt hF
        · exact absurd rfl hne
      · omega
    · rintro key hkey k (⟨rfl, hF⟩ | ⟨rfl, hF⟩ | ⟨rfl, hF⟩ | ⟨j, D, hD, ⟨rfl, hF⟩ | ⟨rfl, hF⟩⟩)
      · exact fk0 hF
      · exact fk1 hF
      · exact fk2 hF
      · rcases get_set hD with ⟨rfl, rfl, _⟩ | ⟨hne, hD'⟩
        · omega
        · exact fkX hD' hF
      · rcases get_set hD with ⟨rfl, rfl, _⟩ | ⟨hne, hD'⟩
        · exact fkL hC hF
        · exact fkL hD' hF
  · rintro b _ (e | e | e | e)
    · exact h.sep.ge _ b (fkX hC e)
    · exact h.sep.ge 0 b (fk0 (.inr e))
    · exact h.sep.ge 2 b (fk2 e)
    · exact h.sep.ge 1 b (fk1 e)
end

end Go.Proofs.Ytadhldpeklkcmaa
