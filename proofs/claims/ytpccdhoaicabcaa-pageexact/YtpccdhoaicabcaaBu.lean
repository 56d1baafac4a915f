import Derived.Test.YtpccdhoaicabcaaLa
namespace Go.Proofs.Ytpccdhoaicabcaa
open Go.RowKit Go.Shelf
set_option linter.unusedVariables false

/-- Some region has a frame that the memory has not. -/
def Outs (n : Nat) (rs : List Rgn) : Prop := ∃ r, r ∈ rs ∧ (n : Int) < r.frame + r.pages

/-- What Build answers. -/
def BldP (n : Nat) (root : Int) (ts : List Int) (rs : List Rgn) (z : Nat) : Prop :=
  ((8 < rs.length ∨ 16 < ts.length) ∧ z = 2) ∨
  ((rs.length ≤ 8 ∧ ts.length ≤ 16) ∧ (¬ MayB rs ∨ Outs n rs) ∧ z = 95) ∨
  ((rs.length ≤ 8 ∧ ts.length ≤ 16) ∧ (MayB rs ∧ ¬ Outs n rs) ∧ ts.length ≠ cnt (findL rs) 16 ∧ z = 94) ∨
  ((rs.length ≤ 8 ∧ ts.length ≤ 16) ∧ (MayB rs ∧ ¬ Outs n rs) ∧ ts.length = cnt (findL rs) 16 ∧ ¬ Apart n root ts ∧ z = 91) ∨
  ((rs.length ≤ 8 ∧ ts.length ≤ 16) ∧ (MayB rs ∧ ¬ Outs n rs) ∧ ts.length = cnt (findL rs) 16 ∧ Apart n root ts ∧ z = 0)
/-- The memory's words behind it. -/
def BldX (root : Int) (ts : List Int) (rs : List Rgn) (xs : List UInt32) (z : Nat) : List UInt32 := if z = 0 then builtL (findL rs) ts root.toNat xs else xs

theorem outs_any {n : Nat} {rs : List Rgn} : (rs.any fun r => decide ((n : Int) < r.frame + r.pages)) = true ↔ Outs n rs := by
  rw [List.any_eq_true]
  constructor
  · rintro ⟨r, h1, h2⟩; exact ⟨r, h1, of_decide_eq_true h2⟩
  · rintro ⟨r, h1, h2⟩; exact ⟨r, h1, decide_eq_true h2⟩

set_option maxHeartbeats 400000 in
theorem build_nil (root : Int) (a2 a : Option Addr) (n2 c2 n c : Nat) (w : World) : Calls Try.prog 12 #[.pointer none, .int .i64 root, .slice a2 n2 c2, .slice a n c] w fun e w' => e = .returned (.int .i64 3) ∧ w' = w := by
  go_enter Try.func12, Try.ntmps12
  go_wp2
  go_ret
  exact ⟨rfl, rfl⟩

def BldD (w w' : World) (b g n : Nat) (xs : List UInt32) (root : Int) (ts : List Int) (rs : List Rgn) (e : Ending) : Prop :=
  ∃ z : Nat, e = .returned (.int .i64 z) ∧ BldP n root ts rs z ∧ Mn w' b g n (BldX root ts rs xs z) ∧ Keeps (· = g) w w'

theorem bld_no {w w' : World} {b g n : Nat} {xs : List UInt32} {root : Int} {ts : List Int} {rs : List Rgn} (z : Nat) (hz : z ≠ 0) (hp : BldP n root ts rs z) (hM : Mn w b g n xs) (hK : Keeps (fun _ => False) w w') :
    BldD w w' b g n xs root ts rs (.returned (.int .i64 z)) := by
  refine ⟨z, rfl, hp, ?_, hK.mono fun _ _ h => h.elim⟩
  unfold BldX; rw [if_neg hz]; exact hM.grown hK

set_option maxRecDepth 20000 in
set_option maxHeartbeats 2000000 in
theorem build_any (b g n : Nat) (xs : List UInt32) (root : Int) (a2 : Option Addr) (ts : List Int) (c2 : Nat) (a : Option Addr) (rs : List Rgn) (c : Nat) (w : World) (hM : Mn w b g n xs)
    (hl2 : ts.length ≤ c2 ∧ c2 ≤ maxLen) (hs2 : SegI w a2 ts) (hl : rs.length ≤ c ∧ c ≤ maxLen) (hs : SegR w a rs) (hf : ∀ r, r ∈ rs → r.Fine) (ha2 : ∀ x, a2 = some x → x.block ≠ g) (ha : ∀ x, a = some x → x.block ≠ g) :
    Calls Try.prog 12 #[.pointer (some ⟨b, 0, none⟩), .int .i64 root, .slice a2 ts.length c2, .slice a rs.length c] w fun e w' => BldD w w' b g n xs root ts rs e := by
  have HP : Hid (Mn w b g n xs ∧ SegI w a2 ts ∧ SegR w a rs ∧ (∀ x, a2 = some x → x.block ≠ g) ∧ (∀ x, a = some x → x.block ≠ g) ∧ (ts.length ≤ c2 ∧ c2 ≤ maxLen) ∧ (rs.length ≤ c ∧ c ≤ maxLen)) := ⟨hM, hs2, hs, ha2, ha, hl2, hl⟩
  have H1 : Hid (Calls _ _ _ _ _) := tables_any a rs c w hl hs hf
  have h2c : (ts.length : Int) ≤ 9223372036854775807 := by unfold maxLen at hl2; omega
  obtain ⟨L2, hL2⟩ : ∃ L, L = ts.length := ⟨_, rfl⟩
  obtain ⟨L, hL⟩ : ∃ L, L = rs.length := ⟨_, rfl⟩
  have HL : Hid (L2 = ts.length ∧ L = rs.length) := ⟨hL2, hL⟩
  rw [← hL] at H1 ⊢
  rw [← hL2] at h2c ⊢
  clear hM hs2 hs ha2 ha hl2 hl hf hL hL2
  by_cases h16 : 16 < L2
  · have h16' : (16 : Int) < L2 := by omega
    have HB : Hid (BldP n root ts rs 2) := .inl ⟨.inr (by rw [← HL.out.1]; exact h16), rfl⟩
    clear h16 H1
    go_enter Try.func12, Try.ntmps12
    go_wp2
    go_ret
    exact bld_no 2 (by omega) HB.out HP.out.1 (Keeps.refl _ _)
  · have h16' : ¬ (16 : Int) < L2 := by omega
    have h16n : ts.length ≤ 16 := by rw [← HL.out.1]; omega
    have H16 : Hid (ts.length ≤ 16) := h16n
    clear h16 h16n
    go_enter Try.func12, Try.ntmps12
    go_wp2_with fail
    refine H1.out.mono ?_
    rintro e w1 ⟨⟨m, z, rfl, hT⟩, hK1⟩
    have HK1 : Hid (Keeps (fun _ => False) w w1) := hK1
    have HT : Hid (TabP rs m z) := hT
    clear hT hK1 H1
    by_cases hz : z = 0
    · subst hz
      have hT : rs.length ≤ 8 ∧ MayB rs ∧ m = cnt (findL rs) 16 := by
        rcases HT.out with h | h | h
        · omega
        · omega
        · exact ⟨h.1, h.2.1, h.2.2.1⟩
      have HT' : Hid (rs.length ≤ 8 ∧ MayB rs ∧ m = cnt (findL rs) 16) := hT
      have H2 := lieIn_any b g n xs a rs c w1 (HP.out.1.grown HK1.out) HP.out.2.2.2.2.2.2 (HP.out.2.2.1.grown HK1.out) (may_ok hT.2.1)
      rw [← HL.out.2] at H2
      have hm16 : (m : Int) ≤ 16 := by have := cnt_le (findL rs) 16; omega
      clear HT hT
      cases ho : rs.any fun r => decide ((n : Int) < r.frame + r.pages)
      · rw [ho] at H2
        have H2 : Hid (Calls _ _ _ _ _) := H2
        have HO : Hid (¬ Outs n rs) := fun h => by have := outs_any.2 h; rw [ho] at this; cases this
        clear ho
        go_wp2_with fail
        refine H2.out.mono ?_
        rintro e w2 ⟨rfl, hK2⟩
        have HK2 : Hid (Keeps (fun _ => False) w w2) := HK1.out.trans hK2 fun _ _ h => h
        clear hK2 H2
        by_cases hmm : L2 = m
        · have hmm' : ((L2 : Int) != (m : Int)) = false := by simp; omega
          have HMM : Hid (ts.length = cnt (findL rs) 16) := by show ts.length = _; rw [← HL.out.1, ← HT'.out.2.2]; exact hmm
          have H3 := apart_any b g n xs root a2 ts c2 w2 (HP.out.1.grown HK2.out) HP.out.2.2.2.2.2.1 (HP.out.2.1.grown HK2.out)
          rw [← HL.out.1] at H3
          have H3 : Hid (Calls _ _ _ _ _) := H3
          clear hmm
          go_wp2_with fail
          refine H3.out.mono ?_
          rintro e w3 ⟨⟨y, rfl, hy⟩, hK3⟩
          have HK3 : Hid (Keeps (fun _ => False) w w3) := HK2.out.trans hK3 fun _ _ h => h
          clear hK3 H3
          cases y
          · have HA : Hid (BldP n root ts rs 91) := .inr (.inr (.inr (.inl ⟨⟨HT'.out.1, H16.out⟩, ⟨HT'.out.2.1, HO.out⟩, HMM.out, (fun h => by have := hy.2 h; cases this), rfl⟩)))
            clear hy
            go_wp2
            go_ret
            exact bld_no 91 (by omega) HA.out HP.out.1 HK3.out
          · have HA : Hid (Apart n root ts) := hy.1 rfl
            have HS : Hid (∀ W', Calls _ _ _ W' _) := fun W' => standing_any a L c W'
            clear hy
            go_wp2_with fail
            refine (HS.out _).mono ?_
            rintro e w4 ⟨rfl, hb4, hk4⟩
            have hK4 := HK3.out.trans hk4 fun _ _ h => h
            have hM4 := HP.out.1.grown hK4
            obtain ⟨B, hB⟩ : ∃ B, B = w3.heap.size := ⟨_, rfl⟩
            rw [← hB] at hb4 ⊢
            have hgw := HP.out.1.mm.row.lt
            have hw3 := HK3.out.size
            rw [HL.out.2] at hb4
            obtain ⟨r, hr⟩ := Int.eq_ofNat_of_zero_le HA.out.1.1
            subst hr
            have H5 := lay_any b g n xs r a2 ts c2 B a rs c w4 hM4 (HP.out.2.1.grown hK4) ⟨hb4.cell rfl, HP.out.2.2.2.2.2.2, HP.out.2.2.1.grown hK4, may_ok HT'.out.2.1⟩
              ⟨rfl, hM4.mm.blk.lt, hM4.mm.row.lt, hb4.lt, by omega, hM4.mm.ne, HP.out.2.2.2.2.1, HP.out.2.2.2.1, HP.out.2.2.2.2.2.1, HMM.out.symm, fun t ht => by
                obtain ⟨k, hk⟩ := List.mem_iff_getElem?.1 ht
                exact (HA.out.2 k t hk).1⟩ (by have := HA.out.1; omega)
            rw [← HL.out.1] at H5
            have H5 : Hid (Calls _ _ _ _ _) := H5
            have HK4 : Hid (Keeps (fun _ => False) w w4) := hK4
            clear hb4 hk4 hK4 hM4 hB hgw hw3 HS
            go_wp2_with fail
            refine H5.out.mono ?_
            rintro e w5 ⟨⟨v, rfl⟩, hM5, hK5⟩
            have HM5 : Hid (Mn w5 b g n (builtL (findL rs) ts r xs) ∧ Keeps (· = g) w w5) := ⟨hM5, (HK4.out.mono fun _ _ h => h.elim).trans hK5 fun _ _ h => h⟩
            clear hM5 hK5 H5
            go_wp2
            go_ret
            exact ⟨0, rfl, .inr (.inr (.inr (.inr ⟨⟨HT'.out.1, H16.out⟩, ⟨HT'.out.2.1, HO.out⟩, HMM.out, HA.out, rfl⟩))), HM5.out.1, HM5.out.2⟩
        · have hmm' : ((L2 : Int) != (m : Int)) = true := by rw [bne_iff_ne]; omega
          have HA : Hid (BldP n root ts rs 94) := .inr (.inr (.inl ⟨⟨HT'.out.1, H16.out⟩, ⟨HT'.out.2.1, HO.out⟩, fun h => hmm (by rw [HL.out.1, h, HT'.out.2.2]), rfl⟩))
          clear hmm
          go_wp2
          go_ret
          exact bld_no 94 (by omega) HA.out HP.out.1 HK2.out
      · rw [ho] at H2
        have H2 : Hid (Calls _ _ _ _ _) := H2
        have HA : Hid (BldP n root ts rs 95) := .inr (.inl ⟨⟨HT'.out.1, H16.out⟩, .inr (outs_any.1 ho), rfl⟩)
        clear ho
        go_wp2_with fail
        refine H2.out.mono ?_
        rintro e w2 ⟨rfl, hK2⟩
        have HK2 : Hid (Keeps (fun _ => False) w w2) := HK1.out.trans hK2 fun _ _ h => h
        clear hK2 H2
        go_wp2
        go_ret
        exact bld_no 95 (by omega) HA.out HP.out.1 HK2.out
    · have hz' : ((z : Int) != 0) = true := by rw [bne_iff_ne]; omega
      have HA : Hid (BldP n root ts rs z) := by
        rcases HT.out with ⟨h1, h2, h3⟩ | ⟨h1, h2, h3, h4⟩ | ⟨h1, h2, h3, h4⟩
        · rw [h3]; exact .inl ⟨.inl h1, rfl⟩
        · rw [h4]; exact .inr (.inl ⟨⟨h1, H16.out⟩, .inl h2, rfl⟩)
        · exact absurd h4 hz
      have HZ : Hid (z ≠ 0) := hz
      clear HT hz
      go_wp2
      go_ret
      exact bld_no z HZ.out HA.out HP.out.1 HK1.out

end Go.Proofs.Ytpccdhoaicabcaa
