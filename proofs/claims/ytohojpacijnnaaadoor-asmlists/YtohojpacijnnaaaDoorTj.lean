import Derived.Test.YtohojpacijnnaaaDoorTi
namespace Go.Proofs.YtohojpacijnnaaaDoor
open Go.RowKit Go.Shelf
set_option linter.unusedVariables false
set_option linter.unusedSimpArgs false
set_option maxRecDepth 6000

theorem let_ix0 : ∀ k : Fin 8, ∀ j : Fin 3, ((letW (k.val : Int))[j.val]?).all (fun c => c == 105 || c.toNat == 97 + j.val) = true := by decide
theorem let_ix (k : Nat) (hk : k < 8) (j : Nat) (c : UInt8) (h : (letW (k : Int))[j]? = some c) : c = 105 ∨ (c.toNat = 97 + j ∧ j < 3) := by
  have hj : j < 3 := by
    have := (List.getElem?_eq_some_iff.1 h).1
    have := letW_nat (k : Int)
    omega
  have := let_ix0 ⟨k, hk⟩ ⟨j, hj⟩
  simp only [h, Option.all_some, Bool.or_eq_true, beq_iff_eq] at this
  exact this.imp id fun h => ⟨h, hj⟩
theorem lit_sp : (⟨#[32]⟩ : ByteArray) = bst [32] := rfl
theorem lit_cm : (⟨#[44]⟩ : ByteArray) = bst [44] := rfl
theorem lit_r : (⟨#[114]⟩ : ByteArray) = bst [114] := rfl
theorem lit_nl : (⟨#[10]⟩ : ByteArray) = bst [10] := rfl

set_option maxHeartbeats 4000000 in
theorem one_no (x : Nat) (hx : x < 4294967296) (w : World) (ht : Tabs w) (hd : Is.decOk x = false) : Calls Tryd.prog 10 #[.int .u32 (x : Int)] w fun e w' => e = .returned (.string (bst (lineW x ++ [10]))) ∧ Keeps (fun _ => False) w w' := by
  have HD : Hid (∀ w, Calls Tryd.prog 15 #[.int .u32 (x : Int)] w fun e w' => e = .returned (.tuple #[.agg #[.int .i64 0, .int .i64 0, .int .i64 0, .int .i64 0, .int .i64 0], .int .i64 20]) ∧ Keeps (fun _ => False) w w') := by
    intro w
    refine (Is.rdec_any x hx w).mono ?_
    rintro e w1 ⟨rfl, h⟩
    exact ⟨by simp [Is.decV, Is.decE, hd, Is.zeroV, Is.insV], keeps_below h⟩
  have HL : Hid (lineW x = [119, 111, 114, 100, 32] ++ Lib.decDigits x) := by show lineW x = _; unfold lineW; rw [hd]; rfl
  have hz : (bst (Lib.decDigits x)).size ≤ 21 := by rw [bst_size]; exact decDigits_len x hx
  have hz2 : ((⟨#[119, 111, 114, 100, 32]⟩ : ByteArray) ++ bst (Lib.decDigits x)).size ≤ 26 := by rw [lit_word, bst_append, bst_size]; simp; have := decDigits_len x hx; omega
  have e1 : IntKind.u64.wrap (x : Int) = (x : Int) := by rw [IntKind.wrap_u64]; omega
  have HT := Hid.mkq ht
  have HX := Hid.mkq hx
  clear ht hd hx
  go_enter Tryd.func10, Tryd.ntmps10
  go_wp2_with fail
  refine (HD.out w).mono ?_
  rintro e w1 ⟨rfl, hK⟩
  have HK : Hid (Keeps (fun _ => False) w (w1.alloc (.cells #[.int .i64 0, .int .i64 0, .int .i64 0, .int .i64 0, .int .i64 0] 40))) := hK.alloc _
  clear hK HD
  go_wp2_with fail
  generalize w1.alloc (.cells #[.int .i64 0, .int .i64 0, .int .i64 0, .int .i64 0, .int .i64 0] 40) = W at HK ⊢
  have HC := Hid.mkq (fmtU_any x HX.out W (HT.out.keep HK.out))
  refine HC.out.mono ?_
  rintro e w2 ⟨rfl, hK⟩
  have HK2 : Hid (Keeps (fun _ => False) w w2) := HK.out.trans hK fun _ _ h => h
  clear hK HC
  go_wp2
  go_ret
  refine ⟨?_, HK2.out⟩
  rw [lit_word, lit_nl, bst_append, bst_append, HL.out]; rfl

/-- Where the document's walk over a line's operands stands. -/
structure RlI (w : World) (x : Nat) (N L : List UInt8) (g r : Nat) (j : Nat) (S : ByteArray) (w' : World) : Prop where
  le : j ≤ L.length
  s : S = bst (N ++ opsW x (L.take j) true)
  ins : Blk w' g [.int .i64 (Is.rdOp x), .int .i64 (Is.rdA x), .int .i64 (Is.rdB x), .int .i64 (Is.rdC x), .int .i64 (Is.rdI x)] 40
  arr : Blk w' r [.int .i64 (Is.rdA x), .int .i64 (Is.rdB x), .int .i64 (Is.rdC x)] 49
  keeps : Keeps (fun _ => False) w w'
theorem RlI.kept {w : World} {x : Nat} {N L : List UInt8} {g r j : Nat} {S : ByteArray} {w' w'' : World} (h : RlI w x N L g r j S w') (k : Keeps (fun _ => False) w' w'') : RlI w x N L g r j S w'' :=
  ⟨h.le, h.s, h.ins.kept k fun h => h, h.arr.kept k fun h => h, h.keeps.trans k fun _ _ h => h⟩
theorem arr_cell {w : World} {r x j : Nat} {c : UInt8} (hc : c.toNat = 97 + j ∧ j < 3) (h : Blk w r [.int .i64 (Is.rdA x), .int .i64 (Is.rdB x), .int .i64 (Is.rdC x)] 49) : w.cell? ⟨r, j, none⟩ = some (.int .i64 (valW x c)) := by
  have hj : j = 0 ∨ j = 1 ∨ j = 2 := by omega
  rcases hj with rfl | rfl | rfl
  · obtain rfl : c = 97 := UInt8.toNat_inj.1 hc.1
    exact h.cell rfl
  · obtain rfl : c = 98 := UInt8.toNat_inj.1 hc.1
    exact h.cell rfl
  · obtain rfl : c = 99 := UInt8.toNat_inj.1 hc.1
    exact h.cell rfl

set_option maxHeartbeats 8000000 in
theorem one_yes (x : Nat) (hx : x < 4294967296) (w : World) (ht : Tabs w) (hd : Is.decOk x = true) : Calls Tryd.prog 10 #[.int .u32 (x : Int)] w fun e w' => e = .returned (.string (bst (lineW x ++ [10]))) ∧ Keeps (fun _ => False) w w' := by
  have HD : Hid (∀ w, Calls Tryd.prog 15 #[.int .u32 (x : Int)] w fun e w' => e = .returned (.tuple #[.agg #[.int .i64 (Is.rdOp x), .int .i64 (Is.rdA x), .int .i64 (Is.rdB x), .int .i64 (Is.rdC x), .int .i64 (Is.rdI x)], .int .i64 0]) ∧ Keeps (fun _ => False) w w') := by
    intro w
    refine (Is.rdec_any x hx w).mono ?_
    rintro e w1 ⟨rfl, h⟩
    exact ⟨by simp [Is.decV, Is.decE, hd, Is.insV], keeps_below h⟩
  have hbd : 1 ≤ Is.rdOp x ∧ Is.rdOp x ≤ 30 := by
    refine Is.formOf_bd ?_
    have h := hd
    unfold Is.decOk Is.okI at h
    simp only [Bool.and_eq_true, bne_iff_ne, ne_eq] at h
    exact h.1.1.1.1.1.1
  obtain ⟨N, hN⟩ : ∃ N, N = (Is.nameOf (Is.rdOp x)).data.toList := ⟨_, rfl⟩
  have hN2 : Is.nameOf (Is.rdOp x) = bst N := by rw [hN]; rfl
  obtain ⟨k, hk, hk8⟩ := Is.formOf_nat (Is.rdOp x)
  obtain ⟨L, hL⟩ : ∃ L, L = letW (k : Int) := ⟨_, rfl⟩
  obtain ⟨KS, hKS⟩ : ∃ KS, KS = bst (kindsW (k : Int)) := ⟨_, rfl⟩
  have hKl : KS.size = L.length := by rw [hKS, bst_size, hL]; unfold kindsW; rw [List.length_map]
  have HL : Hid (lineW x = N ++ opsW x L true) := by show lineW x = _; unfold lineW; rw [hd, hN, hL, hk]; rfl
  have HB : Hid (N.length ≤ 10 ∧ L.length ≤ 3 ∧ (∀ c ∈ L, c = 97 ∨ c = 98 ∨ c = 99 ∨ c = 105) ∧ k < 8 ∧ L = letW (k : Int) ∧ KS = bst (kindsW (k : Int)) ∧ KS.size = L.length) := ⟨by rw [hN]; exact name_size _, by rw [hL]; exact letW_nat _, fun c hc => by rw [hL] at hc; exact letW_mem hc, hk8, hL, hKS, hKl⟩
  have HN : Hid (∀ w, Calls Tryd.prog 18 #[.int .i64 (Is.rdOp x)] w fun e w' => e = .returned (.string (bst N)) ∧ Keeps (fun _ => False) w w') := by
    intro w
    refine (Is.rname_any (Is.rdOp x) w).mono ?_
    rintro e w1 ⟨rfl, h⟩
    exact ⟨by rw [hN2], keeps_below h⟩
  have HP : Hid (∀ w, Calls Tryd.prog 17 #[.string (bst N), .int .i64 0] w fun e w' => e = .returned (.tuple #[.string KS, .bool true]) ∧ Keeps (fun _ => False) w w') := by
    intro w
    have := places_any (Is.rdOp x) hbd w
    rw [hN2, hk, ← hKS] at this
    exact this
  have HT := Hid.mkq ht
  have HX := Hid.mkq hx
  obtain ⟨op, hop⟩ : ∃ op, op = Is.rdOp x := ⟨_, rfl⟩
  obtain ⟨ra, hra⟩ : ∃ op, op = Is.rdA x := ⟨_, rfl⟩
  obtain ⟨rb, hrb⟩ : ∃ op, op = Is.rdB x := ⟨_, rfl⟩
  obtain ⟨rc, hrc⟩ : ∃ op, op = Is.rdC x := ⟨_, rfl⟩
  obtain ⟨ri, hri⟩ : ∃ op, op = Is.rdI x := ⟨_, rfl⟩
  have HR : Hid (op = Is.rdOp x ∧ ra = Is.rdA x ∧ rb = Is.rdB x ∧ rc = Is.rdC x ∧ ri = Is.rdI x) := ⟨hop, hra, hrb, hrc, hri⟩
  rw [← hop] at HN
  rw [← hop, ← hra, ← hrb, ← hrc, ← hri] at HD
  clear ht hd hx hN hN2 hk hL hop hra hrb hrc hri hKS hKl hbd hk8
  go_enter Tryd.func10, Tryd.ntmps10
  go_wp2_with fail
  refine (HD.out w).mono ?_
  rintro e w1 ⟨rfl, hK⟩
  have HK : Hid (Keeps (fun _ => False) w (w1.alloc (.cells #[.int .i64 op, .int .i64 ra, .int .i64 rb, .int .i64 rc, .int .i64 ri] 40)) ∧ Blk (w1.alloc (.cells #[.int .i64 op, .int .i64 ra, .int .i64 rb, .int .i64 rc, .int .i64 ri] 40)) w1.heap.size [.int .i64 op, .int .i64 ra, .int .i64 rb, .int .i64 rc, .int .i64 ri] 40) := ⟨hK.alloc _, Blk.new _ _ _⟩
  clear hK HD
  go_upto_region 4 with fail
  generalize w1.alloc (.cells #[.int .i64 op, .int .i64 ra, .int .i64 rb, .int .i64 rc, .int .i64 ri] 40) = W at HK ⊢
  generalize w1.heap.size = g at HK ⊢
  have c0 := HK.out.2.cell (i := 0) rfl
  go_wp2_with fail
  refine (HN.out W).mono ?_
  rintro e w2 ⟨rfl, hK2⟩
  have HK2 : Hid (Keeps (fun _ => False) W w2) := hK2
  clear hK2
  go_wp2_with fail
  refine (HP.out w2).mono ?_
  rintro e w3 ⟨rfl, hK3⟩
  have HK3 : Hid (Keeps (fun _ => False) w w3 ∧ Blk w3 g [.int .i64 op, .int .i64 ra, .int .i64 rb, .int .i64 rc, .int .i64 ri] 40) := by
    have h := HK2.out.trans hK3 fun _ _ h => h
    exact ⟨HK.out.1.trans h fun _ _ h => h, HK.out.2.kept h fun h => h⟩
  clear hK3 HK2 HK c0
  have d0 := HK3.out.2.cell (i := 0) rfl
  have d1 := HK3.out.2.cell (i := 1) rfl
  have d2 := HK3.out.2.cell (i := 2) rfl
  have d3 := HK3.out.2.cell (i := 3) rfl
  have hglt := HK3.out.2.lt
  go_wp2_with fail
  have HA : Hid (Keeps (fun _ => False) w (w3.alloc (.cells #[.int .i64 ra, .int .i64 rb, .int .i64 rc] 49)) ∧ Blk (w3.alloc (.cells #[.int .i64 ra, .int .i64 rb, .int .i64 rc] 49)) g [.int .i64 op, .int .i64 ra, .int .i64 rb, .int .i64 rc, .int .i64 ri] 40 ∧ Blk (w3.alloc (.cells #[.int .i64 ra, .int .i64 rb, .int .i64 rc] 49)) w3.heap.size [.int .i64 ra, .int .i64 rb, .int .i64 rc] 49) :=
    ⟨HK3.out.1.alloc _, HK3.out.2.alloc _, Blk.new _ _ _⟩
  generalize w3.alloc (.cells #[.int .i64 ra, .int .i64 rb, .int .i64 rc] 49) = W4 at HA ⊢
  generalize w3.heap.size = r at HA ⊢
  clear HK3 d0 d1 d2 d3 hglt
  refine (HN.out W4).mono ?_
  rintro e w5 ⟨rfl, hK5⟩
  have HI : Hid (RlI w x N L g r 0 (bst N) w5) := by
    have h1 := HA.out.2.1.kept hK5 fun h => h
    have h2 := HA.out.2.2.kept hK5 fun h => h
    rw [HR.out.1, HR.out.2.1, HR.out.2.2.1, HR.out.2.2.2.1, HR.out.2.2.2.2] at h1
    rw [HR.out.2.1, HR.out.2.2.1, HR.out.2.2.2.1] at h2
    exact ⟨Nat.zero_le _, by simp [opsW], h1, h2, HA.out.1.trans hK5 fun _ _ h => h⟩
  clear hK5 HA HN HP
  go_wp2
  clear HR
  go_loopw [8, 9] (fun ou i wr => ∃ (j : Nat) (S : ByteArray), i = .int .i64 j ∧ ou = .string S ∧ RlI w x N L g r j S wr) (fun _ i _ => L.length - (intOf i).toNat)
  case atStart => exact ⟨0, _, rfl, rfl, HI.out⟩
  case round =>
    obtain ⟨j, S, rfl, rfl, hI⟩ := hrel
    have HJ := Hid.mkq hI
    clear hI
    have hS : S.size ≤ 100 := by
      have h1 := HJ.out.s
      have h2 := opsW_length x HX.out (L.take j) true
      have h3 := HB.out
      rw [h1, bst_size, List.length_append]
      simp at h2
      omega
    have hKS : KS.size = L.length := HB.out.2.2.2.2.2.2
    have hL3 : L.length ≤ 3 := HB.out.2.1
    by_cases hlt : j < L.length
    · obtain ⟨c, hc⟩ : ∃ c, L[j]? = some c := ⟨_, List.getElem?_eq_getElem hlt⟩
      have hix := let_ix k HB.out.2.2.2.1 j c (by rw [← HB.out.2.2.2.2.1]; exact hc)
      obtain ⟨v, hv⟩ : ∃ v, v = valW x c := ⟨_, rfl⟩
      have hvb : -9223372036854775808 ≤ v ∧ v ≤ 9223372036854775807 := by have := val_bd x HX.out c; rw [hv]; omega
      have hlt' : (j : Int) < (KS.size : Int) := by omega
      have hidx : ∀ w : World, (Instr.index 9 (.string KS) (.int .i64 (j : Int))).run Tryd.prog w = .ok (.int .u8 (if c = 105 then 118 else 114)) w := by
        intro w
        rw [run_index_string w 9 KS .i64 j (by kernel_rfl), dif_pos (by omega)]
        have hq : (kindsW (k : Int))[j]? = some (if c = 105 then 118 else 114) := by
          unfold kindsW
          rw [List.getElem?_map, ← HB.out.2.2.2.2.1, hc]
          rfl
        obtain ⟨hlj, hej⟩ := List.getElem?_eq_some_iff.1 hq
        have he : KS[(j : Int).toNat]'(by omega) = (if c = 105 then 118 else 114) := by
          have hKe := HB.out.2.2.2.2.2.1
          subst hKe
          exact hej
        rw [he]
        split <;> rfl
      by_cases h0 : j = 0
      · have HJ0 : Hid ((L.take j).isEmpty = true) := by show _ = _; rw [h0]; rfl
        have h0' : ¬ (0 : Int) < (j : Int) := by omega
        by_cases hcc : c = 105
        · have HV : Hid (v = valW x c ∧ L[j]? = some c ∧ c = 105 ∧ c = 105) := ⟨hv, hc, hcc, hcc⟩
          rw [if_pos hcc] at hidx
          clear hcc hix hv hc h0
          have hcell := HJ.out.ins.cell (i := 4) rfl
          rw [show Is.rdI x = v by rw [HV.out.1, HV.out.2.2.2]; rfl] at hcell
          have HC := Hid.mkq (itoa_any v hvb wr (HT.out.keep HJ.out.keeps))
          have hz : (bst (tx v)).size ≤ 21 := by rw [bst_size]; exact tx_length hvb
          clear hvb
          go_wp2_with fail
          refine HC.out.mono ?_
          rintro e w7 ⟨rfl, hK7⟩
          have HE : Hid (RlI w x N L g r (j + 1) (S ++ ⟨#[32]⟩ ++ bst (tx v)) w7) := by
            refine ⟨hlt, ?_, HJ.out.ins.kept hK7 fun h => h, HJ.out.arr.kept hK7 fun h => h, HJ.out.keeps.trans hK7 fun _ _ h => h⟩
            rw [List.take_add_one, HV.out.2.1, Option.toList_some, opsW_snoc, HJ.out.s]
            rw [show opW x c = tx v from ?_]
            · have hh : (true && (L.take j).isEmpty) = true := by
                rw [HJ0.out]; rfl
              rw [hh]
              simp only [lit_sp, lit_cm, lit_r, bst_append]
              simp
            · unfold opW
              rw [if_pos HV.out.2.2.1, ← HV.out.1]
          clear hK7 HC
          go_wp2
          go_roundw
          case rel => exact ⟨j + 1, _, by go_num, rfl, HE.out⟩
          case measure => simp [intOf]; omega
        · have HV : Hid (v = valW x c ∧ L[j]? = some c ∧ c ≠ 105 ∧ (c.toNat = 97 + j ∧ j < 3)) := ⟨hv, hc, hcc, hix.resolve_left hcc⟩
          rw [if_neg hcc] at hidx
          clear hcc hix hv hc h0
          have hcell := arr_cell HV.out.2.2.2 HJ.out.arr
          rw [← HV.out.1] at hcell
          have HC := Hid.mkq (itoa_any v hvb wr (HT.out.keep HJ.out.keeps))
          have hz : (bst (tx v)).size ≤ 21 := by rw [bst_size]; exact tx_length hvb
          clear hvb
          go_wp2_with fail
          refine HC.out.mono ?_
          rintro e w7 ⟨rfl, hK7⟩
          have HE : Hid (RlI w x N L g r (j + 1) (S ++ ⟨#[32]⟩ ++ (⟨#[114]⟩ ++ bst (tx v))) w7) := by
            refine ⟨hlt, ?_, HJ.out.ins.kept hK7 fun h => h, HJ.out.arr.kept hK7 fun h => h, HJ.out.keeps.trans hK7 fun _ _ h => h⟩
            rw [List.take_add_one, HV.out.2.1, Option.toList_some, opsW_snoc, HJ.out.s]
            rw [show opW x c = 114 :: tx v from ?_]
            · have hh : (true && (L.take j).isEmpty) = true := by
                rw [HJ0.out]; rfl
              rw [hh]
              simp only [lit_sp, lit_cm, lit_r, bst_append]
              simp
            · unfold opW
              rw [if_neg HV.out.2.2.1, ← HV.out.1]
          clear hK7 HC
          go_wp2
          go_roundw
          case rel => exact ⟨j + 1, _, by go_num, rfl, HE.out⟩
          case measure => simp [intOf]; omega
      · have HJ0 : Hid ((true && (L.take j).isEmpty) = false) := by
          show _ = _
          cases hT : L.take j with
          | nil =>
            have h9 := congrArg List.length hT
            rw [List.length_take, List.length_nil] at h9
            omega
          | cons _ _ => rfl
        have h0' : (0 : Int) < (j : Int) := by omega
        by_cases hcc : c = 105
        · have HV : Hid (v = valW x c ∧ L[j]? = some c ∧ c = 105 ∧ c = 105) := ⟨hv, hc, hcc, hcc⟩
          rw [if_pos hcc] at hidx
          clear hcc hix hv hc h0
          have hcell := HJ.out.ins.cell (i := 4) rfl
          rw [show Is.rdI x = v by rw [HV.out.1, HV.out.2.2.2]; rfl] at hcell
          have HC := Hid.mkq (itoa_any v hvb wr (HT.out.keep HJ.out.keeps))
          have hz : (bst (tx v)).size ≤ 21 := by rw [bst_size]; exact tx_length hvb
          clear hvb
          go_wp2_with fail
          refine HC.out.mono ?_
          rintro e w7 ⟨rfl, hK7⟩
          have HE : Hid (RlI w x N L g r (j + 1) (S ++ ⟨#[44]⟩ ++ ⟨#[32]⟩ ++ bst (tx v)) w7) := by
            refine ⟨hlt, ?_, HJ.out.ins.kept hK7 fun h => h, HJ.out.arr.kept hK7 fun h => h, HJ.out.keeps.trans hK7 fun _ _ h => h⟩
            rw [List.take_add_one, HV.out.2.1, Option.toList_some, opsW_snoc, HJ.out.s]
            rw [show opW x c = tx v from ?_]
            · have hh : (true && (L.take j).isEmpty) = false := by
                exact HJ0.out
              rw [hh]
              simp only [lit_sp, lit_cm, lit_r, bst_append]
              simp
            · unfold opW
              rw [if_pos HV.out.2.2.1, ← HV.out.1]
          clear hK7 HC
          go_wp2
          go_roundw
          case rel => exact ⟨j + 1, _, by go_num, rfl, HE.out⟩
          case measure => simp [intOf]; omega
        · have HV : Hid (v = valW x c ∧ L[j]? = some c ∧ c ≠ 105 ∧ (c.toNat = 97 + j ∧ j < 3)) := ⟨hv, hc, hcc, hix.resolve_left hcc⟩
          rw [if_neg hcc] at hidx
          clear hcc hix hv hc h0
          have hcell := arr_cell HV.out.2.2.2 HJ.out.arr
          rw [← HV.out.1] at hcell
          have HC := Hid.mkq (itoa_any v hvb wr (HT.out.keep HJ.out.keeps))
          have hz : (bst (tx v)).size ≤ 21 := by rw [bst_size]; exact tx_length hvb
          clear hvb
          go_wp2_with fail
          refine HC.out.mono ?_
          rintro e w7 ⟨rfl, hK7⟩
          have HE : Hid (RlI w x N L g r (j + 1) (S ++ ⟨#[44]⟩ ++ ⟨#[32]⟩ ++ (⟨#[114]⟩ ++ bst (tx v))) w7) := by
            refine ⟨hlt, ?_, HJ.out.ins.kept hK7 fun h => h, HJ.out.arr.kept hK7 fun h => h, HJ.out.keeps.trans hK7 fun _ _ h => h⟩
            rw [List.take_add_one, HV.out.2.1, Option.toList_some, opsW_snoc, HJ.out.s]
            rw [show opW x c = 114 :: tx v from ?_]
            · have hh : (true && (L.take j).isEmpty) = false := by
                exact HJ0.out
              rw [hh]
              simp only [lit_sp, lit_cm, lit_r, bst_append]
              simp
            · unfold opW
              rw [if_neg HV.out.2.2.1, ← HV.out.1]
          clear hK7 HC
          go_wp2
          go_roundw
          case rel => exact ⟨j + 1, _, by go_num, rfl, HE.out⟩
          case measure => simp [intOf]; omega
    · have hj : j = L.length := by have := HJ.out.le; omega
      have hge : ¬ (j : Int) < (KS.size : Int) := by omega
      clear hlt
      go_wp2
      go_ret
      refine ⟨?_, HJ.out.keeps⟩
      have := HJ.out.s
      rw [hj, List.take_of_length_le (Nat.le_refl _), ← HL.out] at this
      rw [lit_nl, this, bst_append]
      rfl
end Go.Proofs.YtohojpacijnnaaaDoor
