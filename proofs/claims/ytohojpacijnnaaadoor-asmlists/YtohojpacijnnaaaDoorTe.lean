import Derived.Test.YtohojpacijnnaaaDoorTd
import Derived.Deep.CutBlock
namespace Go.Proofs.YtohojpacijnnaaaDoor
open Go.RowKit Go.Shelf
set_option linter.unusedVariables false
set_option linter.unusedSimpArgs false
set_option maxRecDepth 6000

theorem lit_word : (⟨#[119, 111, 114, 100, 32]⟩ : ByteArray) = bst [119, 111, 114, 100, 32] := rfl
theorem decDigits_len (x : Nat) (hx : x < 4294967296) : (Lib.decDigits x).length ≤ 21 := by
  have := Lib.itoa_length_le (x : Int) (by omega) (by omega)
  rw [Lib.itoa_nonneg] at this
  exact this

set_option maxHeartbeats 4000000 in
theorem line_no (x : Nat) (hx : x < 4294967296) (w : World) (ht : Tabs w) (hd : Is.decOk x = false) : Calls Tryd.prog 12 #[.int .u32 (x : Int)] w fun e w' => e = .returned (.string (bst (lineW x))) ∧ Keeps (fun _ => False) w w' := by
  have HD : Hid (∀ w, Tabs w → Calls Tryd.prog 21 #[.int .u32 (x : Int)] w fun e w' => e = .returned (.tuple #[.agg #[.int .i64 0, .int .i64 0, .int .i64 0, .int .i64 0, .int .i64 0], .int .i64 20]) ∧ Keeps (fun _ => False) w w') := by
    intro w ht
    refine (Is.dec_any x hx w ht.isa).mono ?_
    rintro e w1 ⟨rfl, h⟩
    exact ⟨by simp [Is.decV, Is.decE, hd, Is.zeroV, Is.insV], keeps_below h⟩
  have HL : Hid (lineW x = [119, 111, 114, 100, 32] ++ Lib.decDigits x) := by show lineW x = _; unfold lineW; rw [hd]; rfl
  have hz : (bst (Lib.decDigits x)).size ≤ 21 := by rw [bst_size]; exact decDigits_len x hx
  have e1 : IntKind.u64.wrap (x : Int) = (x : Int) := by rw [IntKind.wrap_u64]; omega
  have HT := Hid.mkq ht
  have HX := Hid.mkq hx
  clear ht hd hx
  go_enter Tryd.func12, Tryd.ntmps12
  go_wp2_with fail
  refine (HD.out w HT.out).mono ?_
  rintro e w1 ⟨rfl, hK⟩
  have HK : Hid (Keeps (fun _ => False) w (w1.alloc (.cells #[.int .i64 0, .int .i64 0, .int .i64 0, .int .i64 0, .int .i64 0] 40))) := hK.alloc _
  clear hK HD
  go_wp2_with fail
  generalize w1.alloc (.cells #[.int .i64 0, .int .i64 0, .int .i64 0, .int .i64 0, .int .i64 0] 40) = W at HK ⊢
  have HC := Hid.mkq (fmtU_any x HX.out W (HT.out.keep HK.out))
  refine HC.out.mono ?_
  rintro e w2 ⟨rfl, hK⟩
  have HK2 : Hid (Keeps (fun _ => False) w w2) := HK.out.trans hK fun _ _ h => h
  clear hK HC
  go_wp2
  go_ret
  refine ⟨?_, HK2.out⟩
  rw [lit_word, bst_append, HL.out]; rfl

/-- How far a string's range has come. -/
def posOf : Option Obj → Nat
  | some (.stringIter _ p) => p
  | _ => 0
/-- Where the walk over a line's operands stands. -/
structure LnI (w : World) (x : Nat) (N L : List UInt8) (g gi : Nat) (j : Nat) (S A : ByteArray) (w' : World) : Prop where
  le : j ≤ L.length
  s : S = bst (N ++ opsW x (L.take j) true)
  a : A = bst (if j = 0 then [32] else [44, 32])
  it : w'.heap[gi]? = some (.stringIter (bst L) j)
  ins : Blk w' g [.int .i64 (Is.rdOp x), .int .i64 (Is.rdA x), .int .i64 (Is.rdB x), .int .i64 (Is.rdC x), .int .i64 (Is.rdI x)] 40
  keeps : Keeps (fun _ => False) w w'
  lo : w.heap.size ≤ gi
  lo2 : w.heap.size ≤ g
  ne : g ≠ gi
theorem LnI.kept {w : World} {x : Nat} {N L : List UInt8} {g gi j : Nat} {S A : ByteArray} {w' w'' : World} (h : LnI w x N L g gi j S A w') (k : Keeps (fun _ => False) w' w'') : LnI w x N L g gi j S A w'' :=
  ⟨h.le, h.s, h.a, by rw [k.block gi (Array.getElem?_eq_some_iff.1 h.it).1 fun h => h]; exact h.it, h.ins.kept k fun h => h, h.keeps.trans k fun _ _ h => h, h.lo, h.lo2, h.ne⟩

theorem ix_cell {w : World} {g x : Nat} {c : UInt8} (hc : c = 97 ∨ c = 98 ∨ c = 99 ∨ c = 105) (h : Blk w g [.int .i64 (Is.rdOp x), .int .i64 (Is.rdA x), .int .i64 (Is.rdB x), .int .i64 (Is.rdC x), .int .i64 (Is.rdI x)] 40) : w.cell? ⟨g, ixW c, none⟩ = some (.int .i64 (valW x c)) := by
  rcases hc with rfl | rfl | rfl | rfl
  · exact h.cell rfl
  · exact h.cell rfl
  · exact h.cell rfl
  · exact h.cell rfl

set_option maxHeartbeats 8000000 in
theorem line_yes (x : Nat) (hx : x < 4294967296) (w : World) (ht : Tabs w) (hd : Is.decOk x = true) : Calls Tryd.prog 12 #[.int .u32 (x : Int)] w fun e w' => e = .returned (.string (bst (lineW x))) ∧ Keeps (fun _ => False) w w' := by
  have HD : Hid (∀ w, Tabs w → Calls Tryd.prog 21 #[.int .u32 (x : Int)] w fun e w' => e = .returned (.tuple #[.agg #[.int .i64 (Is.rdOp x), .int .i64 (Is.rdA x), .int .i64 (Is.rdB x), .int .i64 (Is.rdC x), .int .i64 (Is.rdI x)], .int .i64 0]) ∧ Keeps (fun _ => False) w w') := by
    intro w ht
    refine (Is.dec_any x hx w ht.isa).mono ?_
    rintro e w1 ⟨rfl, h⟩
    exact ⟨by simp [Is.decV, Is.decE, hd, Is.insV], keeps_below h⟩
  obtain ⟨N, hN⟩ : ∃ N, N = (Is.nameOf (Is.rdOp x)).data.toList := ⟨_, rfl⟩
  obtain ⟨k, hk, hk8⟩ := Is.formOf_nat (Is.rdOp x)
  obtain ⟨L, hL⟩ : ∃ L, L = letW (k : Int) := ⟨_, rfl⟩
  have HL : Hid (lineW x = N ++ opsW x L true) := by show lineW x = _; unfold lineW; rw [hd, hN, hL, hk]; rfl
  have HB : Hid (N.length ≤ 10 ∧ L.length ≤ 3 ∧ (∀ c ∈ L, c = 97 ∨ c = 98 ∨ c = 99 ∨ c = 105) ∧ k < 8 ∧ L = letW (k : Int)) := ⟨by rw [hN]; exact name_size _, by rw [hL]; exact letW_nat _, fun c hc => by rw [hL] at hc; exact letW_mem hc, hk8, hL⟩
  have HN : Hid (∀ w, Tabs w → Calls Tryd.prog 22 #[.int .i64 (Is.rdOp x)] w fun e w' => e = .returned (.string (bst N)) ∧ w' = w) := by
    intro w ht
    refine (Is.name_any (Is.rdOp x) w ht.isa).mono ?_
    rintro e w1 ⟨rfl, h⟩
    exact ⟨by rw [hN]; rfl, h⟩
  have HF : Hid (∀ w, Tabs w → Calls Tryd.prog 23 #[.int .i64 (Is.rdOp x)] w fun e w' => e = .returned (.int .i64 (k : Int)) ∧ w' = w) := by
    intro w ht
    refine (Is.form_any (Is.rdOp x) w ht.isa).mono ?_
    rintro e w1 ⟨rfl, h⟩
    exact ⟨by rw [hk], h⟩
  have HT := Hid.mkq ht
  have HX := Hid.mkq hx
  obtain ⟨op, hop⟩ : ∃ op, op = Is.rdOp x := ⟨_, rfl⟩
  obtain ⟨ra, hra⟩ : ∃ op, op = Is.rdA x := ⟨_, rfl⟩
  obtain ⟨rb, hrb⟩ : ∃ op, op = Is.rdB x := ⟨_, rfl⟩
  obtain ⟨rc, hrc⟩ : ∃ op, op = Is.rdC x := ⟨_, rfl⟩
  obtain ⟨ri, hri⟩ : ∃ op, op = Is.rdI x := ⟨_, rfl⟩
  have HR : Hid (op = Is.rdOp x ∧ ra = Is.rdA x ∧ rb = Is.rdB x ∧ rc = Is.rdC x ∧ ri = Is.rdI x) := ⟨hop, hra, hrb, hrc, hri⟩
  rw [← hop] at HN HF
  rw [← hop, ← hra, ← hrb, ← hrc, ← hri] at HD
  clear ht hd hx hN hk hL hop hra hrb hrc hri
  go_enter Tryd.func12, Tryd.ntmps12
  go_wp2_with fail
  refine (HD.out w HT.out).mono ?_
  rintro e w1 ⟨rfl, hK⟩
  have HK : Hid (Keeps (fun _ => False) w (w1.alloc (.cells #[.int .i64 op, .int .i64 ra, .int .i64 rb, .int .i64 rc, .int .i64 ri] 40)) ∧ Blk (w1.alloc (.cells #[.int .i64 op, .int .i64 ra, .int .i64 rb, .int .i64 rc, .int .i64 ri] 40)) w1.heap.size [.int .i64 op, .int .i64 ra, .int .i64 rb, .int .i64 rc, .int .i64 ri] 40 ∧ w.heap.size ≤ w1.heap.size) := ⟨hK.alloc _, Blk.new _ _ _, hK.size⟩
  clear hK HD
  go_upto_region 4 with fail
  generalize w1.alloc (.cells #[.int .i64 op, .int .i64 ra, .int .i64 rb, .int .i64 rc, .int .i64 ri] 40) = W at HK ⊢
  generalize w1.heap.size = g at HK ⊢
  have c0 := HK.out.2.1.cell (i := 0) rfl
  go_wp2_with fail
  refine (HN.out W (HT.out.keep HK.out.1)).mono ?_
  rintro e w2 ⟨rfl, h2⟩
  obtain rfl := h2.symm
  go_wp2_with fail
  refine (HF.out W (HT.out.keep HK.out.1)).mono ?_
  rintro e w3 ⟨rfl, h3⟩
  obtain rfl := h3.symm
  have cl := (HT.out.keep HK.out.1).letter k HB.out.2.2.2.1
  rw [← HB.out.2.2.2.2] at cl
  have hk8 : (k : Int) < 8 := by have := HB.out.2.2.2.1; omega
  go_wp2
  have HI : Hid (LnI w x N L g W.heap.size 0 (bst N) ⟨#[32]⟩ (W.iter (bst L) 0)) := by
    refine ⟨Nat.zero_le _, by simp [opsW], rfl, World.iter_heap _ _ _, ?_, ?_, HK.out.1.size, HK.out.2.2, ?_⟩
    · have := HK.out.2.1
      rw [HR.out.1, HR.out.2.1, HR.out.2.2.1, HR.out.2.2.2.1, HR.out.2.2.2.2] at this
      exact this.alloc _
    · exact HK.out.1.alloc _
    · have := HK.out.2.1.lt; omega
  generalize W.iter (bst L) 0 = W1 at HI ⊢
  generalize W.heap.size = gi at HI ⊢
  clear HK HN HF c0 cl hk8
  go_loopw [5, 6] (fun ln ah wr => ∃ (j : Nat) (S A : ByteArray), ln = .string S ∧ ah = .string A ∧ LnI w x N L g gi j S A wr) (fun _ _ wr => L.length - posOf wr.heap[gi]?)
  case atStart => exact ⟨0, _, _, rfl, rfl, HI.out⟩
  case round =>
    obtain ⟨j, S, A, rfl, rfl, hI⟩ := hrel
    have HJ := Hid.mkq hI
    clear hI
    have hS : S.size ≤ 100 := by
      have h1 := HJ.out.s
      have h2 := opsW_length x HX.out (L.take j) true
      have h3 := HB.out
      rw [h1, bst_size, List.length_append]
      simp at h2
      omega
    have hA : A.size ≤ 2 := by
      rw [HJ.out.a, bst_size]
      split <;> simp
    by_cases hlt : j < L.length
    · obtain ⟨c, hc⟩ : ∃ c, L[j]? = some c := ⟨_, List.getElem?_eq_getElem hlt⟩
      have hm := HB.out.2.2.1 c (List.mem_of_getElem? hc)
      have hc128 : c.toNat < 128 := by rcases hm with rfl | rfl | rfl | rfl <;> decide
      have HN0 := Hid.mkq (fun ty => run_next_at (P := Tryd.prog) ty HJ.out.it hc hc128)
      obtain ⟨W2, hW2⟩ : ∃ W2, W2 = { wr with heap := wr.heap.setIfInBounds gi (.stringIter (bst L) (j + 1)) } := ⟨_, rfl⟩
      have HW2 : Hid (Keeps (fun _ => False) w W2 ∧ W2.heap[gi]? = some (.stringIter (bst L) (j + 1)) ∧ Blk W2 g [.int .i64 (Is.rdOp x), .int .i64 (Is.rdA x), .int .i64 (Is.rdB x), .int .i64 (Is.rdC x), .int .i64 (Is.rdI x)] 40) := by
        have hk := keeps_iter (S := fun b => b = gi) (Keeps.refl _ wr) gi (.stringIter (bst L) (j + 1)) fun _ => rfl
        rw [← hW2] at hk
        refine ⟨?_, ?_, HJ.out.ins.kept hk HJ.out.ne⟩
        · rw [hW2]
          exact keeps_iter HJ.out.keeps gi _ fun h => by have := HJ.out.lo; omega
        · rw [hW2]
          show (wr.heap.setIfInBounds gi _)[gi]? = _
          rw [Array.getElem?_setIfInBounds_self_of_lt (Array.getElem?_eq_some_iff.1 HJ.out.it).1]
      rw [← hW2] at HN0
      have hn0 := HN0.out
      obtain ⟨v, hv⟩ : ∃ v, v = valW x c := ⟨_, rfl⟩
      have hcell := ix_cell hm HW2.out.2.2
      rw [← hv] at hcell
      have HP := Hid.mkq (fun w => part_any g c hm w)
      generalize hcn : c.toNat = cn at hn0 HP
      have HV : Hid (v = valW x c ∧ c.toNat = cn ∧ (c = 97 ∨ c = 98 ∨ c = 99 ∨ c = 105) ∧ L[j]? = some c) := ⟨hv, hcn, hm, hc⟩
      clear hW2 hv hcn hm hc HN0 hc128
      go_wp2_with fail
      refine (HP.out W2).mono ?_
      rintro e w3 ⟨rfl, h3⟩
      obtain rfl := h3.symm
      have hvb : -9223372036854775808 ≤ v ∧ v ≤ 9223372036854775807 := by have := val_bd x HX.out c; rw [HV.out.1]; omega
      clear hn0
      by_cases hcc : c = 105
      · have hcn : cn = 105 := by rw [← HV.out.2.1, hcc]; rfl
        subst hcn
        have HCC := Hid.mkq hcc
        clear hcc
        have HC := Hid.mkq (itoa_any v hvb W2 (HT.out.keep HW2.out.1))
        have hz : (bst (tx v)).size ≤ 22 := by have := tx_length (n := v) hvb; rw [bst_size]; omega
        clear hvb
        go_wp2_with fail
        refine HC.out.mono ?_
        rintro e w4 ⟨rfl, hK4⟩
        have HE : Hid (LnI w x N L g gi (j + 1) (S ++ (A ++ bst (tx v))) ⟨#[44, 32]⟩ w4) := by
          refine ⟨hlt, ?_, by rw [if_neg (by omega)]; rfl, by rw [hK4.block gi (Array.getElem?_eq_some_iff.1 HW2.out.2.1).1 fun h => h]; exact HW2.out.2.1, HW2.out.2.2.kept hK4 fun h => h, HW2.out.1.trans hK4 fun _ _ h => h, HJ.out.lo, HJ.out.lo2, HJ.out.ne⟩
          rw [List.take_add_one, HV.out.2.2.2, Option.toList_some, opsW_snoc, HJ.out.s, HJ.out.a, bst_append, bst_append]
          congr 1
          rw [List.append_assoc]
          congr 2
          rw [show opW x c = tx v from ?_]
          · congr 1
            have hl := HJ.out.le
            by_cases h0 : j = 0
            · subst h0; simp
            · have he : (L.take j).isEmpty = false := by
                cases hT : L.take j with
                | nil =>
                  have h9 := congrArg List.length hT
                  rw [List.length_take, List.length_nil] at h9
                  omega
                | cons _ _ => rfl
              rw [if_neg h0, he]
              rfl
          · unfold opW
            rw [if_pos HCC.out, HV.out.1]
        have HM : Hid (L.length - posOf w4.heap[gi]? < L.length - posOf wr.heap[gi]?) := by
          show _ < _
          rw [HE.out.it, HJ.out.it]
          simp only [posOf]
          omega
        clear hK4 HC
        go_wp2
        go_roundw
        case rel => exact ⟨j + 1, _, _, rfl, rfl, HE.out⟩
        case measure => exact HM.out
      · have hcn : ((cn : Int) == 105) = false := by
          have : cn ≠ 105 := fun e => hcc (by have := HV.out.2.1; rw [e] at this; exact UInt8.toNat_inj.1 this)
          simp; omega
        have HCC := Hid.mkq hcc
        clear hcc
        have HC := Hid.mkq (reg_any v hvb W2 (HT.out.keep HW2.out.1))
        have hz : (bst (114 :: tx v)).size ≤ 22 := by have := tx_length (n := v) hvb; rw [bst_size]; simp; omega
        clear hvb
        go_wp2_with fail
        refine HC.out.mono ?_
        rintro e w4 ⟨rfl, hK4⟩
        have HE : Hid (LnI w x N L g gi (j + 1) (S ++ (A ++ bst (114 :: tx v))) ⟨#[44, 32]⟩ w4) := by
          refine ⟨hlt, ?_, by rw [if_neg (by omega)]; rfl, by rw [hK4.block gi (Array.getElem?_eq_some_iff.1 HW2.out.2.1).1 fun h => h]; exact HW2.out.2.1, HW2.out.2.2.kept hK4 fun h => h, HW2.out.1.trans hK4 fun _ _ h => h, HJ.out.lo, HJ.out.lo2, HJ.out.ne⟩
          rw [List.take_add_one, HV.out.2.2.2, Option.toList_some, opsW_snoc, HJ.out.s, HJ.out.a, bst_append, bst_append]
          congr 1
          rw [List.append_assoc]
          congr 2
          rw [show opW x c = 114 :: tx v from ?_]
          · congr 1
            have hl := HJ.out.le
            by_cases h0 : j = 0
            · subst h0; simp
            · have he : (L.take j).isEmpty = false := by
                cases hT : L.take j with
                | nil =>
                  have h9 := congrArg List.length hT
                  rw [List.length_take, List.length_nil] at h9
                  omega
                | cons _ _ => rfl
              rw [if_neg h0, he]
              rfl
          · unfold opW
            rw [if_neg HCC.out, HV.out.1]
        have HM : Hid (L.length - posOf w4.heap[gi]? < L.length - posOf wr.heap[gi]?) := by
          show _ < _
          rw [HE.out.it, HJ.out.it]
          simp only [posOf]
          omega
        clear hK4 HC
        go_wp2
        go_roundw
        case rel => exact ⟨j + 1, _, _, rfl, rfl, HE.out⟩
        case measure => exact HM.out
    · have hj : j = L.length := by have := HJ.out.le; omega
      have hn0 := fun ty => run_next_stop (P := Tryd.prog) ty HJ.out.it (by omega)
      clear hlt
      go_wp2
      go_ret
      refine ⟨?_, HJ.out.keeps⟩
      have := HJ.out.s
      rw [hj, List.take_of_length_le (Nat.le_refl _)] at this
      rw [HL.out, ← this]
      rfl
end Go.Proofs.YtohojpacijnnaaaDoor
