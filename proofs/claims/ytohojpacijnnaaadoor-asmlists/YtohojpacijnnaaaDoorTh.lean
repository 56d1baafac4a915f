import Derived.Test.YtohojpacijnnaaaDoorTg
namespace Go.Proofs.YtohojpacijnnaaaDoor
open Go.RowKit Go.Shelf
set_option linter.unusedVariables false
set_option linter.unusedSimpArgs false
set_option maxRecDepth 6000

/-- The lines of words. -/
def textW (ws : List UInt32) : List UInt8 := ws.flatMap fun x => lineW x.toNat ++ [10]
theorem textW_snoc (ws : List UInt32) (x : UInt32) : textW (ws ++ [x]) = textW ws ++ lineW x.toNat ++ [10] := by simp [textW, List.flatMap_append]
theorem lineW_length (x : UInt32) : (lineW x.toNat).length ≤ 99 := by
  have hx : x.toNat < 4294967296 := x.toNat_lt
  unfold lineW
  split
  · have h1 := name_size (Is.rdOp x.toNat)
    have h2 := opsW_length x.toNat hx (letW (Is.formOf (Is.rdOp x.toNat))) true
    have h3 := letW_nat (Is.formOf (Is.rdOp x.toNat))
    rw [List.length_append]
    omega
  · have := decDigits_len x.toNat hx
    simp; omega
theorem textW_length (ws : List UInt32) : (textW ws).length ≤ 100 * ws.length := by
  unfold textW
  induction ws with
  | nil => simp
  | cons x r ih =>
    have := lineW_length x
    simp only [List.flatMap_cons, List.length_append, List.length_cons, List.length_nil]
    omega

/-- Where the walk over the words stands. -/
structure LsI (w : World) (b : Nat) (ws : List UInt32) (j : Nat) (w' : World) : Prop where
  bd : ∃ p v, Bd w' b p v (textW (ws.take j)) ∧ ∀ k, v.ownBlock = some k → w.heap.size ≤ k
  keeps : Keeps (fun _ => False) w w'

set_option maxHeartbeats 4000000 in
theorem list_any (a : Option Addr) (c : Nat) (ws : List UInt32) (n : Nat) (hn : n = ws.length) (w : World) (ht : Tabs w) (hs : SegW w a ws) (hc : n ≤ 140737488355328) :
    Calls Tryd.prog 6 #[.slice a n c] w fun e w' => e = .returned (.string (bst (if n ≤ 1024 then textW ws else []))) ∧ Keeps (fun _ => False) w w' := by
  by_cases h1 : n ≤ 1024
  · have g1 : decide (1024 < (n : Int)) = false := decide_eq_false (by omega)
    have HH : Hid (Tabs w ∧ SegW w a ws ∧ n = ws.length) := ⟨ht, hs, hn⟩
    have hnn : (n : Int) ≤ 1024 := by omega
    rw [if_pos h1]
    clear ht hs hn h1 hc
    go_enter Tryd.func6, Tryd.ntmps6
    go_wp2
    have HI : Hid (LsI w w.heap.size ws 0 (w.alloc (.cells #[.pointer none, .slice none 0 0] 32)) ∧ w.heap.size = w.heap.size) :=
      ⟨⟨⟨.pointer none, .slice none 0 0, ⟨Blk.new _ _ _, World.ownsRow_nil _ _ _ _, by simp [Value.ownBlock], .inl rfl⟩, fun k e => by cases e⟩, (Keeps.refl _ w).alloc _⟩, rfl⟩
    generalize w.alloc (.cells #[.pointer none, .slice none 0 0] 32) = W at HI ⊢
    have HG : Hid (∃ b, b = w.heap.size) := ⟨_, rfl⟩
    obtain ⟨b, hb⟩ := HG.out
    rw [← hb]
    have HBe : Hid (b = w.heap.size) := hb
    have HI2 : Hid (LsI w b ws 0 W) := by rw [HBe.out]; exact HI.out.1
    clear g1 HI HG hb
    go_loopw [11] (fun i wr => ∃ j : Nat, j ≤ n ∧ i = .int .i64 j ∧ LsI w b ws j wr) (fun i _ => n - (intOf i).toNat)
    case atStart => exact ⟨0, by omega, rfl, HI2.out⟩
    case round =>
      obtain ⟨j, hj, rfl, hI⟩ := hrel
      obtain ⟨p, v, hB, hv⟩ := hI.bd
      by_cases hlt : j < n
      · obtain ⟨x, hx⟩ : ∃ x, ws[j]? = some x := ⟨_, List.getElem?_eq_getElem (by have := HH.out.2.2; omega)⟩
        obtain ⟨g, o, rfl, hcell⟩ : ∃ g o, a = some ⟨g, o, none⟩ ∧ w.cell? ⟨g, o + j, none⟩ = some (.int .u32 (x.toNat : Int)) := by
          rcases HH.out.2.1 with h | ⟨g, o, e, h⟩
          · rw [h] at hx; simp at hx
          · have hl := (List.getElem?_eq_some_iff.1 hx)
            refine ⟨g, o, e, ?_⟩
            rw [h j hl.1, hl.2]
        have hcw := cell_kept hcell hI.keeps fun h => h
        have HJ : Hid (LsI w b ws j wr ∧ Bd wr b p v (textW (ws.take j)) ∧ (∀ k, v.ownBlock = some k → w.heap.size ≤ k) ∧ ws[j]? = some x) := ⟨hI, hB, hv, hx⟩
        have hlt' : (j : Int) < n := by omega
        obtain ⟨X, hX⟩ : ∃ X, X = (x.toNat : Int) := ⟨_, rfl⟩
        have HC : Hid (Calls Tryd.prog 12 #[.int .u32 X] wr fun e w' => e = .returned (.string (bst (lineW x.toNat))) ∧ Keeps (fun _ => False) wr w') := by
          rw [hX]; exact line_any x.toNat x.toNat_lt wr (HH.out.1.keep hI.keeps)
        rw [← hX] at hcw
        clear hcell hI hB hv hx hX
        go_wp2_with fail
        refine HC.out.mono ?_
        rintro e w1 ⟨rfl, hK1⟩
        have hlen : (textW (ws.take j)).length ≤ 100 * 1024 := by
          have h1 := textW_length (ws.take j)
          have h2 : (ws.take j).length ≤ j := by simp; omega
          omega
        have hlw := lineW_length x
        have hB1 := HJ.out.2.1.kept hK1 (fun h => h) fun _ _ h => h
        have HW : Hid (Calls Tryd.prog 11 #[.pointer (some ⟨b, 0, none⟩), .string (bst (lineW x.toNat))] w1 fun e w' => e = .returned (.tuple #[.int .i64 (bst (lineW x.toNat)).size, .nilIface]) ∧ Wrote w1 b v (textW (ws.take j) ++ lineW x.toNat) w') :=
          write_any b p v (textW (ws.take j)) (bst (lineW x.toNat)) w1 hB1 (by rw [bst_size]; omega)
        have HK1 : Hid (Keeps (fun _ => False) w w1) := HJ.out.1.keeps.trans hK1 fun _ _ h => h
        clear hcw HC hK1 hB1
        go_wp2_with fail
        refine HW.out.mono ?_
        rintro e w2 ⟨rfl, hW2⟩
        obtain ⟨v2, hB2, hl2⟩ := hW2.bd
        have hv2 : ∀ k, v2.ownBlock = some k → w.heap.size ≤ k := by
          intro k e
          rcases hl2 with h | ⟨m, h, hm⟩
          · exact HJ.out.2.2.1 k (by rw [← h]; exact e)
          · rw [e] at h; cases h; exact Nat.le_trans HK1.out.size hm
        have HK2 : Hid (Keeps (fun _ => False) w w2) := HK1.out.trans hW2.keeps fun k hk h => by
          rcases h with h | h
          · have := HBe.out; omega
          · have := HJ.out.2.2.1 k h.symm; omega
        have HC2 : Hid (Calls Tryd.prog 13 #[.pointer (some ⟨b, 0, none⟩), .int .u8 10] w2 fun e w' => e = .returned .nilIface ∧ Wrote w2 b v2 (textW (ws.take j) ++ lineW x.toNat ++ [10]) w') :=
          byte_any b _ v2 (textW (ws.take j) ++ lineW x.toNat) 10 w2 hB2 (by rw [List.length_append]; omega)
        have HV2 := Hid.mkq hv2
        clear hW2 hB2 hl2 hv2 HW HK1 hlen hlw
        go_wp2_with fail
        refine HC2.out.mono ?_
        rintro e w3 ⟨rfl, hW3⟩
        have HE : Hid (LsI w b ws (j + 1) w3) := by
          obtain ⟨v3, hB3, hl3⟩ := hW3.bd
          have e : textW (ws.take (j + 1)) = textW (ws.take j) ++ lineW x.toNat ++ [10] := by
            rw [List.take_add_one, HJ.out.2.2.2, Option.toList_some, textW_snoc]
          refine ⟨⟨_, v3, by rw [e]; exact hB3, fun k e => ?_⟩, HK2.out.trans hW3.keeps fun k hk h => ?_⟩
          · rcases hl3 with h | ⟨m, h, hm⟩
            · exact HV2.out k (by rw [← h]; exact e)
            · rw [e] at h; cases h; exact Nat.le_trans HK2.out.size hm
          · rcases h with h | h
            · have := HBe.out; omega
            · have := HV2.out k h.symm; omega
        clear hW3 HC2 HV2 HK2 HJ
        go_wp2
        go_roundw
        case rel => exact ⟨j + 1, by omega, by go_num, HE.out⟩
        case measure => simp [intOf]; omega
      · have hjn : j = n := by omega
        have HC : Hid (Calls Tryd.prog 14 #[.pointer (some ⟨b, 0, none⟩)] wr fun e w' => e = .returned (.string (bst (textW ws))) ∧ Keeps (fun k => w.heap.size ≤ k) wr w') := by
          have e : ws.take j = ws := List.take_of_length_le (by have := HH.out.2.2; omega)
          rw [e] at hB
          exact string_any b p v (textW ws) wr hB w.heap.size (by have := HBe.out; omega) hv
        have HK := Hid.mkq hI.keeps
        clear hI hB hv
        go_wp2_with fail
        refine HC.out.mono ?_
        rintro e w1 ⟨rfl, hK1⟩
        have HE : Hid (Keeps (fun _ => False) w w1) := HK.out.trans hK1 fun k hk h => by omega
        clear hK1 HC
        go_wp2
        go_ret
        exact ⟨rfl, HE.out⟩
  · have g1 : decide (1024 < (n : Int)) = true := decide_eq_true (by omega)
    rw [if_neg h1]
    clear ht hs hn h1
    go_enter Tryd.func6, Tryd.ntmps6
    go_wp2
    go_ret
    exact ⟨rfl, Keeps.refl _ _⟩
end Go.Proofs.YtohojpacijnnaaaDoor
