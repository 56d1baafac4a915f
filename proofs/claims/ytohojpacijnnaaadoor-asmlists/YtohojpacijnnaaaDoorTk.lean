import Derived.Test.YtohojpacijnnaaaDoorTj
namespace Go.Proofs.YtohojpacijnnaaaDoor
open Go.RowKit Go.Shelf
set_option linter.unusedVariables false
set_option linter.unusedSimpArgs false
set_option maxRecDepth 6000

theorem one_any (x : Nat) (hx : x < 4294967296) (w : World) (ht : Tabs w) : Calls Tryd.prog 10 #[.int .u32 (x : Int)] w fun e w' => e = .returned (.string (bst (lineW x ++ [10]))) ∧ Keeps (fun _ => False) w w' := by
  cases hd : Is.decOk x with
  | false => exact one_no x hx w ht hd
  | true => exact one_yes x hx w ht hd

/-- A row of bytes of one's own, as a string. -/
theorem row_string (w : World) (ao : Option Addr) (ln cp : Nat) (xs : List UInt8) (h : w.ownsRow 0 5 1 (.slice ao ln cp) xs.length (bvs xs)) : (convert 28 9 (.slice ao ln cp)).run Tryd.prog w = .ok (.string (bst xs)) w := by
  rcases h.2 with ⟨h1, h2⟩ | ⟨g, cap, cur, h1, h2⟩
  · cases h1
    obtain rfl : xs = [] := List.length_eq_zero_iff.1 h2
    exact run_convert_bytes_nil (P := Tryd.prog) w 28 5 Tryd.underlying28 Tryd.underlying5 0 0 9 Tryd.underlying9
  · cases h1
    refine run_convert_bytes_back (P := Tryd.prog) w 28 9 5 ⟨g, 0, none⟩ _ xs Tryd.underlying28 Tryd.underlying5 Tryd.underlying9 fun j hj => ?_
    exact h.cells rfl j _ (bvs_get xs j hj)

theorem textW_take (ws : List UInt32) (j : Nat) (x : UInt32) (h : ws[j]? = some x) : textW (ws.take (j + 1)) = textW (ws.take j) ++ (lineW x.toNat ++ [10]) := by
  rw [List.take_add_one, h, Option.toList_some, textW_snoc, List.append_assoc]

/-- Where the document's walk over the words stands. -/
structure LrI (w : World) (v : Value) (ws : List UInt32) (j : Nat) (w' : World) : Prop where
  own : w'.ownsRow 0 5 1 v (textW (ws.take j)).length (bvs (textW (ws.take j)))
  new : ∀ k, v.ownBlock = some k → w.heap.size ≤ k
  keeps : Keeps (fun _ => False) w w'
theorem LrI.form {w : World} {v : Value} {ws : List UInt32} {j : Nat} {w' : World} (h : LrI w v ws j w') : ∃ ao ln cp, v = .slice ao ln cp := by
  rcases h.own.2 with ⟨e, _⟩ | ⟨g, cap, cur, e, _⟩
  · exact ⟨_, _, _, e⟩
  · exact ⟨_, _, _, e⟩

set_option maxHeartbeats 4000000 in
theorem rlist_any (a : Option Addr) (c : Nat) (ws : List UInt32) (n : Nat) (hn : n = ws.length) (w : World) (ht : Tabs w) (hs : SegW w a ws) (hc : n ≤ 140737488355328) :
    Calls Tryd.prog 5 #[.slice a n c] w fun e w' => e = .returned (.string (bst (if n ≤ 1024 then textW ws else []))) ∧ Keeps (fun _ => False) w w' := by
  by_cases h1 : n ≤ 1024
  · have g1 : decide (1024 < (n : Int)) = false := decide_eq_false (by omega)
    have HH : Hid (Tabs w ∧ SegW w a ws ∧ n = ws.length) := ⟨ht, hs, hn⟩
    have hnn : (n : Int) ≤ 1024 := by omega
    rw [if_pos h1]
    clear ht hs hn h1 hc
    go_enter Tryd.func5, Tryd.ntmps5
    go_wp2
    have HI2 : Hid (LrI w (.slice none 0 0) ws 0 w) := ⟨World.ownsRow_nil _ _ _ _, fun k e => (by cases e), Keeps.refl _ w⟩
    clear g1
    go_loopw [3, 4] (fun v i wr => ∃ j : Nat, j ≤ n ∧ i = .int .i64 j ∧ LrI w v ws j wr) (fun _ i _ => n - (intOf i).toNat)
    case atStart => exact ⟨0, by omega, rfl, HI2.out⟩
    case round =>
      obtain ⟨j, hj, rfl, hI⟩ := hrel
      obtain ⟨ao, ln, cp, rfl⟩ := hI.form
      by_cases hlt : j < n
      · obtain ⟨x, hx⟩ : ∃ x, ws[j]? = some x := ⟨_, List.getElem?_eq_getElem (by have := HH.out.2.2; omega)⟩
        obtain ⟨g, o, rfl, hcell⟩ : ∃ g o, a = some ⟨g, o, none⟩ ∧ w.cell? ⟨g, o + j, none⟩ = some (.int .u32 (x.toNat : Int)) := by
          rcases HH.out.2.1 with h | ⟨g, o, e, h⟩
          · rw [h] at hx; simp at hx
          · have hl := (List.getElem?_eq_some_iff.1 hx)
            refine ⟨g, o, e, ?_⟩
            rw [h j hl.1, hl.2]
        have hcw := cell_kept hcell hI.keeps fun h => h
        have HJ : Hid (LrI w (.slice ao ln cp) ws j wr ∧ ws[j]? = some x) := ⟨hI, hx⟩
        have hlt' : (j : Int) < n := by omega
        obtain ⟨X, hX⟩ : ∃ X, X = (x.toNat : Int) := ⟨_, rfl⟩
        have HC : Hid (Calls Tryd.prog 10 #[.int .u32 X] wr fun e w' => e = .returned (.string (bst (lineW x.toNat ++ [10]))) ∧ Keeps (fun _ => False) wr w') := by
          rw [hX]; exact one_any x.toNat x.toNat_lt wr (HH.out.1.keep hI.keeps)
        rw [← hX] at hcw
        clear hcell hI hx hX
        go_wp2_with fail
        refine HC.out.mono ?_
        rintro e w1 ⟨rfl, hK1⟩
        have hlen : (textW (ws.take j)).length ≤ 100 * 1024 := by
          have h1 := textW_length (ws.take j)
          have h2 : (ws.take j).length ≤ j := by simp; omega
          omega
        have hlw := lineW_length x
        have hown := owns_kept HJ.out.1.own hK1 fun _ _ h => h
        obtain ⟨v', W', hr, ho, hl, hK⟩ := append_text (.slice ao ln cp) (textW (ws.take j)).length (textW (ws.take j)) hown (bst (lineW x.toNat ++ [10])) (by rw [bst_size]; simp; omega)
        have HR := Hid.mkq hr
        have HE : Hid (LrI w v' ws (j + 1) W') := by
          have hk1 := HJ.out.1.keeps.trans hK1 fun _ _ h => h
          refine ⟨?_, fun k e => ?_, hk1.trans hK fun k hk h => ?_⟩
          · rw [textW_take ws j x HJ.out.2]
            have e : (textW (ws.take j) ++ (lineW x.toNat ++ [10])).length = (textW (ws.take j)).length + (bst (lineW x.toNat ++ [10])).size := by rw [List.length_append, bst_size]
            rw [e]; exact ho
          · rcases hl with h | ⟨m, h, hm⟩
            · exact HJ.out.1.new k (by rw [← h]; exact e)
            · rw [e] at h; cases h; exact Nat.le_trans hk1.size hm
          · have := HJ.out.1.new k h.symm; omega
        obtain ⟨bo, bn, bp, rfl⟩ := HE.out.form
        clear hK1 hown hr ho hl hK HC hcw
        go_wp2_with (at_builtin; go_must (refine wpList_append_run rfl (.tmp 14) (.tmp 19) 28 9 rfl (.slice ao ln cp) (.string (bst (lineW x.toNat ++ [10]))) (.slice bo bn bp) W' rfl rfl HR.out ?_; refine Hid.out ?_))
        unfold Hid
        clear HR
        go_wp2
        go_roundw
        case rel => exact ⟨j + 1, by omega, by go_num, HE.out⟩
        case measure => simp [intOf]; omega
      · have hjn : j = n := by omega
        have hcv : (convert 28 9 (.slice ao ln cp)).run Tryd.prog wr = .ok (.string (bst (textW ws))) wr := by
          have e : ws.take j = ws := List.take_of_length_le (by have := HH.out.2.2; omega)
          have := hI.own
          rw [e] at this
          exact row_string wr ao ln cp _ this
        have HK := Hid.mkq hI.keeps
        clear hI
        go_wp2
        go_ret
        exact ⟨rfl, HK.out⟩
  · have g1 : decide (1024 < (n : Int)) = true := decide_eq_true (by omega)
    rw [if_neg h1]
    clear ht hs hn h1
    go_enter Tryd.func5, Tryd.ntmps5
    go_wp2
    go_ret
    exact ⟨rfl, Keeps.refl _ _⟩
end Go.Proofs.YtohojpacijnnaaaDoor
