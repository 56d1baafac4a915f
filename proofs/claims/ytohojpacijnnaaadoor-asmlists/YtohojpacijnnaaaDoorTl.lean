import Derived.Test.YtohojpacijnnaaaDoorTk
import Derived.Test.YtohojpacijnnaaaDoorCa
namespace Go.Proofs.YtohojpacijnnaaaDoor
open Go.RowKit Go.Shelf
set_option linter.unusedVariables false
set_option linter.unusedSimpArgs false
set_option maxRecDepth 6000

/-- The words with the marks laid over the first j of them. -/
def mixW (ks ms : List UInt32) (j : Nat) : List UInt32 := ms.take j ++ ks.drop (ms.take j).length
theorem mixW_zero (ks ms : List UInt32) : mixW ks ms 0 = ks := by simp [mixW]
theorem mixW_length (ks ms : List UInt32) (j : Nat) (h : j ≤ ks.length) : (mixW ks ms j).length = ks.length := by
  unfold mixW
  have : (ms.take j).length ≤ j := by simp; omega
  rw [List.length_append, List.length_drop]
  omega
theorem mixW_step (ks ms : List UInt32) (j : Nat) (h : j < ks.length) (h2 : j < ms.length) : mixW ks ms (j + 1) = (mixW ks ms j).set j (ms[j]'h2) := by
  unfold mixW
  have e1 : (ms.take j).length = j := by simp; omega
  have e2 : (ms.take (j + 1)).length = j + 1 := by simp; omega
  rw [e1, e2, List.set_append_right _ _ (by omega), e1, Nat.sub_self, List.take_add_one, List.getElem?_eq_getElem h2, List.append_assoc, List.drop_eq_getElem_cons h, List.set_cons_zero]
  rfl
theorem mixW_stay (ks ms : List UInt32) (j : Nat) (h2 : ¬ j < ms.length) : mixW ks ms (j + 1) = mixW ks ms j := by
  unfold mixW
  rw [List.take_of_length_le (by omega), List.take_of_length_le (by omega)]
theorem spareW_set (ks : List UInt32) (j : Nat) (x : UInt32) (h : j < ks.length) (i : Nat) : spareW (ks.set j x) i = if i = j then x else spareW ks i := by
  unfold spareW
  rw [List.getElem?_set]
  by_cases e : i = j
  · subst e; simp [h]
  · have e2 : ¬ j = i := fun h => e h.symm
    simp [e, e2]
theorem seg_spare {w : World} {B N : Nat} {ks : List UInt32} (h : Blk w B (fW N (spareW ks)) 26) (hN : ks.length ≤ N) : SegW w (some ⟨B, 0, none⟩) ks := by
  refine .inr ⟨B, 0, rfl, fun j hj => ?_⟩
  rw [Nat.zero_add]
  have := h.cell (fW_get (spareW ks) (show j < N by omega))
  rw [this]
  simp [spareW, hj]
theorem seg_own {w : World} {B : Nat} {ks : List UInt32} (h : Blk w B (wvs ks) 26) : SegW w (some ⟨B, 0, none⟩) ks := by
  refine .inr ⟨B, 0, rfl, fun j hj => ?_⟩
  rw [Nat.zero_add]
  exact h.cell (wvs_get ks j hj)

/-- Where the law's overwriting stands. -/
structure LwI (w : World) (B G : Nat) (ks ms : List UInt32) (j : Nat) (w' : World) : Prop where
  le : j ≤ ks.length
  b : Blk w' B (fW (ks.length + 70) (spareW (mixW ks ms j))) 26
  g : Blk w' G (wvs (mixW ks ms j)) 26
  ne : B ≠ G
  lo : w.heap.size ≤ B ∧ w.heap.size ≤ G
  keeps : Keeps (fun _ => False) w w'
theorem LwI.step {w : World} {B G : Nat} {ks ms : List UInt32} {j : Nat} {w' : World} (h : LwI w B G ks ms j w') (h1 : j < ks.length) (h2 : j < ms.length) :
    LwI w B G ks ms (j + 1) ((w'.setCell ⟨G, j, none⟩ (.int .u32 ((ms[j]'h2).toNat : Int))).setCell ⟨B, j, none⟩ (.int .u32 ((ms[j]'h2).toNat : Int))) := by
  have hk1 : Keeps (fun k => k = G) w' (w'.setCell ⟨G, j, none⟩ (.int .u32 ((ms[j]'h2).toNat : Int))) := (Keeps.refl _ w').setCell _ _ fun _ => rfl
  have hk2 : Keeps (fun k => k = B) (w'.setCell ⟨G, j, none⟩ (.int .u32 ((ms[j]'h2).toNat : Int))) ((w'.setCell ⟨G, j, none⟩ (.int .u32 ((ms[j]'h2).toNat : Int))).setCell ⟨B, j, none⟩ (.int .u32 ((ms[j]'h2).toNat : Int))) := (Keeps.refl _ _).setCell _ _ fun _ => rfl
  have hlen := mixW_length ks ms j h.le
  refine ⟨h1, ?_, ?_, h.ne, h.lo, (h.keeps.trans hk1 fun k hk e => ?_).trans hk2 fun k hk e => ?_⟩
  · have hb := (h.b.kept hk1 h.ne).setCell j (.int .u32 ((ms[j]'h2).toNat : Int))
    rw [fW_set] at hb
    rw [mixW_step ks ms j h1 h2]
    rw [fW_congr (g := fun i => if i = j then ms[j]'h2 else spareW (mixW ks ms j) i) fun i hi => spareW_set _ j _ (by omega) i]
    exact hb
  · rw [mixW_step ks ms j h1 h2, wvs_setm]
    exact (h.g.setCell j _).kept hk2 fun e => h.ne e.symm
  · have := h.lo; omega
  · have := h.lo; omega
theorem LwI.stay {w : World} {B G : Nat} {ks ms : List UInt32} {j : Nat} {w' : World} (h : LwI w B G ks ms j w') (h1 : j < ks.length) (h2 : ¬ j < ms.length) : LwI w B G ks ms (j + 1) w' :=
  ⟨h1, by rw [mixW_stay ks ms j h2]; exact h.b, by rw [mixW_stay ks ms j h2]; exact h.g, h.ne, h.lo, h.keeps⟩

set_option maxHeartbeats 8000000 in
theorem law_any (a : Option Addr) (c : Nat) (ks : List UInt32) (n : Nat) (hn : n = ks.length) (a2 : Option Addr) (c2 : Nat) (ms : List UInt32) (m : Nat) (hm : m = ms.length) (w : World) (ht : Tabs w) (hs : SegW w a ks) (hs2 : SegW w a2 ms)
    (hl : n ≤ 35184372087808) (hl2 : m ≤ 140737488355328) :
    Calls Tryd.prog 3 #[.slice a n c, .slice a2 m c2] w fun e w' => e = .returned (.bool true) ∧ Keeps (fun _ => False) w w' := by
  have HT := Hid.mkq ht
  have HL : Hid (n = ks.length ∧ m = ms.length ∧ n ≤ 35184372087808 ∧ m ≤ 140737488355328) := ⟨hn, hm, hl, hl2⟩
  have HS : Hid (SegW w a ks ∧ SegW w a2 ms) := ⟨hs, hs2⟩
  have hn0 : (n : Int) ≤ 35184372087808 := by omega
  have hm0 : (m : Int) ≤ 140737488355328 := by omega
  have HC4 := Hid.mkq (handWBig a n c ks w hs hn hl)
  obtain ⟨S, hS⟩ : ∃ S, S = bst (if n ≤ 1024 then textW ks else []) := ⟨_, rfl⟩
  have HR : Hid (∀ w', Keeps (fun _ => False) w w' → Calls Tryd.prog 5 #[.slice a n c] w' fun e w'' => e = .returned (.string S) ∧ Keeps (fun _ => False) w' w'') := by
    intro w' hk
    rw [hS]
    exact rlist_any a c ks n hn w' (ht.keep hk) (hs.kept hk fun _ _ h => h) (by omega)
  have HP : Hid (∀ (b : Option Addr) (c : Nat) w', Keeps (fun _ => False) w w' → SegW w' b ks → Calls Tryd.prog 6 #[.slice b n c] w' fun e w'' => e = .returned (.string S) ∧ Keeps (fun _ => False) w' w'') := by
    intro b c w' hk hb
    rw [hS]
    exact list_any b c ks n hn w' (ht.keep hk) hb (by omega)
  obtain ⟨B, hBB⟩ : ∃ B, B = w.heap.size := ⟨_, rfl⟩
  rw [← hBB] at HC4
  have HB := Hid.mkq hBB
  clear ht hn hm hl hl2 hs hs2 hS hBB
  go_enter Tryd.func3, Tryd.ntmps3
  go_wp2_with fail
  refine HC4.out.mono ?_
  rintro e w1 ⟨rfl, hB1, hK1⟩
  have H1 : Hid (Blk w1 B (fW (n + 70) (spareW ks)) 26 ∧ Keeps (fun _ => False) w w1) := ⟨hB1, hK1⟩
  clear hB1 hK1 HC4
  go_wp2_with fail
  refine (HR.out w1 H1.out.2).mono ?_
  rintro e w2 ⟨rfl, hK2⟩
  have H2 : Hid (Blk w2 B (fW (n + 70) (spareW ks)) 26 ∧ Keeps (fun _ => False) w w2) := ⟨H1.out.1.kept hK2 fun h => h, H1.out.2.trans hK2 fun _ _ h => h⟩
  clear hK2 H1
  go_wp2_with fail
  refine (HP.out _ _ w2 H2.out.2 (seg_spare H2.out.1 (by have := HL.out; omega))).mono ?_
  rintro e w3 ⟨rfl, hK3⟩
  have H3 : Hid (Blk w3 B (fW (n + 70) (spareW ks)) 26 ∧ Keeps (fun _ => False) w w3) := ⟨H2.out.1.kept hK3 fun h => h, H2.out.2.trans hK3 fun _ _ h => h⟩
  clear hK3 H2
  go_wp2_with fail
  refine (keptWBig B a n c ks w3 H3.out.1 (HS.out.1.kept H3.out.2 fun _ _ h => h) HL.out.1 HL.out.2.2.1).mono ?_
  rintro e w4 ⟨rfl, h4⟩
  obtain rfl := h4.symm
  clear h4
  go_wp2_with fail
  refine (HP.out _ _ w3 H3.out.2 (seg_spare H3.out.1 (by have := HL.out; omega))).mono ?_
  rintro e w5 ⟨rfl, hK5⟩
  have H5 : Hid (Blk w5 B (fW (n + 70) (spareW ks)) 26 ∧ Keeps (fun _ => False) w w5) := ⟨H3.out.1.kept hK5 fun h => h, H3.out.2.trans hK5 fun _ _ h => h⟩
  clear hK5 H3 HR HP
  have HCC : Hid (Calls Tryd.prog 8 #[.slice a n c] w5 fun e w' => e = .returned (.slice (some ⟨w5.heap.size, 0, none⟩) n n) ∧ Blk w' w5.heap.size (wvs ks) 26 ∧ Keeps (fun _ => False) w5 w') := by
    have hq := HL.out.1
    subst hq
    exact copyLong_any a c ks w5 (HS.out.1.kept H5.out.2 fun _ _ h => h) HL.out.2.2.1
  obtain ⟨G, hG⟩ : ∃ G, G = w5.heap.size := ⟨_, rfl⟩
  rw [← hG] at HCC
  have HG := Hid.mkq hG
  clear hG
  go_wp2_with fail
  refine HCC.out.mono ?_
  rintro e w6 ⟨rfl, hB6, hK6⟩
  have H6 : Hid (LwI w B G ks ms 0 w6) := by
    have hb := H5.out.1.lt
    refine ⟨Nat.zero_le _, ?_, by rw [mixW_zero]; exact hB6, by have := HG.out; omega, ⟨by have := HB.out; omega, by have := HG.out; have := H5.out.2.size; omega⟩, H5.out.2.trans hK6 fun _ _ h => h⟩
    rw [mixW_zero, ← HL.out.1]
    exact H5.out.1.kept hK6 fun h => h
  clear hB6 hK6 HCC H5
  go_wp2
  go_loopw [8] (fun i wr => ∃ j : Nat, i = .int .i64 j ∧ LwI w B G ks ms j wr) (fun i _ => n - (intOf i).toNat)
  case atStart => exact ⟨0, rfl, H6.out⟩
  case round =>
    obtain ⟨j, rfl, hI⟩ := hrel
    have hjn := hI.le
    rw [← HL.out.1] at hjn
    by_cases hlt : j < n
    · have hlt' : (j : Int) < n := by omega
      have hlt7 : (j : Int) < (n : Int) + 70 := by omega
      by_cases hjm : j < m
      · have hjm' : (j : Int) < m := by omega
        have hjx : j < ms.length := by have := HL.out; omega
        have hjk : j < ks.length := by have := HL.out; omega
        rcases HS.out.2.kept hI.keeps (fun _ _ e => e) with h0 | ⟨g1, o1, rfl, hc1⟩
        · rw [h0] at hjx; simp at hjx
        have d1 := hc1 j hjx
        have HE := Hid.mkq (hI.step hjk hjx)
        obtain ⟨x, hxx⟩ : ∃ x, x = ((ms[j]'hjx).toNat : Int) := ⟨_, rfl⟩
        rw [← hxx] at d1 HE
        have hg1 : g1 ≠ G := by
          intro e
          rcases HS.out.2 with h0 | ⟨g2, o2, e2, hc2⟩
          · rw [h0] at hjx; simp at hjx
          · cases e2
            have := World.block_lt_of_cell? w _ (hc2 j hjx)
            have := hI.lo
            simp at *
            omega
        have cg := hI.g.cell (wvs_get _ j (by rw [mixW_length ks ms j hI.le]; exact hjk))
        have fg := hI.g.frozen j
        have hBG := hI.ne
        have d2 : (wr.setCell ⟨G, j, none⟩ (.int .u32 x)).cell? ⟨g1, o1 + j, none⟩ = some (.int .u32 x) := cell_kept d1 ((Keeps.refl (fun k => k = G) wr).setCell _ _ fun _ => rfl) hg1
        have hb2 := hI.b.kept ((Keeps.refl (fun k => k = G) wr).setCell ⟨G, j, none⟩ (.int .u32 x) fun _ => rfl) hBG
        have cb := hb2.cell (fW_get _ (show j < ks.length + 70 by omega))
        have fb := hb2.frozen j
        obtain ⟨y, hy⟩ : ∃ y : Int, y = (((mixW ks ms j)[j]'(by rw [mixW_length ks ms j hI.le]; exact hjk)).toNat : Int) := ⟨_, rfl⟩
        rw [← hy] at cg
        obtain ⟨z, hz⟩ : ∃ y : Int, y = ((spareW (mixW ks ms j) j).toNat : Int) := ⟨_, rfl⟩
        rw [← hz] at cb
        clear hI hc1 hjx hjk hxx hjm hlt hy hz hb2 hg1 hjn
        go_wp2
        go_roundw
        case rel => exact ⟨j + 1, by go_num, HE.out⟩
        case measure => simp [intOf]; omega
      · have hjm' : ¬ (j : Int) < m := by omega
        have HE := Hid.mkq (hI.stay (by have := HL.out; omega) (by have := HL.out; omega))
        clear hI hjm hlt hjn
        go_wp2
        go_roundw
        case rel => exact ⟨j + 1, by go_num, HE.out⟩
        case measure => simp [intOf]; omega
    · obtain rfl : j = n := by omega
      have HI := Hid.mkq hI
      have hlen : j = (mixW ks ms j).length := by rw [mixW_length ks ms j hI.le]; exact HL.out.1
      obtain ⟨S2, hS2⟩ : ∃ S, S = bst (if j ≤ 1024 then textW (mixW ks ms j) else []) := ⟨_, rfl⟩
      have HP : Hid (Calls Tryd.prog 6 #[.slice (some ⟨B, 0, none⟩) j (j + 70)] wr fun e w'' => e = .returned (.string S2) ∧ Keeps (fun _ => False) wr w'') := by
        rw [hS2]
        exact list_any _ _ (mixW ks ms j) j hlen wr (HT.out.keep hI.keeps) (seg_spare hI.b (by have := HL.out; omega)) (by have := HL.out; omega)
      have HR : Hid (∀ w', Keeps (fun _ => False) wr w' → Calls Tryd.prog 5 #[.slice (some ⟨G, 0, none⟩) j j] w' fun e w'' => e = .returned (.string S2) ∧ Keeps (fun _ => False) w' w'') := by
        intro w' hk
        rw [hS2]
        exact rlist_any _ _ (mixW ks ms j) j hlen w' (HT.out.keep (hI.keeps.trans hk fun _ _ h => h)) (seg_own (hI.g.kept hk fun h => h)) (by have := HL.out; omega)
      clear hI hS2 hlen hlt hjn
      go_wp2_with fail
      refine HP.out.mono ?_
      rintro e w7 ⟨rfl, hK7⟩
      have H7 := Hid.mkq hK7
      clear hK7 HP
      go_wp2_with fail
      refine (HR.out w7 H7.out).mono ?_
      rintro e w8 ⟨rfl, hK8⟩
      have H8 : Hid (Keeps (fun _ => False) w w8) := (HI.out.keeps.trans H7.out fun _ _ h => h).trans hK8 fun _ _ h => h
      clear hK8 HR
      go_wp2
      go_ret
      exact ⟨rfl, H8.out⟩
end Go.Proofs.YtohojpacijnnaaaDoor
