import Derived.Test.YtbddahdbadkobaaDoorRj
import Derived.Test.YtbddahdbadkobaaDoorIn
import Derived.Test.YtbddahdbadkobaaDoorJI
namespace Go.Proofs.YtbddahdbadkobaaDoor
open Go.RowKit Go.Shelf
set_option linter.unusedVariables false
set_option linter.unusedSimpArgs false
set_option maxRecDepth 6000

theorem plays_long (room : Int) (a : Option Addr) (L cp : Nat) (w : World) (hL : 2147483647 < (L : Int)) :
    Calls Tryd.prog 3 #[.int .i64 room, .slice a L cp] w fun r w' => r = .returned (.bool true) ∧ Keeps (fun _ => False) w w' := by
  have HK : Hid (Keeps (fun _ => False) w w) := Keeps.refl _ _
  go_enter Tryd.func3, Tryd.ntmps3
  go_wp2
  go_ret
  exact ⟨rfl, HK.out⟩

theorem plays_none (room : Int) (a : Option Addr) (L cp : Nat) (w : World) (hL : ¬ 2147483647 < (L : Int)) (hr : room < 1 ∨ 4096 < room) :
    Calls Tryd.prog 3 #[.int .i64 room, .slice a L cp] w fun r w' => r = .returned (.bool true) ∧ Keeps (fun _ => False) w w' := by
  have H1 : Hid (Calls _ _ _ _ _) := new_no room w hr
  have H2 : Hid (Calls _ _ _ _ _) := rnew_no room w hr
  have H3 : Hid (Calls _ _ _ _ _) := I.awake_any w
  clear hr
  go_enter Tryd.func3, Tryd.ntmps3
  go_wp2_with fail
  refine H1.out.mono ?_
  rintro e w1 ⟨rfl, hw⟩
  obtain rfl := hw.symm
  clear hw
  go_wp2_with fail
  refine H2.out.mono ?_
  rintro e w1 ⟨rfl, hw⟩
  obtain rfl := hw.symm
  clear hw
  go_wp2_with fail
  refine H3.out.mono ?_
  rintro e w1 ⟨rfl, hK⟩
  have HK : Hid (Keeps (fun _ => False) w w1) := hK
  clear hK H1 H2 H3
  go_wp2
  go_ret
  exact ⟨rfl, HK.out⟩

set_option maxHeartbeats 4000000 in
theorem plays_go (room : Nat) (a : Option Addr) (os : List Opr) (cp : Nat) (w : World) (lo : 1 ≤ room) (hi : room ≤ 4096) (hL : ¬ 2147483647 < (os.length : Int)) (hs : SegO w a os) (hk : ∀ l ∈ os, I64 l.key) (hT : Tb w) :
    Calls Tryd.prog 3 #[.int .i64 room, .slice a os.length cp] w fun r w' => r = .returned (.bool true) ∧ Keeps (fun _ => False) w w' := by
  have H1 : Hid (Calls _ _ _ _ _) := new_any room w lo hi
  have HO : Hid (SegO w a os ∧ (∀ l ∈ os, I64 l.key) ∧ Tb w ∧ 1 ≤ room ∧ room ≤ 4096) := ⟨hs, hk, hT, lo, hi⟩
  obtain ⟨L, eL⟩ : ∃ L, L = os.length := ⟨_, rfl⟩
  rw [← eL] at hL ⊢
  have HL : Hid (L = os.length) := eL
  obtain ⟨Z, eZ⟩ : ∃ Z, Z = w.heap.size := ⟨_, rfl⟩
  rw [← eZ] at H1
  have HZ : Hid (Z = w.heap.size) := eZ
  have hrm : (room : Int) ≤ 4096 := by omega
  clear lo hi hs hk hT eL eZ
  go_enter Tryd.func3, Tryd.ntmps3
  go_wp2_with fail
  refine H1.out.mono ?_
  rintro e w1 ⟨rfl, ⟨F, hS, hF⟩, hK1⟩
  have H2 : Hid (Calls _ _ _ _ _) := rnew_yes room w1 HO.out.2.2.2.1 HO.out.2.2.2.2
  obtain ⟨s, es⟩ : ∃ s, s = Z + 1 := ⟨_, rfl⟩
  rw [← es] at hS ⊢
  have HS : Hid (Sf w1 s room [] F ∧ (∀ k, F k → Z ≤ k) ∧ Keeps (fun _ => False) w w1) := ⟨hS, hF, hK1⟩
  clear hS hF hK1 es H1
  obtain ⟨b, eb⟩ : ∃ b, b = w1.heap.size := ⟨_, rfl⟩
  rw [← eb] at H2
  have Heb : Hid (b = w1.heap.size) := eb
  clear eb
  go_wp2_with fail
  refine H2.out.mono ?_
  rintro e w2 ⟨rfl, hR, hK2⟩
  have HE2 : Hid (Es Z (fun _ => False) w2 s b room [] ∧ Keeps (fun _ => False) w w2) := by
    have hz := HZ.out
    have hsz := HS.out.2.2.size
    have hp := HO.out.2.2.1.pos
    have hk2 := HS.out.2.2.trans hK2 fun _ _ h => h
    refine ⟨⟨F, fun k => k = b, ⟨HS.out.1.kept hK2 fun _ _ h => h, ⟨_, _, hR⟩, fun k hf e => ?_, HO.out.2.2.1.kept hk2 fun h => h, fun k e => ?_, ⟨by omega, by have := hk2.size; omega⟩, fun k e => e.elim⟩⟩, hk2⟩
    · have h1 := HS.out.1.lt k hf
      have h2 := Heb.out
      omega
    · rcases e with e | e
      · exact HS.out.2.1 k e
      · have h2 := Heb.out
        omega
  clear hR hK2 H2 HS Heb
  go_upto_region 10 with fail
  obtain ⟨W, hW⟩ : ∃ W, W = w2.alloc (.cells #[ptr s, ptr b] 32) := ⟨_, rfl⟩
  have hKW : Keeps (fun _ => False) w2 W := by rw [hW]; exact (Keeps.refl _ w2).alloc _
  have hBX : Blk W w2.heap.size [ptr s, ptr b] 32 := by rw [hW]; exact Blk.new w2 _ 32
  rw [← hW]
  obtain ⟨X, eX⟩ : ∃ X, X = w2.heap.size := ⟨_, rfl⟩
  rw [← eX] at hBX ⊢
  have HI : Hid ((∃ P, Es Z (· = X) W s b room P) ∧ Blk W X [ptr s, ptr b] 32 ∧ Keeps (fun _ => False) w W) :=
    ⟨⟨[], (HE2.out.1.two hKW X X ⟨by omega, hBX.lt⟩ ⟨by omega, hBX.lt⟩).less fun k e => .inr (.inl e)⟩, hBX, HE2.out.2.trans hKW fun _ _ h => h⟩
  clear hW hKW hBX eX HE2
  go_wp2
  go_loopw [10] (fun i wr => ∃ j : Nat, j ≤ L ∧ i = .int .i64 j ∧ (∃ P, Es Z (· = X) wr s b room P) ∧ Blk wr X [ptr s, ptr b] 32 ∧ Keeps (fun _ => False) w wr) (fun i _ => L - (intOf i).toNat)
  case atStart => exact ⟨0, by omega, rfl, HI.out⟩
  case round =>
    obtain ⟨j, hj, rfl, ⟨P, hE⟩, hB, hK⟩ := hrel
    by_cases hlt : j < L
    · obtain ⟨l, hl⟩ : ∃ l, os[j]? = some l := ⟨_, List.getElem?_eq_getElem (by have := HL.out; omega)⟩
      have hlm := HO.out.2.1 l (List.mem_of_getElem? hl)
      rcases HO.out.1 with h0 | ⟨g, o, rfl, hc⟩
      · rw [h0] at hl; simp at hl
      have hd : Keeps (fun _ => False) wr wr.drew := (Keeps.refl _ wr).drew
      have hA := (hc j l hl).kept (hK.trans hd fun _ _ h => h) fun h => h
      obtain ⟨kd, ky, tt⟩ := l
      dsimp only at hlm hA
      have HOn : Hid (Calls _ _ _ _ _) := one_any Z s b room (· = X) P kd ky tt wr.drew (hE.kept hd) hlm
      have hBd := hB.kept hd fun h => h
      have HP : Hid (Blk wr X [ptr s, ptr b] 32 ∧ Keeps (fun _ => False) w wr ∧ OpAt wr.drew g (o + j * 3) ⟨kd, ky, tt⟩ ∧ g < Z) := ⟨hB, hK, hA, by
        have h1 := World.block_lt_of_cell? w ⟨g, _, none⟩ (hc j _ hl).1
        have := HZ.out
        exact Nat.lt_of_lt_of_le h1 (by omega)⟩
      have hS : (fun w' : World => (w'.cell? ⟨X, 0, none⟩ = some (ptr s) ∧ w'.cell? ⟨X, 1, none⟩ = some (ptr b)) ∧ w'.cell? ⟨g, o + j * 3, none⟩ = some (.int .i64 kd) ∧ w'.cell? ⟨g, o + j * 3 + 1, none⟩ = some (.int .i64 ky) ∧ w'.cell? ⟨g, o + j * 3 + 2, none⟩ = some (.string tt)) wr.drew := ⟨⟨hBd.cell rfl, hBd.cell rfl⟩, hA.1, hA.2.1, hA.2.2⟩
      have hji : (j : Int) < L := by omega
      have hjb : (j : Int) ≤ 2147483647 := by omega
      clear hE hB hK hl hlm hc hd hA hBd
      go_wp2_with fail
      refine wp_region_held_drew (S := (fun w' => (w'.cell? ⟨X, 0, none⟩ = some (ptr s) ∧ w'.cell? ⟨X, 1, none⟩ = some (ptr b)) ∧ w'.cell? ⟨g, o + j * 3, none⟩ = some (.int .i64 kd) ∧ w'.cell? ⟨g, o + j * 3 + 1, none⟩ = some (.int .i64 ky) ∧ w'.cell? ⟨g, o + j * 3 + 2, none⟩ = some (.string tt))) (by kernel_rfl) hS (fun hHeld => ?_)
      simp only [List.size_toArray, List.length_cons, List.length_nil, Nat.reduceAdd, Array.replicate_succ, Array.replicate_zero, List.push_toArray, List.append_toArray, List.nil_append, List.cons_append]
      refine tk 0 (.agg #[ptr s, ptr b]) hHeld ?_
      simp only [Act.put, List.setIfInBounds_toArray, List.set_cons_zero, List.set_cons_succ]
      refine tk 1 (.slice (some ⟨g, o, none⟩) L cp) hHeld ?_
      simp only [Act.put, List.setIfInBounds_toArray, List.set_cons_zero, List.set_cons_succ]
      refine tk 2 (.int .i64 (j : Nat)) hHeld ?_
      simp only [Act.put, List.setIfInBounds_toArray, List.set_cons_zero, List.set_cons_succ]
      refine tk 3 (.pointer (some ⟨g, o + j * 3, none⟩)) hHeld ?_
      simp only [Act.put, List.setIfInBounds_toArray, List.set_cons_zero, List.set_cons_succ]
      refine tk 4 (.agg #[.int .i64 kd, .int .i64 ky, .string tt]) hHeld ?_
      simp only [Act.put, List.setIfInBounds_toArray, List.set_cons_zero, List.set_cons_succ]
      refine wpAnyH_ready (rs := [5]) (by kernel_rfl) (by simp) ?_
      refine AllReadyH.cons rfl (fun Kq hK => ?_) AllReadyH.nil
      go_simp
      refine HOn.out.mono ?_
      rintro e wn ⟨rfl, hP, hKn⟩
      have hBn : Blk wn X [ptr s, ptr b] 32 := (HP.out.1.kept ((Keeps.refl (fun _ => False) wr).drew) fun h => h).kept hKn fun e => e.2 rfl
      have hkn : Keeps (fun _ => False) w wn := (HP.out.2.1.trans ((Keeps.refl (fun _ => False) wr).drew) fun _ _ h => h).trans hKn fun k hk e => by have := HZ.out; have := e.1; omega
      have hAn := HP.out.2.2.1.kept hKn fun e => by have := HP.out.2.2.2; have := e.1; omega
      have hSn : (fun w' : World => (w'.cell? ⟨X, 0, none⟩ = some (ptr s) ∧ w'.cell? ⟨X, 1, none⟩ = some (ptr b)) ∧ w'.cell? ⟨g, o + j * 3, none⟩ = some (.int .i64 kd) ∧ w'.cell? ⟨g, o + j * 3 + 1, none⟩ = some (.int .i64 ky) ∧ w'.cell? ⟨g, o + j * 3 + 2, none⟩ = some (.string tt)) wn := ⟨⟨hBn.cell rfl, hBn.cell rfl⟩, hAn.1, hAn.2.1, hAn.2.2⟩
      have HN : Hid ((∃ P, Es Z (· = X) wn s b room P) ∧ Blk wn X [ptr s, ptr b] 32 ∧ Keeps (fun _ => False) w wn) := ⟨hP, hBn, hkn⟩
      clear hP hKn hBn hkn hAn HOn HP
      refine hK.out _ _ hSn (fun hHeld => ?_)
      simp only [Act.put, List.setIfInBounds_toArray, List.set_cons_zero, List.set_cons_succ]
      refine tk 6 (.bool false) hHeld ?_
      simp only [Act.put, List.setIfInBounds_toArray, List.set_cons_zero, List.set_cons_succ]
      refine wpAnyH_done (by kernel_rfl) ?_ _
      clear hHeld hS hSn
      go_wp2
      go_roundw
      case rel => exact ⟨j + 1, by omega, by go_num, HN.out⟩
      case measure => simp [intOf]; omega
    · obtain rfl : j = L := by omega
      have x0 := hB.cell (i := 0) rfl
      have x1 := hB.cell (i := 1) rfl
      have H8 : Hid (Calls _ _ _ _ _) := all8_any Z s b room P wr (hE.less fun _ h => h.elim)
      have HE : Hid (Es Z (· = X) wr s b room P ∧ Keeps (fun _ => False) w wr) := ⟨hE, hK⟩
      have hjj : ¬ ((j : Nat) : Int) < (j : Nat) := by omega
      clear hE hB hK hlt hj
      go_wp2_with fail
      refine H8.out.mono ?_
      rintro e w5 ⟨rfl, hK5⟩
      have HF : Hid (Keeps (fun _ => False) w w5) := HE.out.2.trans hK5 fun _ _ h => h
      obtain ⟨F, G, hB5⟩ := HE.out.1.kept hK5
      obtain ⟨u, v, hr⟩ := hB5.rf
      have h1 := len_any s room (kvP P) F w5 hB5.sf
      have h2 := rlen_any b room _ _ u v G w5 hr
      have e1 : (kvP P).length = P.length ∧ (ksP P).length = P.length := by simp [kvP, ksP]
      obtain ⟨M, eM⟩ : ∃ M, M = P.length := ⟨_, rfl⟩
      rw [e1.1, ← eM] at h1
      rw [e1.2, ← eM] at h2
      have G1 : Hid (Calls _ _ _ _ _) := h1
      have G2 : Hid (Calls _ _ _ _ _) := h2
      have G3 : Hid (Calls _ _ _ _ _) := room_any s room (kvP P) F w5 hB5.sf
      have G4 : Hid (Calls _ _ _ _ _) := rroom_any b room _ _ u v G w5 hr
      clear hK5 hB5 hr h1 h2 e1 eM H8 HE x0 x1
      go_wp2_with fail
      refine G1.out.mono ?_
      rintro e w' ⟨rfl, hw⟩
      obtain rfl := hw.symm
      clear hw
      go_wp2_with fail
      refine G2.out.mono ?_
      rintro e w' ⟨rfl, hw⟩
      obtain rfl := hw.symm
      clear hw
      go_wp2_with fail
      refine G3.out.mono ?_
      rintro e w' ⟨rfl, hw⟩
      obtain rfl := hw.symm
      clear hw
      go_wp2_with fail
      refine G4.out.mono ?_
      rintro e w' ⟨rfl, hw⟩
      obtain rfl := hw.symm
      clear hw G1 G2 G3 G4
      go_wp2
      go_ret
      exact ⟨rfl, HF.out⟩

theorem plays_any (room : Int) (a : Option Addr) (os : List Opr) (cp : Nat) (w : World) (hs : SegO w a os) (hk : ∀ l ∈ os, I64 l.key) (hT : Tb w) :
    Calls Tryd.prog 3 #[.int .i64 room, .slice a os.length cp] w fun r w' => r = .returned (.bool true) ∧ Keeps (fun _ => False) w w' := by
  by_cases hL : 2147483647 < (os.length : Int)
  · exact plays_long room a os.length cp w hL
  by_cases hr : room < 1 ∨ 4096 < room
  · exact plays_none room a os.length cp w hL hr
  obtain ⟨n, rfl⟩ := Int.eq_ofNat_of_zero_le (show 0 ≤ room by omega)
  exact plays_go n a os cp w (by omega) (by omega) hL hs hk hT

end Go.Proofs.YtbddahdbadkobaaDoor
