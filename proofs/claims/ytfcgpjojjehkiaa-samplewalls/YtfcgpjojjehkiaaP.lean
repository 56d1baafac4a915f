import Derived.Test.YtfcgpjojjehkiaaO
namespace Go.Proofs.Ytfcgpjojjehkiaa
open Go.RowKit
set_option linter.unusedVariables false
set_option linter.unusedSimpArgs false

def LaP (w : World) (xs : List UInt32) (bs : List Bx) (e : Ending) (w' : World) : Prop :=
  (laE xs bs ≠ 0 ∧ e = .returned (.tuple #[.slice none 0 0, .int .i64 (laE xs bs)]) ∧ Keeps (fun _ => False) w w') ∨ (laE xs bs = 0 ∧ ∃ b, bs[0]? = some b ∧ TkP w (wn xs b) e w')

theorem SegB.take {w : World} {a : Option Addr} {bs : List Bx} (h : SegB w a bs) (j : Nat) : SegB w a (bs.take j) := by
  rcases h with h | ⟨g, o, ha, hc⟩
  · exact .inl (by rw [h]; simp)
  · refine .inr ⟨g, o, ha, fun i b hb => hc i b ?_⟩
    rw [List.getElem?_take] at hb
    split at hb
    · exact hb
    · cases hb

/-- Where lookAll stands. -/
structure Lk (w wr : World) (H : Nat) (xs : List UInt32) (bs : List Bx) (b g gb j : Nat) : Prop where
  mm : Mm wr b g xs
  sg : SegB wr (some ⟨gb, 0, none⟩) bs
  tk : Taken wr H xs bs j
  k : Keeps (fun _ => False) w wr
  lo : w.heap.size ≤ H
  hi : H < wr.heap.size

theorem Lk.kept {w wr w' : World} {H : Nat} {xs : List UInt32} {bs : List Bx} {b g gb j : Nat} (h : Lk w wr H xs bs b g gb j) (k : Keeps (fun _ => False) wr w') : Lk w w' H xs bs b g gb j :=
  ⟨h.mm.kept k (fun e => e) (fun e => e), h.sg.grown k, h.tk.kept k, h.k.trans k fun _ _ e => e, h.lo, Nat.lt_of_lt_of_le h.hi k.size⟩

theorem Lk.put {w wr : World} {H : Nat} {xs : List UInt32} {bs : List Bx} {b g gb j B : Nat} {y : Bx} (h : Lk w wr H xs bs b g gb j) (hb : bs[j]? = some y) (ht : y.tk xs.length = 0) (hB : Blk wr B (wvs (wn xs y)) 34) (hne : H < B) (hg : gb < w.heap.size) (hg2 : g < w.heap.size) (hb2 : b < w.heap.size) :
    Lk w (wr.setCell ⟨H, j, none⟩ (.slice (some ⟨B, 0, none⟩) (wn xs y).length (wn xs y).length)) H xs bs b g gb (j + 1) := by
  have hlo := h.lo
  have hk : Keeps (· = H) wr (wr.setCell ⟨H, j, none⟩ (.slice (some ⟨B, 0, none⟩) (wn xs y).length (wn xs y).length)) := (Keeps.refl _ wr).setCell _ _ fun _ => rfl
  exact ⟨h.mm.kept hk (fun e => by omega) (fun e => by omega), h.sg.kept hk (fun x e => by cases e; show ¬ gb = H; omega), h.tk.put hb ht hB hne, h.k.setCell _ _ (fun e => by have : H < w.heap.size := e; omega), hlo, Nat.lt_of_lt_of_le h.hi hk.size⟩

set_option maxRecDepth 20000 in
set_option maxHeartbeats 4000000 in
theorem lookAll_any (b g : Nat) (xs : List UInt32) (gb c : Nat) (bs : List Bx) (w : World) (hm : Mm w b g xs) (hs : SegB w (some ⟨gb, 0, none⟩) bs) (hgb : gb < w.heap.size) (hN1 : 1 ≤ bs.length) (hN2 : bs.length ≤ 5) (hc : bs.length ≤ c ∧ c ≤ maxLen) (hh : ∀ y ∈ bs, (y.h = 2 ∨ y.h = 3) ∧ y.p ≤ 9223372036854775807) :
    Calls Try.prog 36 #[.pointer (some ⟨b, 0, none⟩), .slice (some ⟨gb, 0, none⟩) bs.length c] w (LaP w xs bs) := by
  have hmk := run_make_rows (w := w) bs.length (by omega)
  obtain ⟨W1, hW1⟩ : ∃ W1, W1 = w.alloc (.cells (List.replicate bs.length (Value.slice none 0 0)).toArray 22) := ⟨_, rfl⟩
  rw [← hW1] at hmk
  obtain ⟨H, hH⟩ : ∃ H, H = w.heap.size := ⟨_, rfl⟩
  have hK1 : Keeps (fun _ => False) w W1 := by rw [hW1]; exact (Keeps.refl _ w).alloc _
  have hB1 : Blk W1 H (List.replicate bs.length (Value.slice none 0 0)) 22 := by rw [hW1, hH]; exact Blk.new w _ 22
  have HL : Hid (Lk w W1 H xs bs b g gb 0) := ⟨hm.kept hK1 (fun e => e) (fun e => e), hs.grown hK1, ⟨⟨_, hB1, by simp, fun i b hi => by omega⟩⟩, hK1, by omega, hB1.lt⟩
  have hlb := hm.blk.lt
  have hlg := hm.row.lt
  have hsm := hm.small
  have HP : Hid (gb < w.heap.size ∧ g < w.heap.size ∧ b < w.heap.size ∧ xs.length ≤ 16384 ∧ c ≤ maxLen ∧ ∀ y ∈ bs, (y.h = 2 ∨ y.h = 3) ∧ y.p ≤ 9223372036854775807) := ⟨hgb, hlg, hlb, hsm, hc.2, hh⟩
  obtain ⟨N, hN⟩ : ∃ N, N = bs.length := ⟨_, rfl⟩
  rw [← hN, ← hH] at hmk
  have HM : Hid (_ = _) := hmk
  have HN : Hid (N = bs.length ∧ 1 ≤ N) := ⟨hN, by omega⟩
  have n1 : (N : Int) ≤ 5 := by omega
  have n2 : 0 < (N : Int) := by omega
  have n3 : (N : Int) ≤ c := by omega
  have n4 : (c : Int) ≤ 9223372036854775807 := by have := hc.2; unfold maxLen at this; omega
  rw [← hN]
  clear hm hs hgb hN1 hN2 hc hh hmk hW1 hH hK1 hB1 hlb hlg hsm hN
  go_enter Try.func36, Try.ntmps36
  go_wp2_with (at_make; refine wpList_make_run rfl _ _ 90 rfl (.int .i64 N) (.int .i64 N) (.slice (some ⟨H, 0, none⟩) N N) W1 rfl rfl HM.out ?_; refine Hid.out ?_)
  unfold Hid
  clear HM
  go_wp2
  go_loopw [18] (fun i wr => ∃ j : Nat, j ≤ N ∧ i = .int .i64 j ∧ Lk w wr H xs bs b g gb j) (fun i _ => N - (intOf i).toNat)
  case atStart => exact ⟨0, by omega, rfl, HL.out⟩
  case round =>
    clear HL
    obtain ⟨j, hj, rfl, hL⟩ := hrel
    have HL : Hid (Lk w wr H xs bs b g gb j) := hL
    by_cases hlt : j < N
    · have hlt' : (j : Int) < N := by omega
      obtain ⟨y, hy⟩ : ∃ y, bs[j]? = some y := ⟨_, List.getElem?_eq_getElem (by have := HN.out.1; omega)⟩
      obtain ⟨g', o', ha, hg⟩ := hL.sg.at hy
      simp at ha
      obtain ⟨rfl, rfl⟩ := ha
      rw [Nat.zero_add] at hg
      obtain ⟨y0, y1, y2⟩ := hg
      have hyf := HP.out.2.2.2.2.2 y (List.mem_of_getElem? hy)
      have HY : Hid (bs[j]? = some y ∧ (y.h = 2 ∨ y.h = 3)) := ⟨hy, hyf.1⟩
      obtain ⟨W2, hW2, hK2, hB2⟩ := box_new wr y.p y.h y.n
      have hL2 := hL.kept hK2
      by_cases ht : y.tk xs.length = 0
      · have HT := btake_ok false b g xs y.p y.h y.n W2 hL2.mm (by omega) ht
        unfold TkP at HT
        have e1 : win xs y.p.toNat (y.h + y.n.toNat) = wn xs y := rfl
        rw [e1] at HT
        have HZ : Hid (y.tk xs.length = 0 ∧ Lk w W2 H xs bs b g gb j) := ⟨ht, hL2⟩
        have hpt := fun W' B (hL' : Lk w W' H xs bs b g gb j) hB (hne : H < B) => Lk.put hL' hy ht hB hne HP.out.1 HP.out.2.1 HP.out.2.2.1
        obtain ⟨l, hl⟩ : ∃ l, l = wn xs y := ⟨_, rfl⟩
        rw [← hl] at HT hpt
        obtain ⟨M, hM⟩ : ∃ M, M = l.length := ⟨_, rfl⟩
        rw [← hM] at HT hpt
        have HT : Hid (Calls _ _ _ _ _) := HT
        have HPt : Hid (∀ W' B, Lk w W' H xs bs b g gb j → Blk W' B (wvs l) 34 → H < B → Lk w (W'.setCell ⟨H, j, none⟩ (.slice (some ⟨B, 0, none⟩) M M)) H xs bs b g gb (j + 1)) := hpt
        have HW2 : Hid (W2 = _) := hW2
        obtain ⟨bp, bh, bn⟩ := y
        simp only at *
        clear hj hL hL2 hy ht hK2 hB2 hW2 hyf hpt hl hM e1
        go_wp2_with fail
        rw [← HW2.out]
        refine HT.out.mono ?_
        rintro e w1 ⟨B, hBs, rfl, hB, hk⟩
        have hL3 := HZ.out.2.kept hk
        have hne : H < B := by have := HZ.out.2.hi; omega
        obtain ⟨⟨v, cj⟩, fj⟩ := hL3.tk.cell (i := j) (by have := HN.out.1; omega)
        have HL4 : Hid (Lk w (w1.setCell ⟨H, j, none⟩ (.slice (some ⟨B, 0, none⟩) M M)) H xs bs b g gb (j + 1)) := HPt.out w1 B hL3 hB hne
        clear hBs hB hk HT hL3 hne y0 y1 y2
        go_wp2
        go_roundw
        case rel => exact ⟨j + 1, by omega, by go_num, HL4.out⟩
        case measure => simp [intOf]; omega
      · have HT := btake_no false b g xs y.p y.h y.n W2 hL2.mm (by omega) hyf.2 ht
        have HE : Hid (laE xs bs = y.tk xs.length ∧ y.tk xs.length ≠ 0 ∧ Keeps (fun _ => False) w W2) := by
          have : takesE xs.length bs = y.tk xs.length := takesE_at (j := j) (fun i c hi hc => by obtain ⟨hv, h1, h2, h3⟩ := hL.tk.row; exact (h3 i c hi hc).1) hy ht
          refine ⟨?_, ht, hL2.k⟩
          unfold laE
          rw [this, if_pos ht]
        have e1 : tkE false xs.length y.p y.h y.n = y.tk xs.length := rfl
        rw [e1] at HT
        obtain ⟨E, hE⟩ : ∃ E, E = y.tk xs.length := ⟨_, rfl⟩
        rw [← hE] at HT HE
        have HT : Hid (Calls _ _ _ _ _) := HT
        have hE2 : (E != 0) = true := bne_iff_ne.2 HE.out.2.1
        have HW2 : Hid (W2 = _) := hW2
        obtain ⟨bp, bh, bn⟩ := y
        simp only at *
        clear hj hL hL2 hy ht hK2 hB2 hW2 hyf hE e1
        go_wp2_with fail
        rw [← HW2.out]
        refine HT.out.mono ?_
        rintro e w1 ⟨rfl, hk⟩
        have HK1 : Hid (Keeps (fun _ => False) w w1) := HE.out.2.2.trans hk fun _ _ e => e
        clear hk HT y0 y1 y2
        go_wp2
        go_ret2
        exact .inl ⟨by rw [HE.out.1]; exact HE.out.2.1, by rw [HE.out.1]; rfl, HK1.out⟩
    · obtain rfl : j = N := by omega
      clear hlt hj hL
      have HT0 : Hid (takesE xs.length bs = 0 ∧ (∀ y ∈ bs, y.Fine) ∧ ∀ y ∈ bs, y.tk xs.length = 0) := by
        obtain ⟨hv, h1, h2, h3⟩ := HL.out.tk.row
        have h4 : ∀ y ∈ bs, y.tk xs.length = 0 := fun y hy => by
          obtain ⟨i, hi, e⟩ := List.getElem_of_mem hy
          exact (h3 i y (by have := HN.out.1; omega) (by rw [List.getElem?_eq_getElem hi, e])).1
        exact ⟨takesE_all h4, fun y hy => tk_fine (h4 y hy) HP.out.2.2.2.1 (HP.out.2.2.2.2.2 y hy).1, h4⟩
      go_wp2
      go_loopw [39] (fun i wr => ∃ k : Nat, k ≤ j ∧ i = .int .i64 k ∧ Lk w wr H xs bs b g gb j ∧ ∀ i, i < k → okAt xs bs i = true) (fun i _ => j - (intOf i).toNat)
      case atStart => exact ⟨0, by omega, rfl, HL.out, fun i hi => by omega⟩
      case round =>
        clear HL
        obtain ⟨k, hk, rfl, hL, hok⟩ := hrel
        by_cases hlt : k < j
        · have hlt' : (k : Int) < j := by omega
          obtain ⟨y, hy⟩ : ∃ y, bs[k]? = some y := ⟨_, List.getElem?_eq_getElem (by have := HN.out.1; omega)⟩
          obtain ⟨g', o', ha, hg⟩ := hL.sg.at hy
          simp at ha
          obtain ⟨rfl, rfl⟩ := ha
          rw [Nat.zero_add] at hg
          obtain ⟨y0, y1, y2⟩ := hg
          have hyb := List.mem_of_getElem? hy
          have hyf := HT0.out.2.1 y hyb
          have hyl := tk_len (HT0.out.2.2 y hyb)
          obtain ⟨W2, hW2, hK2, hB2⟩ := box_new wr y.p y.h y.n
          have hL2 := hL.kept hK2
          obtain ⟨hv, t1, t2, t3⟩ := hL2.tk.row
          obtain ⟨-, B, t4, t5, t6⟩ := t3 k y hlt hy
          have eok : okAt xs bs k = (rtB xs y && !((bs.take k).any y.meets)) := by unfold okAt; rw [List.getD_eq_getElem?_getD, hy]; rfl
          have hRr : ∀ W, Keeps (fun _ => False) W2 W → Calls Try.prog 41 #[bxv y.p y.h y.n, .slice (some ⟨B, 0, none⟩) (wn xs y).length (wn xs y).length] W fun e w' => e = .returned (.bool (rtB xs y)) ∧ Keeps (fun _ => False) W2 w' := by
            intro W kk
            obtain ⟨f1, f2, f3, f4, f5⟩ := hyf
            have := right_any y.p y.h y.n.toNat B (wn xs y) W (segW_of_blk (t6.kept kk fun e => e)) hyl f3 (by omega) (by omega)
            rw [show ((y.n.toNat : Nat) : Int) = y.n by omega] at this
            exact this.mono fun e w' ⟨q1, q2⟩ => ⟨q1, kk.trans q2 fun _ _ e => e⟩
          have hCn : ∀ W, Keeps (fun _ => False) W2 W → Calls Try.prog 54 #[.slice (some ⟨gb, 0, none⟩) k c, .func (.func 55) #[y.v] #[]] W fun e w' => e = .returned (.bool ((bs.take k).any y.meets)) ∧ Keeps (fun _ => False) W2 w' := by
            intro W kk
            have hlen : (bs.take k).length = k := by rw [List.length_take]; have := HN.out.1; omega
            have := contains_any y (some ⟨gb, 0, none⟩) (bs.take k) c W ⟨by rw [hlen]; omega, HP.out.2.2.2.2.1⟩ ((hL2.sg.grown kk).take k) hyf (fun r hr => HT0.out.2.1 r (List.mem_of_mem_take hr))
            rw [hlen] at this
            exact this.mono fun e w' ⟨q1, q2⟩ => ⟨q1, kk.trans q2 fun _ _ e => e⟩
          obtain ⟨M, hM⟩ : ∃ M, M = (wn xs y).length := ⟨_, rfl⟩
          rw [← hM] at hRr t5
          obtain ⟨O2, hO2⟩ : ∃ O2, O2 = wr.heap.size := ⟨_, rfl⟩
          rw [← hO2] at hB2
          have HFm : Hid (okAt xs bs k = false → laE xs bs = 191) := by
            intro hf
            have hfm : formB xs bs = false := by
              unfold formB
              rw [List.all_eq_false]
              exact ⟨k, by rw [List.mem_range]; have := HN.out.1; omega, by rw [hf]; simp⟩
            unfold laE
            rw [HT0.out.1, if_neg (by simp), hfm]; rfl
          have HW2 : Hid (W2 = _ ∧ O2 = wr.heap.size) := ⟨hW2, hO2⟩
          have HX : Hid (Lk w W2 H xs bs b g gb j ∧ ∀ i, i < k → okAt xs bs i = true) := ⟨hL2, hok⟩
          obtain ⟨bp, bh, bn⟩ := y
          simp only at *
          have HB0 : Hid (∀ W', Keeps (fun _ => False) W2 W' → W'.cell? ⟨O2, 0, none⟩ = some (.int .i64 bp) ∧ W'.cell? ⟨O2, 1, none⟩ = some (.int .i64 bh) ∧ W'.cell? ⟨O2, 2, none⟩ = some (.int .i64 bn) ∧ W'.cell? ⟨H, k, none⟩ = some (.slice (some ⟨B, 0, none⟩) M M)) := fun W' kk =>
            ⟨(hB2.kept kk fun e => e).cell rfl, (hB2.kept kk fun e => e).cell rfl, (hB2.kept kk fun e => e).cell rfl, (t1.kept kk fun e => e).cell t5⟩
          cases hr : rtB xs ⟨bp, bh, bn⟩
          · rw [hr] at hRr eok
            have HR : Hid (∀ W, Keeps (fun _ => False) W2 W → Calls Try.prog 41 #[bxv bp bh bn, .slice (some ⟨B, 0, none⟩) M M] W fun e w' => e = .returned (.bool false) ∧ Keeps (fun _ => False) W2 w') := hRr
            have HE : Hid (laE xs bs = 191) := HFm.out (by rw [eok]; rfl)
            clear hk hL hok hL2 hy hyb hyf hyl hW2 hK2 hB2 t1 t2 t3 t4 t5 t6 eok hRr hCn hM hO2 hr
            go_wp2
            rw [← HW2.out.1, ← HW2.out.2]
            refine wp_region_held_drew (S := (fun w' => w'.cell? ⟨O2, 0, none⟩ = some (.int .i64 bp) ∧ w'.cell? ⟨O2, 1, none⟩ = some (.int .i64 bh) ∧ w'.cell? ⟨O2, 2, none⟩ = some (.int .i64 bn) ∧ w'.cell? ⟨H, k, none⟩ = some (.slice (some ⟨B, 0, none⟩) M M))) Try.mixd (HB0.out _ ((Keeps.refl _ W2).drew)) (fun hHeld => ?_)
            simp only [List.size_toArray, List.length_cons, List.length_nil, Nat.reduceAdd, Array.replicate_succ, Array.replicate_zero, List.push_toArray, List.append_toArray, List.nil_append, List.cons_append]
            refine wpAnyH_take (i := 0) (oi := { dst := some 44, op := Op.load 69 (Operand.tmp 12), type := 69, pos := "sample.go:82", after := #[], guard := none }) (v := .agg #[.int .i64 bp, .int .i64 bh, .int .i64 bn]) rfl (by kernel_rfl) (by kernel_rfl) (by kernel_rfl) (fun _ _ _ h => h) (Or.inl ⟨by kernel_rfl, by (intro w hSw; (try dsimp only at hSw); go_simp)⟩) hHeld ?_
            simp only [Act.put, List.setIfInBounds_toArray, List.set_cons_zero, List.set_cons_succ]
            refine wpAnyH_take (i := 1) (oi := { dst := some 45, op := Op.move (Operand.tmp 6), type := 90, pos := "sample.go:82", after := #[], guard := none }) (v := .slice (some ⟨H, 0, none⟩) j j) rfl (by kernel_rfl) (by kernel_rfl) (by kernel_rfl) (fun _ _ _ h => h) (Or.inl ⟨by kernel_rfl, by (intro w hSw; (try dsimp only at hSw); go_simp)⟩) hHeld ?_
            simp only [Act.put, List.setIfInBounds_toArray, List.set_cons_zero, List.set_cons_succ]
            refine wpAnyH_take (i := 2) (oi := { dst := some 46, op := Op.move (Operand.tmp 11), type := 3, pos := "sample.go:82", after := #[], guard := none }) (v := .int .i64 (k : Int)) rfl (by kernel_rfl) (by kernel_rfl) (by kernel_rfl) (fun _ _ _ h => h) (Or.inl ⟨by kernel_rfl, by (intro w hSw; (try dsimp only at hSw); go_simp)⟩) hHeld ?_
            simp only [Act.put, List.setIfInBounds_toArray, List.set_cons_zero, List.set_cons_succ]
            refine wpAnyH_take (i := 3) (oi := { dst := some 47, op := Op.indexAddr 90 (Operand.tmp 45) (Operand.tmp 46), type := 0, pos := "sample.go:82", after := #[{ on := 1, ground := Ground.data }, { on := 2, ground := Ground.data }], guard := none }) (v := .pointer (some ⟨H, k, none⟩)) rfl (by kernel_rfl) (by kernel_rfl) (by kernel_rfl) (fun _ _ _ h => h) (Or.inl ⟨by kernel_rfl, by (intro w hSw; (try dsimp only at hSw); go_simp)⟩) hHeld ?_
            simp only [Act.put, List.setIfInBounds_toArray, List.set_cons_zero, List.set_cons_succ]
            refine wpAnyH_take (i := 4) (oi := { dst := some 48, op := Op.load 22 (Operand.tmp 47), type := 22, pos := "sample.go:82", after := #[{ on := 3, ground := Ground.data }], guard := none }) (v := .slice (some ⟨B, 0, none⟩) M M) rfl (by kernel_rfl) (by kernel_rfl) (by kernel_rfl) (fun _ _ _ h => h) (Or.inl ⟨by kernel_rfl, by (intro w hSw; (try dsimp only at hSw); go_simp)⟩) hHeld ?_
            simp only [Act.put, List.setIfInBounds_toArray, List.set_cons_zero, List.set_cons_succ]
            refine wpAnyH_ready (rs := [5]) (by kernel_rfl) (by simp) ?_
            refine AllReadyH.cons (o := { dst := some 49, op := Op.call { callee := Callee.value (Operand.func 41), args := #[Operand.tmp 44, Operand.tmp 48], argTypes := #[69, 22] }, type := 4, pos := "sample.go:82", after := #[{ on := 0, ground := Ground.data }, { on := 4, ground := Ground.data }], guard := none }) rfl (fun K hK => ?_) AllReadyH.nil
            go_simp
            refine (HR.out _ ((Keeps.refl _ W2).drew)).mono ?_
            rintro e w1 ⟨rfl, hk1⟩
            refine hK.out _ _ (HB0.out w1 hk1) (fun hHeld => ?_)
            simp only [Act.put, List.setIfInBounds_toArray, List.set_cons_zero, List.set_cons_succ]
            refine wpAnyH_take (i := 6) (oi := { dst := some 50, op := Op.unOp UnOp.not 4 (Operand.tmp 49), type := 4, pos := "sample.go:82", after := #[{ on := 5, ground := Ground.data }], guard := none }) (v := .bool true) rfl (by kernel_rfl) (by kernel_rfl) (by kernel_rfl) (fun _ _ _ h => h) (Or.inl ⟨by kernel_rfl, by (intro w hSw; (try dsimp only at hSw); go_simp)⟩) hHeld ?_
            simp only [Act.put, List.setIfInBounds_toArray, List.set_cons_zero, List.set_cons_succ]
            refine wpAnyH_take (i := 7) (oi := { dst := some 51, op := Op.move (Operand.tmp 50), type := 4, pos := "sample.go:82", after := #[{ on := 6, ground := Ground.data }, { on := 5, ground := Ground.chain }], guard := none }) (v := .bool true) rfl (by kernel_rfl) (by kernel_rfl) (by kernel_rfl) (fun _ _ _ h => h) (Or.inl ⟨by kernel_rfl, by (intro w hSw; (try dsimp only at hSw); go_simp)⟩) hHeld ?_
            simp only [Act.put, List.setIfInBounds_toArray, List.set_cons_zero, List.set_cons_succ]
            refine wpAnyH_take (i := 8) (oi := { dst := some 52, op := Op.move (Operand.tmp 1), type := 71, pos := "sample.go:82", after := #[{ on := 7, ground := Ground.guard }], guard := some (7, false) }) (v := undef) rfl (by kernel_rfl) (by kernel_rfl) (by kernel_rfl) (fun _ _ _ h => h) (Or.inr ⟨by kernel_rfl, rfl⟩) hHeld ?_
            simp only [Act.put, List.setIfInBounds_toArray, List.set_cons_zero, List.set_cons_succ]
            refine wpAnyH_take (i := 9) (oi := { dst := some 53, op := Op.move (Operand.tmp 11), type := 3, pos := "sample.go:82", after := #[{ on := 7, ground := Ground.guard }], guard := some (7, false) }) (v := undef) rfl (by kernel_rfl) (by kernel_rfl) (by kernel_rfl) (fun _ _ _ h => h) (Or.inr ⟨by kernel_rfl, rfl⟩) hHeld ?_
            simp only [Act.put, List.setIfInBounds_toArray, List.set_cons_zero, List.set_cons_succ]
            refine wpAnyH_take (i := 10) (oi := { dst := some 54, op := Op.slice 71 (Operand.tmp 52) none (some (Operand.tmp 53)) none, type := 71, pos := "sample.go:82", after := #[{ on := 8, ground := Ground.data }, { on := 9, ground := Ground.data }, { on := 7, ground := Ground.guard }], guard := some (7, false) }) (v := undef) rfl (by kernel_rfl) (by kernel_rfl) (by kernel_rfl) (fun _ _ _ h => h) (Or.inr ⟨by kernel_rfl, rfl⟩) hHeld ?_
            simp only [Act.put, List.setIfInBounds_toArray, List.set_cons_zero, List.set_cons_succ]
            refine wpAnyH_take (i := 11) (oi := { dst := some 55, op := Op.load 69 (Operand.tmp 12), type := 69, pos := "sample.go:82", after := #[{ on := 7, ground := Ground.guard }], guard := some (7, false) }) (v := undef) rfl (by kernel_rfl) (by kernel_rfl) (by kernel_rfl) (fun _ _ _ h => h) (Or.inr ⟨by kernel_rfl, rfl⟩) hHeld ?_
            simp only [Act.put, List.setIfInBounds_toArray, List.set_cons_zero, List.set_cons_succ]
            refine wpAnyH_take (i := 12) (oi := { dst := some 56, op := Op.makeFunc (Fn.func 55) #[Operand.tmp 55] #[], type := 92, pos := "sample.go:82", after := #[{ on := 11, ground := Ground.data }, { on := 7, ground := Ground.guard }], guard := some (7, false) }) (v := undef) rfl (by kernel_rfl) (by kernel_rfl) (by kernel_rfl) (fun _ _ _ h => h) (Or.inr ⟨by kernel_rfl, rfl⟩) hHeld ?_
            simp only [Act.put, List.setIfInBounds_toArray, List.set_cons_zero, List.set_cons_succ]
            refine wpAnyH_take (i := 13) (oi := { dst := some 57, op := Op.call { callee := Callee.value (Operand.func 54), args := #[Operand.tmp 54, Operand.tmp 56], argTypes := #[71, 92] }, type := 4, pos := "sample.go:82", after := #[{ on := 10, ground := Ground.data }, { on := 12, ground := Ground.data }, { on := 7, ground := Ground.chain }, { on := 7, ground := Ground.guard }], guard := some (7, false) }) (v := undef) rfl (by kernel_rfl) (by kernel_rfl) (by kernel_rfl) (fun _ _ _ h => h) (Or.inr ⟨by kernel_rfl, rfl⟩) hHeld ?_
            simp only [Act.put, List.setIfInBounds_toArray, List.set_cons_zero, List.set_cons_succ]
            refine wpAnyH_take (i := 14) (oi := { dst := some 58, op := Op.pick (Operand.tmp 51) (Operand.const (Value.bool true)) (Operand.tmp 57), type := 4, pos := "sample.go:82", after := #[{ on := 7, ground := Ground.data }, { on := 13, ground := Ground.data }], guard := none }) (v := .bool true) rfl (by kernel_rfl) (by kernel_rfl) (by kernel_rfl) (fun _ _ _ h => h) (Or.inl ⟨by kernel_rfl, by (intro w hSw; (try dsimp only at hSw); go_simp)⟩) hHeld ?_
            simp only [Act.put, List.setIfInBounds_toArray, List.set_cons_zero, List.set_cons_succ]
            refine wpAnyH_done (by kernel_rfl) ?_ _
            clear hHeld
            go_wp2
            go_ret2
            exact .inl ⟨by rw [HE.out]; omega, by rw [HE.out]; rfl, (HX.out.1.kept hk1).k⟩
          · rw [hr] at hRr eok
            have HR : Hid (∀ W, Keeps (fun _ => False) W2 W → Calls Try.prog 41 #[bxv bp bh bn, .slice (some ⟨B, 0, none⟩) M M] W fun e w' => e = .returned (.bool true) ∧ Keeps (fun _ => False) W2 w') := hRr
            obtain ⟨q, hq⟩ : ∃ q, q = (bs.take k).any (⟨bp, bh, bn⟩ : Bx).meets := ⟨_, rfl⟩
            rw [← hq] at hCn eok
            have HCn : Hid (∀ W, Keeps (fun _ => False) W2 W → Calls Try.prog 54 #[.slice (some ⟨gb, 0, none⟩) k c, .func (.func 55) #[bxv bp bh bn] #[]] W fun e w' => e = .returned (.bool q) ∧ Keeps (fun _ => False) W2 w') := hCn
            have HOk : Hid (okAt xs bs k = !q) := by show okAt xs bs k = !q; rw [eok]; simp
            have k3 : (k : Int) ≤ c := by omega
            clear hk hL hok hL2 hy hyb hyf hyl hW2 hK2 hB2 t1 t2 t3 t4 t5 t6 eok hRr hCn hM hO2 hr hq
            go_wp2
            rw [← HW2.out.1, ← HW2.out.2]
            refine wp_region_held_drew (S := (fun w' => w'.cell? ⟨O2, 0, none⟩ = some (.int .i64 bp) ∧ w'.cell? ⟨O2, 1, none⟩ = some (.int .i64 bh) ∧ w'.cell? ⟨O2, 2, none⟩ = some (.int .i64 bn) ∧ w'.cell? ⟨H, k, none⟩ = some (.slice (some ⟨B, 0, none⟩) M M))) Try.mixd (HB0.out _ ((Keeps.refl _ W2).drew)) (fun hHeld => ?_)
            simp only [List.size_toArray, List.length_cons, List.length_nil, Nat.reduceAdd, Array.replicate_succ, Array.replicate_zero, List.push_toArray, List.append_toArray, List.nil_append, List.cons_append]
            refine wpAnyH_take (i := 0) (oi := { dst := some 44, op := Op.load 69 (Operand.tmp 12), type := 69, pos := "sample.go:82", after := #[], guard := none }) (v := .agg #[.int .i64 bp, .int .i64 bh, .int .i64 bn]) rfl (by kernel_rfl) (by kernel_rfl) (by kernel_rfl) (fun _ _ _ h => h) (Or.inl ⟨by kernel_rfl, by (intro w hSw; (try dsimp only at hSw); go_simp)⟩) hHeld ?_
            simp only [Act.put, List.setIfInBounds_toArray, List.set_cons_zero, List.set_cons_succ]
            refine wpAnyH_take (i := 1) (oi := { dst := some 45, op := Op.move (Operand.tmp 6), type := 90, pos := "sample.go:82", after := #[], guard := none }) (v := .slice (some ⟨H, 0, none⟩) j j) rfl (by kernel_rfl) (by kernel_rfl) (by kernel_rfl) (fun _ _ _ h => h) (Or.inl ⟨by kernel_rfl, by (intro w hSw; (try dsimp only at hSw); go_simp)⟩) hHeld ?_
            simp only [Act.put, List.setIfInBounds_toArray, List.set_cons_zero, List.set_cons_succ]
            refine wpAnyH_take (i := 2) (oi := { dst := some 46, op := Op.move (Operand.tmp 11), type := 3, pos := "sample.go:82", after := #[], guard := none }) (v := .int .i64 (k : Int)) rfl (by kernel_rfl) (by kernel_rfl) (by kernel_rfl) (fun _ _ _ h => h) (Or.inl ⟨by kernel_rfl, by (intro w hSw; (try dsimp only at hSw); go_simp)⟩) hHeld ?_
            simp only [Act.put, List.setIfInBounds_toArray, List.set_cons_zero, List.set_cons_succ]
            refine wpAnyH_take (i := 3) (oi := { dst := some 47, op := Op.indexAddr 90 (Operand.tmp 45) (Operand.tmp 46), type := 0, pos := "sample.go:82", after := #[{ on := 1, ground := Ground.data }, { on := 2, ground := Ground.data }], guard := none }) (v := .pointer (some ⟨H, k, none⟩)) rfl (by kernel_rfl) (by kernel_rfl) (by kernel_rfl) (fun _ _ _ h => h) (Or.inl ⟨by kernel_rfl, by (intro w hSw; (try dsimp only at hSw); go_simp)⟩) hHeld ?_
            simp only [Act.put, List.setIfInBounds_toArray, List.set_cons_zero, List.set_cons_succ]
            refine wpAnyH_take (i := 4) (oi := { dst := some 48, op := Op.load 22 (Operand.tmp 47), type := 22, pos := "sample.go:82", after := #[{ on := 3, ground := Ground.data }], guard := none }) (v := .slice (some ⟨B, 0, none⟩) M M) rfl (by kernel_rfl) (by kernel_rfl) (by kernel_rfl) (fun _ _ _ h => h) (Or.inl ⟨by kernel_rfl, by (intro w hSw; (try dsimp only at hSw); go_simp)⟩) hHeld ?_
            simp only [Act.put, List.setIfInBounds_toArray, List.set_cons_zero, List.set_cons_succ]
            refine wpAnyH_ready (rs := [5]) (by kernel_rfl) (by simp) ?_
            refine AllReadyH.cons (o := { dst := some 49, op := Op.call { callee := Callee.value (Operand.func 41), args := #[Operand.tmp 44, Operand.tmp 48], argTypes := #[69, 22] }, type := 4, pos := "sample.go:82", after := #[{ on := 0, ground := Ground.data }, { on := 4, ground := Ground.data }], guard := none }) rfl (fun K hK => ?_) AllReadyH.nil
            go_simp
            refine (HR.out _ ((Keeps.refl _ W2).drew)).mono ?_
            rintro e w1 ⟨rfl, hk1⟩
            refine hK.out _ _ (HB0.out w1 hk1) (fun hHeld => ?_)
            simp only [Act.put, List.setIfInBounds_toArray, List.set_cons_zero, List.set_cons_succ]
            refine wpAnyH_take (i := 6) (oi := { dst := some 50, op := Op.unOp UnOp.not 4 (Operand.tmp 49), type := 4, pos := "sample.go:82", after := #[{ on := 5, ground := Ground.data }], guard := none }) (v := .bool false) rfl (by kernel_rfl) (by kernel_rfl) (by kernel_rfl) (fun _ _ _ h => h) (Or.inl ⟨by kernel_rfl, by (intro w hSw; (try dsimp only at hSw); go_simp)⟩) hHeld ?_
            simp only [Act.put, List.setIfInBounds_toArray, List.set_cons_zero, List.set_cons_succ]
            refine wpAnyH_take (i := 7) (oi := { dst := some 51, op := Op.move (Operand.tmp 50), type := 4, pos := "sample.go:82", after := #[{ on := 6, ground := Ground.data }, { on := 5, ground := Ground.chain }], guard := none }) (v := .bool false) rfl (by kernel_rfl) (by kernel_rfl) (by kernel_rfl) (fun _ _ _ h => h) (Or.inl ⟨by kernel_rfl, by (intro w hSw; (try dsimp only at hSw); go_simp)⟩) hHeld ?_
            simp only [Act.put, List.setIfInBounds_toArray, List.set_cons_zero, List.set_cons_succ]
            refine wpAnyH_take (i := 8) (oi := { dst := some 52, op := Op.move (Operand.tmp 1), type := 71, pos := "sample.go:82", after := #[{ on := 7, ground := Ground.guard }], guard := some (7, false) }) (v := .slice (some ⟨gb, 0, none⟩) j c) rfl (by kernel_rfl) (by kernel_rfl) (by kernel_rfl) (fun _ _ _ h => h) (Or.inl ⟨by kernel_rfl, by (intro w hSw; (try dsimp only at hSw); go_simp)⟩) hHeld ?_
            simp only [Act.put, List.setIfInBounds_toArray, List.set_cons_zero, List.set_cons_succ]
            refine wpAnyH_take (i := 9) (oi := { dst := some 53, op := Op.move (Operand.tmp 11), type := 3, pos := "sample.go:82", after := #[{ on := 7, ground := Ground.guard }], guard := some (7, false) }) (v := .int .i64 (k : Int)) rfl (by kernel_rfl) (by kernel_rfl) (by kernel_rfl) (fun _ _ _ h => h) (Or.inl ⟨by kernel_rfl, by (intro w hSw; (try dsimp only at hSw); go_simp)⟩) hHeld ?_
            simp only [Act.put, List.setIfInBounds_toArray, List.set_cons_zero, List.set_cons_succ]
            refine wpAnyH_take (i := 10) (oi := { dst := some 54, op := Op.slice 71 (Operand.tmp 52) none (some (Operand.tmp 53)) none, type := 71, pos := "sample.go:82", after := #[{ on := 8, ground := Ground.data }, { on := 9, ground := Ground.data }, { on := 7, ground := Ground.guard }], guard := some (7, false) }) (v := .slice (some ⟨gb, 0, none⟩) k c) rfl (by kernel_rfl) (by kernel_rfl) (by kernel_rfl) (fun _ _ _ h => h) (Or.inl ⟨by kernel_rfl, by (intro w hSw; (try dsimp only at hSw); go_simp)⟩) hHeld ?_
            simp only [Act.put, List.setIfInBounds_toArray, List.set_cons_zero, List.set_cons_succ]
            refine wpAnyH_take (i := 11) (oi := { dst := some 55, op := Op.load 69 (Operand.tmp 12), type := 69, pos := "sample.go:82", after := #[{ on := 7, ground := Ground.guard }], guard := some (7, false) }) (v := .agg #[.int .i64 bp, .int .i64 bh, .int .i64 bn]) rfl (by kernel_rfl) (by kernel_rfl) (by kernel_rfl) (fun _ _ _ h => h) (Or.inl ⟨by kernel_rfl, by (intro w hSw; (try dsimp only at hSw); go_simp)⟩) hHeld ?_
            simp only [Act.put, List.setIfInBounds_toArray, List.set_cons_zero, List.set_cons_succ]
            refine wpAnyH_take (i := 12) (oi := { dst := some 56, op := Op.makeFunc (Fn.func 55) #[Operand.tmp 55] #[], type := 92, pos := "sample.go:82", after := #[{ on := 11, ground := Ground.data }, { on := 7, ground := Ground.guard }], guard := some (7, false) }) (v := .func (.func 55) #[.agg #[.int .i64 bp, .int .i64 bh, .int .i64 bn]] #[]) rfl (by kernel_rfl) (by kernel_rfl) (by kernel_rfl) (fun _ _ _ h => h) (Or.inl ⟨by kernel_rfl, by (intro w hSw; (try dsimp only at hSw); go_simp)⟩) hHeld ?_
            simp only [Act.put, List.setIfInBounds_toArray, List.set_cons_zero, List.set_cons_succ]
            refine wpAnyH_ready (rs := [13]) (by kernel_rfl) (by simp) ?_
            refine AllReadyH.cons (o := { dst := some 57, op := Op.call { callee := Callee.value (Operand.func 54), args := #[Operand.tmp 54, Operand.tmp 56], argTypes := #[71, 92] }, type := 4, pos := "sample.go:82", after := #[{ on := 10, ground := Ground.data }, { on := 12, ground := Ground.data }, { on := 7, ground := Ground.chain }, { on := 7, ground := Ground.guard }], guard := some (7, false) }) rfl (fun K hK => ?_) AllReadyH.nil
            go_simp
            refine (HCn.out w1 hk1).mono ?_
            rintro e w2 ⟨rfl, hk2⟩
            refine hK.out _ _ (HB0.out w2 hk2) (fun hHeld => ?_)
            simp only [Act.put, List.setIfInBounds_toArray, List.set_cons_zero, List.set_cons_succ]
            refine wpAnyH_take (i := 14) (oi := { dst := some 58, op := Op.pick (Operand.tmp 51) (Operand.const (Value.bool true)) (Operand.tmp 57), type := 4, pos := "sample.go:82", after := #[{ on := 7, ground := Ground.data }, { on := 13, ground := Ground.data }], guard := none }) (v := .bool q) rfl (by kernel_rfl) (by kernel_rfl) (by kernel_rfl) (fun _ _ _ h => h) (Or.inl ⟨by kernel_rfl, by (intro w hSw; (try dsimp only at hSw); go_simp)⟩) hHeld ?_
            simp only [Act.put, List.setIfInBounds_toArray, List.set_cons_zero, List.set_cons_succ]
            refine wpAnyH_done (by kernel_rfl) ?_ _
            clear hHeld
            cases q
            · have HL3 : Hid (Lk w w2 H xs bs b g gb j) := HX.out.1.kept hk2
              clear hk1 hk2 y0 y1 y2
              go_wp2
              go_roundw
              case rel =>
                refine ⟨k + 1, by omega, by go_num, HL3.out, fun i hi => ?_⟩
                by_cases e : i = k
                · rw [e, HOk.out]; rfl
                · exact HX.out.2 i (by omega)
              case measure => simp [intOf]; omega
            · have HE : Hid (laE xs bs = 191) := HFm.out (by rw [HOk.out]; rfl)
              have HL3 : Hid (Lk w w2 H xs bs b g gb j) := HX.out.1.kept hk2
              clear hk1 hk2 y0 y1 y2
              go_wp2
              go_ret2
              exact .inl ⟨by rw [HE.out]; omega, by rw [HE.out]; rfl, HL3.out.k⟩
        · obtain rfl : k = j := by omega
          obtain ⟨y, hy⟩ : ∃ y, bs[0]? = some y := ⟨_, List.getElem?_eq_getElem (by have := HN.out; omega)⟩
          obtain ⟨hv, t1, t2, t3⟩ := hL.tk.row
          obtain ⟨-, B, t4, t5, t6⟩ := t3 0 y (by have := HN.out; omega) hy
          have c0 := t1.cell t5
          have HE : Hid (laE xs bs = 0) := by
            have hfm : formB xs bs = true := by
              unfold formB
              rw [List.all_eq_true]
              exact fun i hi => hok i (by rw [List.mem_range] at hi; have := HN.out.1; omega)
            show laE xs bs = 0
            unfold laE
            rw [HT0.out.1, if_neg (by simp), hfm]; rfl
          have HF : Hid (bs[0]? = some y ∧ w.heap.size ≤ B ∧ Blk wr B (wvs (wn xs y)) 34 ∧ Keeps (fun _ => False) w wr) := ⟨hy, by have := hL.lo; omega, t6, hL.k⟩
          obtain ⟨M, hM⟩ : ∃ M, M = (wn xs y).length := ⟨_, rfl⟩
          have HM2 : Hid (M = (wn xs y).length) := hM
          rw [← hM] at c0
          clear hy t1 t2 t3 t4 t5 t6 hL hok hM hk
          go_wp2
          go_ret2
          exact .inr ⟨HE.out, y, HF.out.1, B, HF.out.2.1, by rw [← HM2.out]; rfl, HF.out.2.2⟩

end Go.Proofs.Ytfcgpjojjehkiaa
