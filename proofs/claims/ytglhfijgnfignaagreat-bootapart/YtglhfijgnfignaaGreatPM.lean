import Derived.Test.YtglhfijgnfignaaGreatPG
import Derived.Test.YtglhfijgnfignaaGreatCn
import Derived.OwnWalkIn
import Derived.Deep.RegionHeld3
namespace Go.Proofs.YtglhfijgnfignaaGreat
namespace Mq
open Go.RowKit
set_option linter.unusedVariables false
set_option linter.unusedSimpArgs false
def _root_.Go.Proofs.YtglhfijgnfignaaGreat.Rgn.ok (r : Rgn) : Prop := 0 ≤ r.page ∧ 1 ≤ r.pages ∧ r.page + r.pages ≤ 256 ∧ 0 ≤ r.frame ∧ r.frame + r.pages ≤ 1024 ∧ 0 ≤ r.rights ∧ r.rights < 8
instance (r : Rgn) : Decidable r.ok := by unfold Rgn.ok; infer_instance
def meets (r o : Rgn) : Prop := r.page < o.page + o.pages ∧ o.page < r.page + r.pages
instance (r o : Rgn) : Decidable (meets r o) := by unfold meets; infer_instance
def MayB (rs : List Rgn) : Prop := ∀ (i : Nat) (r : Rgn), rs[i]? = some r → r.ok ∧ ∀ (j : Nat) (o : Rgn), j < i → rs[j]? = some o → ¬ meets r o
def RgAt (w : World) (g o : Nat) (r : Rgn) : Prop :=
 w.cell? ⟨g, o, none⟩ = some (.int .i64 r.page) ∧ w.cell? ⟨g, o + 1, none⟩ = some (.int .i64 r.pages) ∧ w.cell? ⟨g, o + 2, none⟩ = some (.int .i64 r.frame) ∧ w.cell? ⟨g, o + 3, none⟩ = some (.int .i64 r.rights)
def SegR (w : World) (a : Option Addr) (rs : List Rgn) : Prop :=
 rs = [] ∨ ∃ g o, a = some ⟨g, o, none⟩ ∧ ∀ j r, rs[j]? = some r → RgAt w g (o + j * 4) r
theorem RgAt.kept {S : Nat → Prop} {w w' : World} {g o : Nat} {r : Rgn} (h : RgAt w g o r) (hK : Keeps S w w') (hn : ¬ S g) : RgAt w' g o r := by
 have hlt : g < w.heap.size := World.block_lt_of_cell? w ⟨g, o, none⟩ h.1
 have e : ∀ i, w'.cell? ⟨g, i, none⟩ = w.cell? ⟨g, i, none⟩ := fun i => World.cell?_of_block (w := w) (hK.block g hlt hn)
 exact ⟨(e _).trans h.1, (e _).trans h.2.1, (e _).trans h.2.2.1, (e _).trans h.2.2.2⟩
theorem SegR.kept {S : Nat → Prop} {w w' : World} {a : Option Addr} {rs : List Rgn} (h : SegR w a rs) (hK : Keeps S w w') (hn : ∀ x, a = some x → ¬ S x.block) : SegR w' a rs := by
 rcases h with h | ⟨g, o, ha, hc⟩
 ·
  exact .inl h
 ·
  exact .inr ⟨g, o, ha, fun j l hj => (hc j l hj).kept hK (hn _ ha)⟩
theorem SegR.grown {w w' : World} {a : Option Addr} {rs : List Rgn} (h : SegR w a rs) (hK : Keeps (fun _ => False) w w') : SegR w' a rs := h.kept hK fun _ _ e => e
theorem SegR.take {w : World} {a : Option Addr} {rs : List Rgn} (h : SegR w a rs) (n : Nat) : SegR w a (rs.take n) := by
 rcases h with h | ⟨g, o, ha, hc⟩
 ·
  left; rw [h]; simp
 ·
  refine .inr ⟨g, o, ha, fun j r hj => hc j r ?_⟩
  rw [List.getElem?_take] at hj
  split at hj
  ·
   exact hj
  ·
   simp at hj
theorem SegR.at {w : World} {a : Option Addr} {rs : List Rgn} (h : SegR w a rs) {j : Nat} {r : Rgn} (hj : rs[j]? = some r) : ∃ g o, a = some ⟨g, o, none⟩ ∧ RgAt w g (o + j * 4) r := by
 rcases h with h | ⟨g, o, ha, hc⟩
 ·
  rw [h] at hj; simp at hj
 ·
  exact ⟨g, o, ha, hc j r hj⟩
theorem _root_.Go.Proofs.YtglhfijgnfignaaGreat.Blk.rg {w : World} {b : Nat} {r : Rgn} {t : TypeId} (h : Blk w b r.vs t) : RgAt w b 0 r := ⟨h.cell rfl, h.cell rfl, h.cell rfl, h.cell rfl⟩
set_option maxHeartbeats 2000000 in
theorem rmay_any (r : Rgn) (w : World) (hr : r.Fine) : Calls Tryz.prog 143 #[r.v] w fun e w' => e = .returned (.bool (decide r.ok)) ∧ Keeps (fun _ => False) w w' := by
 obtain ⟨p, n, f, t⟩ := r
 obtain ⟨⟨a1, a2⟩, ⟨b1, b2⟩, ⟨c1, c2⟩, _, _⟩ := hr
 simp only at a1 a2 b1 b2 c1 c2
 have H1 := fun w => rights_any t w
 by_cases h : (⟨p, n, f, t⟩ : Rgn).ok
 ·
  rw [decide_eq_true h]
  obtain ⟨h1, h2, h3, h4, h5, h6, h7⟩ := h
  simp only at h1 h2 h3 h4 h5 h6 h7
  have e := inR_true h6 h7
  rw [e] at H1
  have H1 : Hid (∀ w, Calls _ _ _ w _) := H1
  have g1 : n ≤ 256 - p := by omega
  have g2 : f ≤ 1024 - n := by omega
  clear e a1 a2 b1 b2 c1 c2 h6 h7
  go_enter Tryz.func143, Tryz.ntmps143
  go_wp2_with fail
  refine (H1.out _).mono ?_
  rintro e w1 ⟨rfl, hw⟩
  obtain rfl := hw.symm
  clear hw
  go_wp2
  go_ret
  exact ⟨rfl, (Keeps.refl _ w).alloc _⟩
 ·
  rw [decide_eq_false h]
  have h' : p < 0 ∨ (0 ≤ p ∧ n < 1) ∨ (0 ≤ p ∧ 1 ≤ n ∧ 256 - p < n) ∨ (0 ≤ p ∧ 1 ≤ n ∧ n ≤ 256 - p ∧ f < 0) ∨ (0 ≤ p ∧ 1 ≤ n ∧ n ≤ 256 - p ∧ 0 ≤ f ∧ 1024 - n < f) ∨
    (0 ≤ p ∧ 1 ≤ n ∧ n ≤ 256 - p ∧ 0 ≤ f ∧ f ≤ 1024 - n ∧ ¬ (0 ≤ t ∧ t < 8)) := by
   unfold Rgn.ok at h
   simp only at h
   omega
  clear h
  rcases h' with h1 | ⟨h1, h2⟩ | ⟨h1, h2, h3⟩ | ⟨h1, h2, h3, h4⟩ | ⟨h1, h2, h3, h4, h5⟩ | ⟨h1, h2, h3, h4, h5, h6⟩
  ·
   clear H1 b1 b2 c1 c2
   go_enter Tryz.func143, Tryz.ntmps143
   go_wp2
   go_ret
   exact ⟨rfl, (Keeps.refl _ w).alloc _⟩
  ·
   clear H1 c1 c2
   go_enter Tryz.func143, Tryz.ntmps143
   go_wp2
   go_ret
   exact ⟨rfl, (Keeps.refl _ w).alloc _⟩
  ·
   clear H1 c1 c2
   go_enter Tryz.func143, Tryz.ntmps143
   go_wp2
   go_ret
   exact ⟨rfl, (Keeps.refl _ w).alloc _⟩
  ·
   clear H1
   go_enter Tryz.func143, Tryz.ntmps143
   go_wp2
   go_ret
   exact ⟨rfl, (Keeps.refl _ w).alloc _⟩
  ·
   clear H1
   go_enter Tryz.func143, Tryz.ntmps143
   go_wp2
   go_ret
   exact ⟨rfl, (Keeps.refl _ w).alloc _⟩
  ·
   rw [inR_false h6] at H1
   have H1 : Hid (∀ w, Calls _ _ _ w _) := H1
   clear h6
   go_enter Tryz.func143, Tryz.ntmps143
   go_wp2_with fail
   refine (H1.out _).mono ?_
   rintro e w1 ⟨rfl, hw⟩
   obtain rfl := hw.symm
   clear hw
   go_wp2
   go_ret
   exact ⟨rfl, (Keeps.refl _ w).alloc _⟩
set_option maxHeartbeats 1000000 in
theorem meet_any (r o : Rgn) (b : Nat) (w : World) (hb : RgAt w b 0 r) (hr : r.ok) (ho : o.ok) : Calls Tryz.prog 167 #[o.v, .pointer (some ⟨b, 0, none⟩)] w fun e w' => e = .returned (.bool (decide (meets r o))) ∧ Keeps (fun _ => False) w w' := by
 obtain ⟨y0, y1, _, _⟩ := hb
 have hlt := World.block_lt_of_cell? w _ y0
 obtain ⟨p, n, f, t⟩ := r
 obtain ⟨p', n', f', t'⟩ := o
 obtain ⟨h1, h2, h3, _⟩ := hr
 obtain ⟨k1, k2, k3, _⟩ := ho
 simp only [Nat.zero_add] at h1 h2 h3 k1 k2 k3 y0 y1
 by_cases a1 : p < p' + n'
 ·
  by_cases a2 : p' < p + n
  ·
   rw [decide_eq_true (show meets _ _ from ⟨a1, a2⟩)]
   go_enter Tryz.func167, Tryz.ntmps167
   go_wp2
   go_ret
   exact ⟨ret_bool (by simp), (Keeps.refl _ w).alloc _⟩
  ·
   rw [decide_eq_false (fun h : meets _ _ => a2 h.2)]
   go_enter Tryz.func167, Tryz.ntmps167
   go_wp2
   go_ret
   exact ⟨ret_bool (by simp), (Keeps.refl _ w).alloc _⟩
 ·
  rw [decide_eq_false (fun h : meets _ _ => a1 h.1)]
  go_enter Tryz.func167, Tryz.ntmps167
  go_wp2
  go_ret
  exact ⟨ret_bool (by simp), (Keeps.refl _ w).alloc _⟩
end Mq
end Go.Proofs.YtglhfijgnfignaaGreat
namespace Go.Proofs.YtglhfijgnfignaaGreat
namespace Mq
open Go.RowKit
set_option linter.unusedVariables false
set_option linter.unusedSimpArgs false
set_option maxHeartbeats 1000000 in
theorem index_72 (a : Option Addr) (rs : List Rgn) (c pb : Nat) (q : Rgn → Bool) (w : World) (hl : rs.length ≤ c ∧ c ≤ maxLen) (hs : SegR w a rs)
  (hq : ∀ r, r ∈ rs → ∀ W, Keeps (fun _ => False) w W → Calls Tryz.prog 167 #[r.v, .pointer (some ⟨pb, 0, none⟩)] W fun e w' => e = .returned (.bool (q r)) ∧ Keeps (fun _ => False) W w') :
  Calls Tryz.prog 147 #[.slice a rs.length c, .func (.func 167) #[] #[.pointer (some ⟨pb, 0, none⟩)]] w fun e w' => (∃ z : Int, e = .returned (.int .i64 z) ∧ decide (0 ≤ z) = rs.any q) ∧ Keeps (fun _ => False) w w' := by
 obtain ⟨L, hL⟩ : ∃ L, L = rs.length := ⟨_, rfl⟩
 have HS : Hid (SegR w a rs ∧ L = rs.length ∧ ∀ r, r ∈ rs → ∀ W, Keeps (fun _ => False) w W → Calls Tryz.prog 167 #[r.v, .pointer (some ⟨pb, 0, none⟩)] W fun e w' => e = .returned (.bool (q r)) ∧ Keeps (fun _ => False) W w') := ⟨hs, hL, hq⟩
 have hc2 : (L : Int) ≤ c := by omega
 have hc3 : (c : Int) ≤ 9223372036854775807 := by unfold maxLen at hl; omega
 rw [← hL]
 clear hl hs hL hq
 go_enter Tryz.func147, Tryz.ntmps147
 go_wp2
 go_loopw [8] (fun i wr => ∃ j : Nat, j ≤ L ∧ i = .int .i64 j ∧ (rs.take j).any q = false ∧ Keeps (fun _ => False) w wr) (fun i _ => L - (intOf i).toNat)
 case atStart => exact ⟨0, by omega, rfl, by simp, Keeps.refl _ _⟩
 case round =>
  obtain ⟨j, hj, rfl, hn, hK⟩ := hrel
  by_cases hlt : j < L
  ·
   obtain ⟨y, hy⟩ : ∃ y, rs[j]? = some y := ⟨_, List.getElem?_eq_getElem (by have := HS.out.2.1; omega)⟩
   obtain ⟨g, o, rfl, hg⟩ := HS.out.1.at hy
   obtain ⟨y0, y1, y2, y3⟩ := hg.kept hK fun h => h
   have HC := HS.out.2.2 y (List.mem_of_getElem? hy) wr hK
   have HJ : Hid ((rs.take j).any q = false ∧ rs[j]? = some y ∧ Keeps (fun _ => False) w wr) := ⟨hn, hy, hK⟩
   clear hn hy hK hg
   cases hq : q y
   ·
    rw [hq] at HC
    have HC : Hid (Calls _ _ _ _ _) := HC
    have HF : Hid ((rs.take (j + 1)).any q = false) := by
     have := HJ.out.2.1
     show (rs.take (j + 1)).any q = false
     rw [List.take_add_one, this, List.any_append, HJ.out.1]
     simp [hq]
    clear hq
    go_wp2_with fail
    refine HC.out.mono ?_
    rintro r w1 ⟨rfl, hK1⟩
    have HK : Hid (Keeps (fun _ => False) w w1) := HJ.out.2.2.trans hK1 fun _ _ h => h
    clear hK1 HC y0 y1 y2 y3
    go_wp2
    go_roundw
    case rel => exact ⟨j + 1, by omega, by go_num, HF.out, HK.out⟩
    case measure => simp [intOf]; omega
   ·
    rw [hq] at HC
    have HC : Hid (Calls _ _ _ _ _) := HC
    have HF : Hid (rs.any q = true) := List.any_eq_true.2 ⟨y, List.mem_of_getElem? HJ.out.2.1, hq⟩
    clear hq
    go_wp2_with fail
    refine HC.out.mono ?_
    rintro r w1 ⟨rfl, hK1⟩
    have HK : Hid (Keeps (fun _ => False) w w1) := HJ.out.2.2.trans hK1 fun _ _ h => h
    clear hK1 HC y0 y1 y2 y3
    go_wp2
    go_ret
    exact ⟨⟨j, rfl, by rw [HF.out]; simp⟩, HK.out⟩
  ·
   obtain rfl : j = L := by omega
   have HH : Hid (rs.any q = false ∧ Keeps (fun _ => False) w wr) := by
    rw [List.take_of_length_le (by have := HS.out.2.1; omega)] at hn
    exact ⟨hn, hK⟩
   clear hn hK
   go_wp2
   go_ret
   exact ⟨⟨-1, rfl, by rw [HH.out.1]; rfl⟩, HH.out.2⟩
set_option maxHeartbeats 400000 in
theorem contains_72 (a : Option Addr) (rs : List Rgn) (c pb : Nat) (q : Rgn → Bool) (w : World) (hl : rs.length ≤ c ∧ c ≤ maxLen) (hs : SegR w a rs)
  (hq : ∀ r, r ∈ rs → ∀ W, Keeps (fun _ => False) w W → Calls Tryz.prog 167 #[r.v, .pointer (some ⟨pb, 0, none⟩)] W fun e w' => e = .returned (.bool (q r)) ∧ Keeps (fun _ => False) W w') :
  Calls Tryz.prog 101 #[.slice a rs.length c, .func (.func 167) #[] #[.pointer (some ⟨pb, 0, none⟩)]] w fun e w' => e = .returned (.bool (rs.any q)) ∧ Keeps (fun _ => False) w w' := by
 have HC : Hid (Calls _ _ _ _ _) := index_72 a rs c pb q w hl hs hq
 obtain ⟨L, hL⟩ : ∃ L, L = rs.length := ⟨_, rfl⟩
 rw [← hL] at HC ⊢
 clear hl hs hq hL
 go_enter Tryz.func101, Tryz.ntmps101
 go_wp2_with fail
 refine HC.out.mono ?_
 rintro r w1 ⟨⟨z, rfl, hz⟩, hK1⟩
 have HK : Hid (decide (0 ≤ z) = rs.any q ∧ Keeps (fun _ => False) w w1) := ⟨hz, hK1⟩
 clear hz hK1 HC
 go_wp2
 go_ret
 exact ⟨ret_bool HK.out.1, HK.out.2⟩
set_option maxHeartbeats 1000000 in
theorem index_59 (a : Option Addr) (rs : List Rgn) (c pb : Nat) (q : Rgn → Bool) (w : World) (hl : rs.length ≤ c ∧ c ≤ maxLen) (hs : SegR w a rs)
  (hq : ∀ r, r ∈ rs → ∀ W, Keeps (fun _ => False) w W → Calls Tryz.prog 102 #[r.v, .pointer (some ⟨pb, 0, none⟩)] W fun e w' => e = .returned (.bool (q r)) ∧ Keeps (fun _ => False) W w') :
  Calls Tryz.prog 147 #[.slice a rs.length c, .func (.func 102) #[] #[.pointer (some ⟨pb, 0, none⟩)]] w fun e w' => (∃ z : Int, e = .returned (.int .i64 z) ∧ decide (0 ≤ z) = rs.any q) ∧ Keeps (fun _ => False) w w' := by
 obtain ⟨L, hL⟩ : ∃ L, L = rs.length := ⟨_, rfl⟩
 have HS : Hid (SegR w a rs ∧ L = rs.length ∧ ∀ r, r ∈ rs → ∀ W, Keeps (fun _ => False) w W → Calls Tryz.prog 102 #[r.v, .pointer (some ⟨pb, 0, none⟩)] W fun e w' => e = .returned (.bool (q r)) ∧ Keeps (fun _ => False) W w') := ⟨hs, hL, hq⟩
 have hc2 : (L : Int) ≤ c := by omega
 have hc3 : (c : Int) ≤ 9223372036854775807 := by unfold maxLen at hl; omega
 rw [← hL]
 clear hl hs hL hq
 go_enter Tryz.func147, Tryz.ntmps147
 go_wp2
 go_loopw [8] (fun i wr => ∃ j : Nat, j ≤ L ∧ i = .int .i64 j ∧ (rs.take j).any q = false ∧ Keeps (fun _ => False) w wr) (fun i _ => L - (intOf i).toNat)
 case atStart => exact ⟨0, by omega, rfl, by simp, Keeps.refl _ _⟩
 case round =>
  obtain ⟨j, hj, rfl, hn, hK⟩ := hrel
  by_cases hlt : j < L
  ·
   obtain ⟨y, hy⟩ : ∃ y, rs[j]? = some y := ⟨_, List.getElem?_eq_getElem (by have := HS.out.2.1; omega)⟩
   obtain ⟨g, o, rfl, hg⟩ := HS.out.1.at hy
   obtain ⟨y0, y1, y2, y3⟩ := hg.kept hK fun h => h
   have HC := HS.out.2.2 y (List.mem_of_getElem? hy) wr hK
   have HJ : Hid ((rs.take j).any q = false ∧ rs[j]? = some y ∧ Keeps (fun _ => False) w wr) := ⟨hn, hy, hK⟩
   clear hn hy hK hg
   cases hq : q y
   ·
    rw [hq] at HC
    have HC : Hid (Calls _ _ _ _ _) := HC
    have HF : Hid ((rs.take (j + 1)).any q = false) := by
     have := HJ.out.2.1
     show (rs.take (j + 1)).any q = false
     rw [List.take_add_one, this, List.any_append, HJ.out.1]
     simp [hq]
    clear hq
    go_wp2_with fail
    refine HC.out.mono ?_
    rintro r w1 ⟨rfl, hK1⟩
    have HK : Hid (Keeps (fun _ => False) w w1) := HJ.out.2.2.trans hK1 fun _ _ h => h
    clear hK1 HC y0 y1 y2 y3
    go_wp2
    go_roundw
    case rel => exact ⟨j + 1, by omega, by go_num, HF.out, HK.out⟩
    case measure => simp [intOf]; omega
   ·
    rw [hq] at HC
    have HC : Hid (Calls _ _ _ _ _) := HC
    have HF : Hid (rs.any q = true) := List.any_eq_true.2 ⟨y, List.mem_of_getElem? HJ.out.2.1, hq⟩
    clear hq
    go_wp2_with fail
    refine HC.out.mono ?_
    rintro r w1 ⟨rfl, hK1⟩
    have HK : Hid (Keeps (fun _ => False) w w1) := HJ.out.2.2.trans hK1 fun _ _ h => h
    clear hK1 HC y0 y1 y2 y3
    go_wp2
    go_ret
    exact ⟨⟨j, rfl, by rw [HF.out]; simp⟩, HK.out⟩
  ·
   obtain rfl : j = L := by omega
   have HH : Hid (rs.any q = false ∧ Keeps (fun _ => False) w wr) := by
    rw [List.take_of_length_le (by have := HS.out.2.1; omega)] at hn
    exact ⟨hn, hK⟩
   clear hn hK
   go_wp2
   go_ret
   exact ⟨⟨-1, rfl, by rw [HH.out.1]; rfl⟩, HH.out.2⟩
set_option maxHeartbeats 400000 in
theorem contains_59 (a : Option Addr) (rs : List Rgn) (c pb : Nat) (q : Rgn → Bool) (w : World) (hl : rs.length ≤ c ∧ c ≤ maxLen) (hs : SegR w a rs)
  (hq : ∀ r, r ∈ rs → ∀ W, Keeps (fun _ => False) w W → Calls Tryz.prog 102 #[r.v, .pointer (some ⟨pb, 0, none⟩)] W fun e w' => e = .returned (.bool (q r)) ∧ Keeps (fun _ => False) W w') :
  Calls Tryz.prog 101 #[.slice a rs.length c, .func (.func 102) #[] #[.pointer (some ⟨pb, 0, none⟩)]] w fun e w' => e = .returned (.bool (rs.any q)) ∧ Keeps (fun _ => False) w w' := by
 have HC : Hid (Calls _ _ _ _ _) := index_59 a rs c pb q w hl hs hq
 obtain ⟨L, hL⟩ : ∃ L, L = rs.length := ⟨_, rfl⟩
 rw [← hL] at HC ⊢
 clear hl hs hq hL
 go_enter Tryz.func101, Tryz.ntmps101
 go_wp2_with fail
 refine HC.out.mono ?_
 rintro r w1 ⟨⟨z, rfl, hz⟩, hK1⟩
 have HK : Hid (decide (0 ≤ z) = rs.any q ∧ Keeps (fun _ => False) w w1) := ⟨hz, hK1⟩
 clear hz hK1 HC
 go_wp2
 go_ret
 exact ⟨ret_bool HK.out.1, HK.out.2⟩
set_option maxHeartbeats 400000 in
theorem meetsOne_any (r : Rgn) (a : Option Addr) (rs : List Rgn) (c : Nat) (w : World) (hl : rs.length ≤ c ∧ c ≤ maxLen) (hs : SegR w a rs) (hr : r.ok) (ho : ∀ o, o ∈ rs → o.ok) :
  Calls Tryz.prog 144 #[r.v, .slice a rs.length c] w fun e w' => e = .returned (.bool (rs.any fun o => decide (meets r o))) ∧ Keeps (fun _ => False) w w' := by
 obtain ⟨W, hW⟩ : ∃ W, W = w.alloc (.cells #[.int .i64 r.page, .int .i64 r.pages, .int .i64 r.frame, .int .i64 r.rights] 81) := ⟨_, rfl⟩
 have hB : Blk W w.heap.size r.vs 81 := by rw [hW]; exact Blk.new w _ 81
 have hK : Keeps (fun _ => False) w W := by rw [hW]; exact (Keeps.refl _ w).alloc _
 have HC : Hid (Calls _ _ _ _ _) := contains_72 a rs c w.heap.size (fun o => decide (meets r o)) W hl (hs.grown hK) fun o ho' W' hK' => meet_any r o w.heap.size W' (hB.rg.kept hK' fun h => h) hr (ho o ho')
 have HW : Hid (W = _ ∧ Keeps (fun _ => False) w W) := ⟨hW, hK⟩
 obtain ⟨L, hL⟩ : ∃ L, L = rs.length := ⟨_, rfl⟩
 rw [← hL] at HC ⊢
 clear hl hs hr ho hL hW hB hK
 go_enter Tryz.func144, Tryz.ntmps144
 go_wp2_with fail
 rw [← HW.out.1]
 refine HC.out.mono ?_
 rintro e w1 ⟨rfl, hK1⟩
 have HK : Hid (Keeps (fun _ => False) w w1) := HW.out.2.trans hK1 fun _ _ h => h
 clear hK1 HC
 go_wp2
 go_ret
 exact ⟨rfl, HK.out⟩
set_option maxHeartbeats 800000 in
theorem lies_any (b g n pb : Nat) (xs : List UInt32) (r : Rgn) (w : World) (h : Mn w b g n xs) (hp : w.cell? ⟨pb, 0, none⟩ = some (.pointer (some ⟨b, 0, none⟩))) (hr : r.ok) :
  Calls Tryz.prog 102 #[r.v, .pointer (some ⟨pb, 0, none⟩)] w fun e w' => e = .returned (.bool (decide ((n : Int) < r.frame + r.pages))) ∧ Keeps (fun _ => False) w w' := by
 obtain ⟨W, hW⟩ : ∃ W, W = w.alloc (.cells #[.int .i64 r.page, .int .i64 r.pages, .int .i64 r.frame, .int .i64 r.rights] 81) := ⟨_, rfl⟩
 have hK : Keeps (fun _ => False) w W := by rw [hW]; exact (Keeps.refl _ w).alloc _
 have HM := fun W' (hK' : Keeps (fun _ => False) w W') => framesN_any b g xs n W' (h.grown hK').mm h.len
 have HM : Hid (∀ W', Keeps (fun _ => False) w W' → Calls _ _ _ _ _) := HM
 have hlt := World.block_lt_of_cell? w _ hp
 obtain ⟨p, k, f, t⟩ := r
 obtain ⟨h1, h2, h3, h4, h5, _⟩ := hr
 simp only at h1 h2 h3 h4 h5
 have HK : Hid (Keeps (fun _ => False) w (w.alloc (.cells #[.int .i64 p, .int .i64 k, .int .i64 f, .int .i64 t] 81))) := by rw [hW] at hK; exact hK
 clear hW hK h
 go_enter Tryz.func102, Tryz.ntmps102
 go_wp2_with fail
 go_quiet (exact (HM.out _ (HK.out.drewN _)).mono fun e w2 h2 => ⟨h2.1, _, h2.2⟩)
 go_wp2
 go_ret
 exact ⟨rfl, HK.out.drewN _⟩
end Mq
end Go.Proofs.YtglhfijgnfignaaGreat
namespace Go.Proofs.YtglhfijgnfignaaGreat
namespace Mq
open Go.RowKit
set_option linter.unusedVariables false
set_option linter.unusedSimpArgs false
theorem Tryz.mixed : Tryz.prog.follows Departure.mixedOrders = true := by kernel_rfl
set_option maxHeartbeats 400000 in
theorem lieIn_any (b g n : Nat) (xs : List UInt32) (a : Option Addr) (rs : List Rgn) (c : Nat) (w : World) (h : Mn w b g n xs) (hl : rs.length ≤ c ∧ c ≤ maxLen) (hs : SegR w a rs) (ho : ∀ o, o ∈ rs → o.ok) :
  Calls Tryz.prog 63 #[.pointer (some ⟨b, 0, none⟩), .slice a rs.length c] w fun e w' => e = .returned (.bool (!(rs.any fun r => decide ((n : Int) < r.frame + r.pages)))) ∧ Keeps (fun _ => False) w w' := by
 obtain ⟨W, hW⟩ : ∃ W, W = w.alloc (.cells #[.pointer (some ⟨b, 0, none⟩)] 28) := ⟨_, rfl⟩
 have hB : Blk W w.heap.size [.pointer (some ⟨b, 0, none⟩)] 28 := by rw [hW]; exact Blk.new w _ 28
 have hK : Keeps (fun _ => False) w W := by rw [hW]; exact (Keeps.refl _ w).alloc _
 have HC : Hid (Calls _ _ _ _ _) := contains_59 a rs c w.heap.size (fun r => decide ((n : Int) < r.frame + r.pages)) W hl (hs.grown hK) fun o ho' W' hK' =>
  lies_any b g n w.heap.size xs o W' ((h.grown hK).grown hK') ((hB.kept hK' fun h => h).cell rfl) (ho o ho')
 have HW : Hid (W = _ ∧ Keeps (fun _ => False) w W) := ⟨hW, hK⟩
 obtain ⟨L, hL⟩ : ∃ L, L = rs.length := ⟨_, rfl⟩
 obtain ⟨B, hB'⟩ : ∃ B, B = rs.any fun r => decide ((n : Int) < r.frame + r.pages) := ⟨_, rfl⟩
 rw [← hL] at HC ⊢
 rw [← hB'] at HC ⊢
 clear hl hs h ho hL hW hB hK hB'
 go_enter Tryz.func63, Tryz.ntmps63
 go_wp2_with fail
 rw [← HW.out.1]
 refine HC.out.mono ?_
 rintro e w1 ⟨rfl, hK1⟩
 have HK : Hid (Keeps (fun _ => False) w w1) := HW.out.2.trans hK1 fun _ _ h => h
 clear hK1 HC
 go_wp2
 go_ret
 exact ⟨rfl, HK.out⟩
theorem may_step {rs : List Rgn} {j : Nat} {y : Rgn} (h : MayB (rs.take j)) (hy : rs[j]? = some y) (ho : y.ok) (hm : ((rs.take j).any fun o => decide (meets y o)) = false) : MayB (rs.take (j + 1)) := by
 have hlen : (rs.take j).length = j := by
  have := (List.getElem?_eq_some_iff.1 hy).1
  simp; omega
 rw [List.take_add_one, hy]
 intro i r hi
 rw [List.getElem?_append] at hi
 split at hi
 ·
  rename_i hlt
  refine ⟨(h i r hi).1, fun k o hk hko => (h i r hi).2 k o hk ?_⟩
  rw [List.getElem?_append_left (by omega)] at hko
  exact hko
 ·
  rename_i hge
  have hi0 : i - (rs.take j).length = 0 := by
   cases hd : i - (rs.take j).length with
   | zero => rfl
   | succ d => rw [hd] at hi; simp at hi
  rw [hi0] at hi
  simp at hi
  subst hi
  refine ⟨ho, fun k o hk hko => ?_⟩
  rw [List.getElem?_append_left (by omega)] at hko
  intro hme
  have : ((rs.take j).any fun o => decide (meets y o)) = true := List.any_eq_true.2 ⟨o, List.mem_of_getElem? hko, decide_eq_true hme⟩
  rw [hm] at this; cases this
theorem may_not_ok {rs : List Rgn} {j : Nat} {y : Rgn} (hy : rs[j]? = some y) (ho : ¬ y.ok) : ¬ MayB rs := fun h => ho (h j y hy).1
theorem may_not_meet {rs : List Rgn} {j : Nat} {y : Rgn} (hy : rs[j]? = some y) (hm : ((rs.take j).any fun o => decide (meets y o)) = true) : ¬ MayB rs := by
 intro h
 obtain ⟨o, ho, hd⟩ := List.any_eq_true.1 hm
 obtain ⟨k, hk⟩ := List.mem_iff_getElem?.1 ho
 rw [List.getElem?_take] at hk
 split at hk
 ·
  exact (h j y hy).2 k o (by assumption) hk (of_decide_eq_true hd)
 ·
  simp at hk
theorem may_ok {rs : List Rgn} (h : MayB rs) : ∀ o, o ∈ rs → o.ok := fun o ho => by
 obtain ⟨k, hk⟩ := List.mem_iff_getElem?.1 ho
 exact (h k o hk).1
set_option maxHeartbeats 4000000 in
theorem mayBe_any (a : Option Addr) (rs : List Rgn) (c : Nat) (w : World) (hl : rs.length ≤ c ∧ c ≤ maxLen) (hs : SegR w a rs) (hf : ∀ r, r ∈ rs → r.Fine) :
  Calls Tryz.prog 99 #[.slice a rs.length c] w fun e w' => (∃ b, e = .returned (.bool b) ∧ (b = true ↔ MayB rs)) ∧ Keeps (fun _ => False) w w' := by
 obtain ⟨L, hL⟩ : ∃ L, L = rs.length := ⟨_, rfl⟩
 have HS : Hid (SegR w a rs ∧ L = rs.length ∧ (L ≤ c ∧ c ≤ maxLen) ∧ ∀ r, r ∈ rs → r.Fine) := ⟨hs, hL, by rw [hL]; exact hl, hf⟩
 have hc2 : (L : Int) ≤ c := by omega
 have hc3 : (c : Int) ≤ 9223372036854775807 := by unfold maxLen at hl; omega
 rw [← hL]
 clear hl hs hL hf
 go_enter Tryz.func99, Tryz.ntmps99
 go_wp2
 go_loopw [7] (fun i wr => ∃ j : Nat, j ≤ L ∧ i = .int .i64 j ∧ MayB (rs.take j) ∧ Keeps (fun _ => False) w wr) (fun i _ => L - (intOf i).toNat)
 case atStart => exact ⟨0, by omega, rfl, by intro i r h; simp at h, Keeps.refl _ _⟩
 case round =>
  obtain ⟨j, hj, rfl, hp, hK⟩ := hrel
  by_cases hlt : j < L
  ·
   obtain ⟨y, hy⟩ : ∃ y, rs[j]? = some y := ⟨_, List.getElem?_eq_getElem (by have := HS.out.2.1; omega)⟩
   obtain ⟨g, o, rfl, hg⟩ := HS.out.1.at hy
   obtain ⟨y0, y1, y2, y3⟩ := hg.kept hK fun h => h
   obtain ⟨X, hX⟩ : ∃ X, X = wr.alloc (.cells #[.int .i64 y.page, .int .i64 y.pages, .int .i64 y.frame, .int .i64 y.rights] 81) := ⟨_, rfl⟩
   have hKX : Keeps (fun _ => False) w X := by rw [hX]; exact hK.alloc _
   have hBX : Blk X wr.heap.size y.vs 81 := by rw [hX]; exact Blk.new wr _ 81
   have HJ : Hid (MayB (rs.take j) ∧ Keeps (fun _ => False) w X ∧ rs[j]? = some y ∧ Blk X wr.heap.size y.vs 81) := ⟨hp, hKX, hy, hBX⟩
   have HX : Hid (X = _) := hX
   have z0 := hBX.cell (i := 0) rfl
   have z1 := hBX.cell (i := 1) rfl
   have z2 := hBX.cell (i := 2) rfl
   have z3 := hBX.cell (i := 3) rfl
   have HM := fun w' => rmay_any y w' (HS.out.2.2.2 y (List.mem_of_getElem? hy))
   have hlt' : (j : Int) < L := by omega
   have hjc : (j : Int) ≤ c := by omega
   clear hp hK hy hg hX hKX hBX
   by_cases hm : y.ok
   ·
    rw [decide_eq_true hm] at HM
    have HM : Hid (∀ w', Calls _ _ _ _ _) := HM
    have HMY : Hid y.ok := hm
    clear hm
    have HH : Hid (∀ w', Keeps (fun _ => False) w w' → Calls Tryz.prog 144 #[y.v, .slice (some ⟨g, o, none⟩) j c] w' _) := fun w' hKw => by
     have := meetsOne_any y (some ⟨g, o, none⟩) (rs.take j) c w' ⟨by have := HS.out.2.2.1; simp; omega, HS.out.2.2.1.2⟩ ((HS.out.1.grown hKw).take j) HMY.out (may_ok HJ.out.1)
     rw [show (rs.take j).length = j by have := HS.out.2.1; simp; omega] at this
     exact this
    go_wp2_with fail
    rw [← HX.out]
    go_region_held3 (fun w' => w'.cell? ⟨wr.heap.size, 0, none⟩ = some (.int .i64 y.page) ∧ w'.cell? ⟨wr.heap.size, 1, none⟩ = some (.int .i64 y.pages) ∧ w'.cell? ⟨wr.heap.size, 2, none⟩ = some (.int .i64 y.frame) ∧ w'.cell? ⟨wr.heap.size, 3, none⟩ = some (.int .i64 y.rights)) (first | exact hS | exact HZ2.out | go_keep)
     (first
      | (go_at_call 143; refine (HM.out _).mono ?_; rintro r w1 ⟨rfl, hK1⟩; have hKw : Keeps (fun _ => False) w w1 := HJ.out.2.1.drew.trans hK1 fun _ _ h => h; have HK1 : Hid (Keeps (fun _ => False) w w1) := hKw; have hB1 := HJ.out.2.2.2.drew.kept hK1 fun h => h; have hS : w1.cell? ⟨wr.heap.size, 0, none⟩ = some (.int .i64 y.page) ∧ w1.cell? ⟨wr.heap.size, 1, none⟩ = some (.int .i64 y.pages) ∧ w1.cell? ⟨wr.heap.size, 2, none⟩ = some (.int .i64 y.frame) ∧ w1.cell? ⟨wr.heap.size, 3, none⟩ = some (.int .i64 y.rights) := ⟨hB1.cell rfl, hB1.cell rfl, hB1.cell rfl, hB1.cell rfl⟩; have HB1 : Hid (Blk w1 wr.heap.size y.vs 81) := hB1; clear hK1 hKw hB1)
      | (go_at_call 144; refine (HH.out _ HK1.out).mono ?_; rintro r w2 ⟨rfl, hK2⟩; have HK2 : Hid (Keeps (fun _ => False) w w2) := HK1.out.trans hK2 fun _ _ h => h; have HZ2 : Hid (w2.cell? ⟨wr.heap.size, 0, none⟩ = some (.int .i64 y.page) ∧ w2.cell? ⟨wr.heap.size, 1, none⟩ = some (.int .i64 y.pages) ∧ w2.cell? ⟨wr.heap.size, 2, none⟩ = some (.int .i64 y.frame) ∧ w2.cell? ⟨wr.heap.size, 3, none⟩ = some (.int .i64 y.rights)) := (let hB2 := HB1.out.kept hK2 fun h => h; ⟨hB2.cell rfl, hB2.cell rfl, hB2.cell rfl, hB2.cell rfl⟩); clear hK2))
    clear y0 y1 y2 y3 z0 z1 z2 z3
    cases hf : (rs.take j).any fun o => decide (meets y o)
    ·
     have HP : Hid (MayB (rs.take (j + 1))) := may_step HJ.out.1 HJ.out.2.2.1 HMY.out hf
     clear hf HH
     go_wp2
     go_roundw
     case rel => exact ⟨j + 1, by omega, by go_num, HP.out, HK2.out⟩
     case measure => simp [intOf]; omega
    ·
     have HB : Hid (¬ MayB rs) := may_not_meet HJ.out.2.2.1 hf
     clear hf HH
     go_wp2
     go_ret
     exact ⟨⟨_, rfl, by simpa using HB.out⟩, HK2.out⟩
   ·
    rw [decide_eq_false hm] at HM
    have HM : Hid (∀ w', Calls _ _ _ _ _) := HM
    have HB : Hid (¬ MayB rs) := may_not_ok HJ.out.2.2.1 hm
    clear hm
    go_wp2_with fail
    rw [← HX.out]
    refine wp_region_held_drew (S := (fun w' => w'.cell? ⟨wr.heap.size, 0, none⟩ = some (.int .i64 y.page) ∧ w'.cell? ⟨wr.heap.size, 1, none⟩ = some (.int .i64 y.pages) ∧ w'.cell? ⟨wr.heap.size, 2, none⟩ = some (.int .i64 y.frame) ∧ w'.cell? ⟨wr.heap.size, 3, none⟩ = some (.int .i64 y.rights))) Tryz.mixed ⟨z0, z1, z2, z3⟩ (fun hHeld => ?_)
    simp only [t1, t2, List.length_nil, Nat.reduceAdd, t4, Array.replicate_zero, t6, List.append_toArray, List.nil_append, t8]
    refine tk 0 (y.v) hHeld ?_
    simp only [Act.put, s1, s2, s3]
    refine rd 1 fun K hK => ?_
    go_simp
    refine (HM.out _).mono ?_
    rintro r w1 ⟨rfl, hK1⟩
    have hKw : Keeps (fun _ => False) w w1 := HJ.out.2.1.drew.trans hK1 fun _ _ h => h
    have HK1 : Hid (Keeps (fun _ => False) w w1) := hKw
    have hB1 := HJ.out.2.2.2.drew.kept hK1 fun h => h
    have hS : w1.cell? ⟨wr.heap.size, 0, none⟩ = some (.int .i64 y.page) ∧ w1.cell? ⟨wr.heap.size, 1, none⟩ = some (.int .i64 y.pages) ∧ w1.cell? ⟨wr.heap.size, 2, none⟩ = some (.int .i64 y.frame) ∧ w1.cell? ⟨wr.heap.size, 3, none⟩ = some (.int .i64 y.rights) := ⟨hB1.cell rfl, hB1.cell rfl, hB1.cell rfl, hB1.cell rfl⟩
    clear hK1 hKw hB1
    refine hK.out _ _ hS (fun hHeld => ?_)
    simp only [Act.put, s1, s2, s3]
    refine tk 2 (.bool true) hHeld ?_
    refine tk 3 (.bool true) hHeld ?_
    refine tn 4 hHeld ?_
    refine tn 5 hHeld ?_
    refine tn 6 hHeld ?_
    refine tn 7 hHeld ?_
    refine tn 8 hHeld ?_
    refine tk 9 (.bool true) hHeld ?_
    simp only [Act.put, s1, s2, s3]
    refine wpAnyH_done (by kernel_rfl) ?_ _
    clear y0 y1 y2 y3 z0 z1 z2 z3 hS hHeld hK
    go_wp2
    go_ret
    exact ⟨⟨_, rfl, by simpa using HB.out⟩, HK1.out⟩
  ·
   obtain rfl : j = L := by omega
   have HH : Hid (MayB rs ∧ Keeps (fun _ => False) w wr) := by
    rw [List.take_of_length_le (by have := HS.out.2.1; omega)] at hp
    exact ⟨hp, hK⟩
   clear hp hK
   go_wp2
   go_ret
   exact ⟨⟨_, rfl, by simpa using HH.out.1⟩, HH.out.2⟩
end Mq
end Go.Proofs.YtglhfijgnfignaaGreat
