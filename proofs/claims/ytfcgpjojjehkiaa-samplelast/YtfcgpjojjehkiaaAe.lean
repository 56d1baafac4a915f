import Derived.Test.YtfcgpjojjehkiaaAd
import Derived.Test.YtfcgpjojjehkiaaIn
namespace Go.Proofs.Ytfcgpjojjehkiaa
open Go.RowKit
set_option linter.unusedVariables false

/-- Where SampleLast stands. -/
structure Ls (w wr : World) (b g n k : Nat) (ap : Option Addr) (sv hv : Value) (xs st hd : List UInt32) (f : Bool) : Prop where
  ch : Ch xs n k st hd f
  mm : Mm wr b g xs
  pt : SegI wr ap (ptL n k)
  ptn : ∀ x, ap = some x → x.block ≠ g
  sv : ∃ a c, sv = .slice a st.length c ∧ SegW wr a st ∧ ∀ x, a = some x → x.block ≠ g
  hv : ∃ a c, hv = .slice a hd.length c ∧ SegW wr a hd ∧ ∀ x, a = some x → x.block ≠ g
  k : Keeps (fun _ => False) w wr
  lo : w.heap.size ≤ g

theorem Ls.grown {w wr w' : World} {b g n k : Nat} {ap : Option Addr} {sv hv : Value} {xs st hd : List UInt32} {f : Bool} (h : Ls w wr b g n k ap sv hv xs st hd f) (kk : Keeps (fun _ => False) wr w') : Ls w w' b g n k ap sv hv xs st hd f := by
  obtain ⟨a1, c1, e1, s1, n1⟩ := h.sv
  obtain ⟨a2, c2, e2, s2, n2⟩ := h.hv
  exact ⟨h.ch, h.mm.kept kk (fun e => e) (fun e => e), h.pt.kept kk (fun _ _ e => e), h.ptn, ⟨a1, c1, e1, s1.kept kk (fun _ _ e => e), n1⟩, ⟨a2, c2, e2, s2.kept kk (fun _ _ e => e), n2⟩, h.k.trans kk fun _ _ e => e, h.lo⟩

/-- Behind a call that wrote the memory's words. -/
theorem Ls.wrote {w wr w' : World} {b g n k : Nat} {ap : Option Addr} {sv hv sv' hv' : Value} {xs st hd ys st' hd' : List UInt32} {f f' : Bool} (h : Ls w wr b g n k ap sv hv xs st hd f) (hm : Mm w' b g ys) (kk : Keeps (· = g) wr w') (hc : Ch ys n k st' hd' f')
    (h1 : (sv' = sv ∧ st' = st) ∨ (sv' = .slice none 0 0 ∧ st' = [])) (h2 : (hv' = hv ∧ hd' = hd) ∨ (hv' = sv ∧ hd' = st)) : Ls w w' b g n k ap sv' hv' ys st' hd' f' := by
  obtain ⟨a1, c1, e1, s1, n1⟩ := h.sv
  obtain ⟨a2, c2, e2, s2, n2⟩ := h.hv
  have q1 : ∃ a c, sv = .slice a st.length c ∧ SegW w' a st ∧ ∀ x, a = some x → x.block ≠ g := ⟨a1, c1, e1, s1.kept kk n1, n1⟩
  refine ⟨hc, hm, h.pt.kept kk h.ptn, h.ptn, ?_, ?_, h.k.trans kk (fun b hb e => by have := h.lo; omega), h.lo⟩
  · rcases h1 with ⟨rfl, rfl⟩ | ⟨rfl, rfl⟩
    · exact q1
    · exact ⟨none, 0, rfl, .inl rfl, fun x e => by cases e⟩
  · rcases h2 with ⟨rfl, rfl⟩ | ⟨rfl, rfl⟩
    · exact ⟨a2, c2, e2, s2.kept kk n2, n2⟩
    · exact q1

set_option maxRecDepth 20000 in
set_option maxHeartbeats 4000000 in
theorem sampleLast_any (n0 n1 : Nat) (hn0 : n0 < 256) (hn1 : n1 < 256) (sa : Option Addr) (sc : Nat) (os : List Stp) (w : World) (hs : SegStp w sa os) (hl : os.length ≤ sc ∧ sc ≤ maxLen) (hok : ∀ o ∈ os, o.Ok w) :
    Calls Try.prog 4 #[.int .u8 n0, .int .u8 n1, .slice sa os.length sc] w fun e w' => e = .returned (.bool true) ∧ Keeps (fun _ => False) w w' := by
  have HN := new_in 7 w (by omega) (by omega)
  obtain ⟨g, hg⟩ : ∃ g, g = w.heap.size := ⟨_, rfl⟩
  obtain ⟨b, hb⟩ : ∃ b, b = w.heap.size + 1 := ⟨_, rfl⟩
  rw [← hb, ← hg] at HN
  have HN : Hid (Calls _ _ _ _ _) := HN
  obtain ⟨n, hn⟩ : ∃ n, n = 1 + n0 % 16 := ⟨_, rfl⟩
  obtain ⟨k, hk⟩ : ∃ k, k = 1 + n1 % 4 := ⟨_, rfl⟩
  have HP : Hid (SegStp w sa os ∧ (∀ o ∈ os, o.Ok w) ∧ (1 ≤ n ∧ n ≤ 16) ∧ (1 ≤ k ∧ k ≤ 4) ∧ g = w.heap.size) := ⟨hs, hok, by omega, by omega, hg⟩
  obtain ⟨N, hN⟩ : ∃ N, N = os.length := ⟨_, rfl⟩
  have HNN : Hid (N = os.length) := hN
  rw [← hN]
  have e1 : (1 : Int) + (n0 : Int) % 16 = (n : Int) := by omega
  have e2 : (1 : Int) + (n1 : Int) % 4 = (k : Int) := by omega
  have e3 : Int.tmod (n0 : Int) 16 = (n0 : Int) % 16 := Int.tmod_eq_emod_of_nonneg (by omega)
  have e4 : Int.tmod (n1 : Int) 4 = (n1 : Int) % 4 := Int.tmod_eq_emod_of_nonneg (by omega)
  have b0 : (n0 : Int) < 256 := by omega
  have b1 : (n1 : Int) < 256 := by omega
  have b2 : (N : Int) ≤ 9223372036854775807 := by have := hl.1; have := hl.2; unfold maxLen at this; omega
  clear hs hl hok hn0 hn1 hg hb hn hk hN
  go_enter Try.func4, Try.ntmps4
  go_wp2_with fail
  refine HN.out.mono ?_
  rintro e w1 ⟨rfl, hM, hk1⟩
  have HM1 : Hid (Mm w1 b g (List.replicate (7 * 16) 0) ∧ Keeps (fun _ => False) w w1 ∧ Own w1 w1 (.slice none 0 0) (ptL n 0)) := ⟨hM, hk1, ⟨⟨rfl, .inl ⟨rfl, rfl⟩⟩, (fun k e => by cases e), Keeps.refl _ _⟩⟩
  clear hM hk1 HN
  go_wp2
  go_loopw [11, 33] (fun v i wr => ∃ j : Nat, j ≤ k ∧ i = .int .i64 j ∧ Own w1 wr v (ptL n j)) (fun _ i _ => k - (intOf i).toNat)
  case atStart => exact ⟨0, by omega, rfl, HM1.out.2.2⟩
  case round =>
    obtain ⟨j, hj, rfl, hO⟩ := hrel
    by_cases hlt : j < k
    · have hlt' : (j : Int) < k := by omega
      have hk4 := HP.out.2.2.2.1
      have hn16 := HP.out.2.2.1
      have hq1 := ptAt_lt hn16.2 (i := j) (by omega)
      have hq : (5 : Int) + (n : Int) + (j : Int) * (3 + (n : Int)) = (ptAt n j : Int) := by unfold ptAt; push_cast; omega
      obtain ⟨v', W', hap, hO'⟩ := hO.step (by rw [ptL_length]; omega) (ptAt n j : Int)
      rw [← ptL_snoc] at hO'
      obtain ⟨av, cv, rfl, _, _⟩ := hO.form
      rw [ptL_length] at hap
      rw [ptL_length]
      obtain ⟨q, hqq⟩ : ∃ q, q = ptAt n j := ⟨_, rfl⟩
      rw [← hqq] at hap hq hq1
      have b5 : (n : Int) ≤ 16 := by omega
      have b6 : 0 ≤ (j : Int) * (3 + (n : Int)) := Int.mul_nonneg (by omega) (by omega)
      have b7 : (j : Int) * (3 + (n : Int)) ≤ 200 := by omega
      have HAP : Hid (∀ ty, (Builtin.append_ #[33, 33] ty #[.slice av j cv, .slice (some ⟨wr.heap.size, 0, none⟩) 1 1]).run Try.prog (wr.alloc (.cells #[.int .i64 (q : Int)] 3)) = .ok v' W') := hap
      have HO' : Hid (Own w1 W' v' (ptL n (j + 1)) ∧ (5 : Int) + (n : Int) + (j : Int) * (3 + (n : Int)) = (q : Int)) := ⟨hO', hq⟩
      clear hap hO' hO hq1 hj hqq hk4 hn16 hq
      go_wp2_with (at_builtin; rw [HO'.out.2]; go_must (refine wpList_append_run rfl (.tmp 36) (.tmp 46) 33 33 rfl (.slice av j cv) (.slice (some ⟨wr.heap.size, 0, none⟩) 1 1) v' W' rfl rfl HAP.out ?_; refine Hid.out ?_))
      unfold Hid
      go_wp2
      go_roundw
      case rel => exact ⟨j + 1, by omega, by go_num, HO'.out.1⟩
      case measure => simp [intOf]; omega
    · obtain rfl : j = k := by omega
      obtain ⟨ap, cp, rfl, hI, hIn⟩ := hO.form
      rw [ptL_length]
      have hw1g : g < w1.heap.size := HM1.out.1.row.lt
      have HL0 : Hid (Ls w wr b g n j ap (.slice none 0 0) (.slice none 0 0) (List.replicate (7 * 16) 0) [] [] false) := by
        refine ⟨Ch.new n j HP.out.2.2.1.1 HP.out.2.2.1.2 HP.out.2.2.2.1.1 HP.out.2.2.2.1.2, HM1.out.1.kept hO.k (fun e => e) (fun e => e), hI, (fun x e => by have := hIn x e; omega), ⟨none, 0, rfl, .inl rfl, fun x e => by cases e⟩, ⟨none, 0, rfl, .inl rfl, fun x e => by cases e⟩, HM1.out.2.1.trans hO.k (fun _ _ e => e), by rw [HP.out.2.2.2.2]; exact Nat.le_refl _⟩
      clear hO hI hIn hw1g hj hlt
      go_wp2
      go_loopw [13, 14, 15, 51] (fun sv hv fv i wr => ∃ (m : Nat) (xs st hd : List UInt32) (f : Bool), m ≤ N ∧ i = .int .i64 m ∧ fv = .bool f ∧ Ls w wr b g n j ap sv hv xs st hd f) (fun _ _ _ i _ => N - (intOf i).toNat)
      case atStart => exact ⟨0, _, _, _, _, by omega, rfl, rfl, HL0.out⟩
      case round =>
        clear HL0 HM1
        obtain ⟨m, xs, st, hd, f, hm, rfl, rfl, hL⟩ := hrel
        by_cases hlt : m < N
        · have hlt' : (m : Int) < N := by omega
          obtain ⟨o, ho⟩ : ∃ o, os[m]? = some o := ⟨_, List.getElem?_eq_getElem (by have := HNN.out; omega)⟩
          have hoo := (HP.out.2.1 o (List.mem_of_getElem? ho)).grown hL.k
          rcases HP.out.1.grown hL.k with h0 | ⟨gs, o', rfl, hc⟩
          · rw [h0] at ho; simp at ho
          have hca := hc m o ho
          have c0 := hca 0 _ rfl
          have c1 := hca 1 _ rfl
          rw [Nat.add_zero] at c0
          obtain ⟨a1, k1, rfl, s1, n1⟩ := hL.sv
          obtain ⟨a2, k2, rfl, s2, n2⟩ := hL.hv
          obtain ⟨d, ma, mc, ms⟩ := o
          simp only at c0 c1
          have bn : (n : Int) ≤ 16 := by have := HP.out.2.2.1; omega
          have bn1 : 1 ≤ (n : Int) := by have := HP.out.2.2.1; omega
          cases d
          · by_cases hms : ms = []
            · subst hms
              have e8 : ([] : List UInt32).length = 0 := rfl
              simp only [e8] at c1
              by_cases hst : st = []
              · have HLx : Hid (Ls w wr b g n j ap (.slice a1 st.length k1) (.slice a2 hd.length k2) xs st hd f) := hL
                clear hL hoo hc hca s1 n1 s2 n2 hm ho
                have l0 : st.length = 0 := by rw [hst]; rfl
                rw [l0] at HLx ⊢
                have e7 : ((min 1 st.length : Nat) : Int) = 0 := by rw [l0]; rfl
                have HSt := staged_any false b g (xs) 3 n wr HLx.out.mm (by omega)
                rw [HLx.out.ch.stN, HLx.out.ch.lkS, e7] at HSt
                have HSt : Hid (Calls _ _ _ _ _) := HSt
                go_wp2_with fail
                refine HSt.out.mono ?_
                rintro e w5 ⟨rfl, hk5⟩
                have HL5 := HLx.out.grown hk5
                obtain ⟨a9, c9, e9, s9, n9⟩ := HL5.hv
                have HAl := all_any b g (xs) n j (st) (hd) f ap cp a2 k2 w5 HL5.ch HL5.mm HL5.pt (by have := e9; simp at this; rw [this.1]; exact s9)
                have HAl : Hid (Calls _ _ _ _ _) := HAl
                have HL5 : Hid (Ls _ _ _ _ _ _ _ _ _ _ _ _ _) := HL5
                clear hk5 HSt e9 s9 n9
                go_wp2_with fail
                refine HAl.out.mono ?_
                rintro e w6 ⟨rfl, hk6⟩
                have HL6 : Hid (Ls _ _ _ _ _ _ _ _ _ _ _ _ _) := HL5.out.grown hk6
                clear hk6 HAl HL5
                go_wp2
                go_roundw
                case rel => exact ⟨m + 1, _, _, _, _, by omega, by go_num, rfl, HL6.out⟩
                case measure => simp [intOf]; omega

              · have HLx : Hid (Ls w wr b g n j ap (.slice a1 st.length k1) (.slice a2 hd.length k2) xs st hd f) := hL
                clear hL hoo hc hca s1 n1 s2 n2 hm ho
                have l0 : 1 ≤ (st.length : Int) := by have : st.length ≠ 0 := fun x => hst (List.eq_nil_of_length_eq_zero x); omega
                have e7 : ((min 1 st.length : Nat) : Int) = 1 := by rw [Nat.min_eq_left (by omega)]; rfl
                have HSt := staged_any false b g (xs) 3 n wr HLx.out.mm (by omega)
                rw [HLx.out.ch.stN, HLx.out.ch.lkS, e7] at HSt
                have HSt : Hid (Calls _ _ _ _ _) := HSt
                go_wp2_with fail
                refine HSt.out.mono ?_
                rintro e w5 ⟨rfl, hk5⟩
                have HL5 := HLx.out.grown hk5
                obtain ⟨a9, c9, e9, s9, n9⟩ := HL5.hv
                have HAl := all_any b g (xs) n j (st) (hd) f ap cp a2 k2 w5 HL5.ch HL5.mm HL5.pt (by have := e9; simp at this; rw [this.1]; exact s9)
                have HAl : Hid (Calls _ _ _ _ _) := HAl
                have HL5 : Hid (Ls _ _ _ _ _ _ _ _ _ _ _ _ _) := HL5
                clear hk5 HSt e9 s9 n9
                go_wp2_with fail
                refine HAl.out.mono ?_
                rintro e w6 ⟨rfl, hk6⟩
                have HL6 : Hid (Ls _ _ _ _ _ _ _ _ _ _ _ _ _) := HL5.out.grown hk6
                clear hk6 HAl HL5
                go_wp2
                go_roundw
                case rel => exact ⟨m + 1, _, _, _, _, by omega, by go_num, rfl, HL6.out⟩
                case measure => simp [intOf]; omega

            · by_cases hK : n ≤ ms.length
              · rcases hoo.s with h0 | ⟨gm, om, e5, hcm⟩
                · exact absurd h0 hms
                obtain rfl : ma = some ⟨gm, om, none⟩ := e5
                have hlm : ms.length ≤ mc ∧ mc ≤ maxLen := hoo.l
                have hlt5 : ms.length ≠ 0 := fun x => hms (List.eq_nil_of_length_eq_zero x)
                have hn5 := HP.out.2.2.1
                have hKl : (ms.take n).length = n := by rw [List.length_take]; omega
                have hC5 : ∀ W, Keeps (fun _ => False) wr W → Calls Try.prog 16 #[.slice (some ⟨gm, om, none⟩) n mc] W fun e w' => e = .returned (.slice (some ⟨W.heap.size, 0, none⟩) n n) ∧ Blk w' W.heap.size (wvs (ms.take n)) 34 ∧ Keeps (fun _ => False) wr w' := by
                  intro W kk
                  have hsg : SegW W (some ⟨gm, om, none⟩) (ms.take n) := by
                    refine .inr ⟨gm, om, rfl, fun i hi => ?_⟩
                    have hi' : i < ms.length := by rw [hKl] at hi; omega
                    rw [cell_kept (hcm i hi') kk fun e => e]
                    simp
                  have := copyWords_any (some ⟨gm, om, none⟩) mc (ms.take n) W hsg (by rw [hKl]; omega)
                  rw [hKl] at this
                  exact this.mono fun e w' ⟨q1, q2, q3⟩ => ⟨q1, q2, kk.trans q3 fun _ _ e => e⟩
                have hPE := hL.ch.putE (ms := ms.take n) (by rw [hKl]; omega) (by rw [hKl]; omega)
                have hPC := hL.ch.put (ms := ms.take n) (by rw [hKl]; omega) (by rw [hKl]; omega)
                have hP5 : ∀ W G, Keeps (fun _ => False) wr W → Blk W G (wvs (ms.take n)) 34 → Calls Try.prog 17 #[.pointer (some ⟨b, 0, none⟩), .int .i64 3, .int .i64 n, .slice (some ⟨G, 0, none⟩) n n] W (PutP W b g xs 0 (putX false xs 3 n (ms.take n))) := by
                  intro W G kk hG
                  have := put_any false b g xs 3 n (some ⟨G, 0, none⟩) n (ms.take n) W (hL.mm.kept kk (fun e => e) (fun e => e)) (segW_of_blk hG) (by omega)
                  rw [hKl] at this hPE
                  rw [hPE] at this
                  exact this
                have HC5 : Hid (∀ W, Keeps (fun _ => False) wr W → Calls Try.prog 16 #[.slice (some ⟨gm, om, none⟩) n mc] W fun e w' => e = .returned (.slice (some ⟨W.heap.size, 0, none⟩) n n) ∧ Blk w' W.heap.size (wvs (ms.take n)) 34 ∧ Keeps (fun _ => False) wr w') := hC5
                have HP5 : Hid (∀ W G, Keeps (fun _ => False) wr W → Blk W G (wvs (ms.take n)) 34 → Calls Try.prog 17 #[.pointer (some ⟨b, 0, none⟩), .int .i64 3, .int .i64 n, .slice (some ⟨G, 0, none⟩) n n] W (PutP W b g xs 0 (putX false xs 3 n (ms.take n)))) := hP5
                have HL : Hid (Ls w wr b g n j ap (.slice a1 st.length k1) (.slice a2 hd.length k2) xs st hd f ∧ Ch (putX false xs 3 n (ms.take n)) n j (ms.take n) hd f ∧ (ms.take n).length = n) := ⟨hL, hPC, hKl⟩
                have hKn : (n : Int) ≤ (ms.length : Int) := by omega
                have hKx : (ms.length < n) = False := eq_false (by omega)
                have l9 : (n : Int) ≤ mc := by omega
                have l10 : n ≤ mc := by omega
                have l5 : 0 < (ms.length : Int) := by omega
                have l6 : (ms.length : Int) ≤ mc := by omega
                have l7 : (mc : Int) ≤ 9223372036854775807 := by have := hlm.2; unfold maxLen at this; omega
                have hS : wr.cell? ⟨gs, o' + m * 2 + 1, none⟩ = some (.slice (some ⟨gm, om, none⟩) ms.length mc) := c1
                have HCk : Hid (∀ W, Keeps (fun _ => False) wr W → W.cell? ⟨gs, o' + m * 2 + 1, none⟩ = some (.slice (some ⟨gm, om, none⟩) ms.length mc)) := fun W kk => cell_kept hS kk fun e => e
                clear hL hoo hc hca s1 n1 s2 n2 hm ho hcm hlm hlt5 hn5 hKl hC5 hPE hPC hP5
                go_wp2
                go_region_held3 (fun w' => w'.cell? ⟨gs, o' + m * 2 + 1, none⟩ = some (.slice (some ⟨gm, om, none⟩) ms.length mc)) (first | exact hS1 | exact hS | go_keep)
                  (first | (go_at_call 16; refine (HC5.out _ ((Keeps.refl _ wr).drewN _)).mono ?_; rintro e w2 ⟨rfl, hB2, hk2⟩; have hS1 := HCk.out w2 hk2))
                obtain ⟨G, hG⟩ : ∃ G, G = wr.heap.size := ⟨_, rfl⟩
                have hB3 : Blk w2 G (wvs (ms.take n)) 34 := by rw [hG]; exact hB2
                have HPc : Hid (Calls _ _ _ _ _) := HP5.out w2 G hk2 hB3
                have HB3 : Hid (Keeps (fun _ => False) wr w2 ∧ Blk w2 G (wvs (ms.take n)) 34 ∧ G = wr.heap.size) := ⟨hk2, hB3, hG⟩
                rw [← hG]
                clear hB2 hk2 hB3 hG hS hS1 HP5 HC5 HCk c1 c0
                go_wp2_with fail
                refine HPc.out.mono ?_
                rintro e w3 ⟨rfl, hM3, hk3⟩
                have HLx : Hid (Ls w w3 b g n j ap (.slice (some ⟨G, 0, none⟩) n n) (.slice a2 hd.length k2) (putX false xs 3 n (ms.take n)) (ms.take n) hd f) := by
                  have h1 := HL.out.1.grown HB3.out.1
                  have hGg : G ≠ g := by have := HL.out.1.mm.row.lt; have := HB3.out.2.2; omega
                  obtain ⟨a8, c8, e8, s8, n8⟩ := h1.hv
                  exact ⟨HL.out.2.1, hM3, h1.pt.kept hk3 h1.ptn, h1.ptn, ⟨_, _, by rw [HL.out.2.2], segW_of_blk (HB3.out.2.1.kept hk3 hGg), fun x e => by cases e; exact hGg⟩, ⟨a8, c8, e8, s8.kept hk3 n8, n8⟩, h1.k.trans hk3 (fun b hb e => by have := h1.lo; omega), h1.lo⟩
                have e7 : ((min 1 (ms.take n).length : Nat) : Int) = 1 := by rw [HL.out.2.2, Nat.min_eq_left (by omega)]; rfl
                have l11 : 1 ≤ (n : Int) := by omega
                clear hM3 hk3 HPc HL HB3
                have HSt := staged_any false b g (putX false xs 3 n (ms.take n)) 3 n w3 HLx.out.mm (by omega)
                rw [HLx.out.ch.stN, HLx.out.ch.lkS, e7] at HSt
                have HSt : Hid (Calls _ _ _ _ _) := HSt
                go_wp2_with fail
                refine HSt.out.mono ?_
                rintro e w5 ⟨rfl, hk5⟩
                have HL5 := HLx.out.grown hk5
                obtain ⟨a9, c9, e9, s9, n9⟩ := HL5.hv
                have HAl := all_any b g (putX false xs 3 n (ms.take n)) n j (ms.take n) (hd) f ap cp a2 k2 w5 HL5.ch HL5.mm HL5.pt (by have := e9; simp at this; rw [this.1]; exact s9)
                have HAl : Hid (Calls _ _ _ _ _) := HAl
                have HL5 : Hid (Ls _ _ _ _ _ _ _ _ _ _ _ _ _) := HL5
                clear hk5 HSt e9 s9 n9
                go_wp2_with fail
                refine HAl.out.mono ?_
                rintro e w6 ⟨rfl, hk6⟩
                have HL6 : Hid (Ls _ _ _ _ _ _ _ _ _ _ _ _ _) := HL5.out.grown hk6
                clear hk6 HAl HL5
                go_wp2
                go_roundw
                case rel => exact ⟨m + 1, _, _, _, _, by omega, by go_num, rfl, HL6.out⟩
                case measure => simp [intOf]; omega

              · rcases hoo.s with h0 | ⟨gm, om, e5, hcm⟩
                · exact absurd h0 hms
                obtain rfl : ma = some ⟨gm, om, none⟩ := e5
                have hlm : ms.length ≤ mc ∧ mc ≤ maxLen := hoo.l
                have hlt5 : ms.length ≠ 0 := fun x => hms (List.eq_nil_of_length_eq_zero x)
                have hn5 := HP.out.2.2.1
                have hKl : (ms.take ms.length).length = ms.length := by rw [List.length_take]; omega
                have hC5 : ∀ W, Keeps (fun _ => False) wr W → Calls Try.prog 16 #[.slice (some ⟨gm, om, none⟩) ms.length mc] W fun e w' => e = .returned (.slice (some ⟨W.heap.size, 0, none⟩) ms.length ms.length) ∧ Blk w' W.heap.size (wvs (ms.take ms.length)) 34 ∧ Keeps (fun _ => False) wr w' := by
                  intro W kk
                  have hsg : SegW W (some ⟨gm, om, none⟩) (ms.take ms.length) := by
                    refine .inr ⟨gm, om, rfl, fun i hi => ?_⟩
                    have hi' : i < ms.length := by rw [hKl] at hi; omega
                    rw [cell_kept (hcm i hi') kk fun e => e]
                    simp
                  have := copyWords_any (some ⟨gm, om, none⟩) mc (ms.take ms.length) W hsg (by rw [hKl]; omega)
                  rw [hKl] at this
                  exact this.mono fun e w' ⟨q1, q2, q3⟩ => ⟨q1, q2, kk.trans q3 fun _ _ e => e⟩
                have hPE := hL.ch.putE (ms := ms.take ms.length) (by rw [hKl]; omega) (by rw [hKl]; omega)
                have hPC := hL.ch.put (ms := ms.take ms.length) (by rw [hKl]; omega) (by rw [hKl]; omega)
                have hP5 : ∀ W G, Keeps (fun _ => False) wr W → Blk W G (wvs (ms.take ms.length)) 34 → Calls Try.prog 17 #[.pointer (some ⟨b, 0, none⟩), .int .i64 3, .int .i64 n, .slice (some ⟨G, 0, none⟩) ms.length ms.length] W (PutP W b g xs 0 (putX false xs 3 n (ms.take ms.length))) := by
                  intro W G kk hG
                  have := put_any false b g xs 3 n (some ⟨G, 0, none⟩) ms.length (ms.take ms.length) W (hL.mm.kept kk (fun e => e) (fun e => e)) (segW_of_blk hG) (by omega)
                  rw [hKl] at this hPE
                  rw [hPE] at this
                  exact this
                have HC5 : Hid (∀ W, Keeps (fun _ => False) wr W → Calls Try.prog 16 #[.slice (some ⟨gm, om, none⟩) ms.length mc] W fun e w' => e = .returned (.slice (some ⟨W.heap.size, 0, none⟩) ms.length ms.length) ∧ Blk w' W.heap.size (wvs (ms.take ms.length)) 34 ∧ Keeps (fun _ => False) wr w') := hC5
                have HP5 : Hid (∀ W G, Keeps (fun _ => False) wr W → Blk W G (wvs (ms.take ms.length)) 34 → Calls Try.prog 17 #[.pointer (some ⟨b, 0, none⟩), .int .i64 3, .int .i64 n, .slice (some ⟨G, 0, none⟩) ms.length ms.length] W (PutP W b g xs 0 (putX false xs 3 n (ms.take ms.length)))) := hP5
                have HL : Hid (Ls w wr b g n j ap (.slice a1 st.length k1) (.slice a2 hd.length k2) xs st hd f ∧ Ch (putX false xs 3 n (ms.take ms.length)) n j (ms.take ms.length) hd f ∧ (ms.take ms.length).length = ms.length) := ⟨hL, hPC, hKl⟩
                have hKn : ¬ (n : Int) ≤ (ms.length : Int) := by omega
                have hKm : (ms.length : Int) ≤ (n : Int) := by omega
                have l5 : 0 < (ms.length : Int) := by omega
                have l6 : (ms.length : Int) ≤ mc := by omega
                have l7 : (mc : Int) ≤ 9223372036854775807 := by have := hlm.2; unfold maxLen at this; omega
                have hS : wr.cell? ⟨gs, o' + m * 2 + 1, none⟩ = some (.slice (some ⟨gm, om, none⟩) ms.length mc) := c1
                have HCk : Hid (∀ W, Keeps (fun _ => False) wr W → W.cell? ⟨gs, o' + m * 2 + 1, none⟩ = some (.slice (some ⟨gm, om, none⟩) ms.length mc)) := fun W kk => cell_kept hS kk fun e => e
                clear hL hoo hc hca s1 n1 s2 n2 hm ho hcm hlm hlt5 hn5 hKl hC5 hPE hPC hP5
                go_wp2
                go_region_held3 (fun w' => w'.cell? ⟨gs, o' + m * 2 + 1, none⟩ = some (.slice (some ⟨gm, om, none⟩) ms.length mc)) (first | exact hS1 | exact hS | go_keep)
                  (first | (go_at_call 16; refine (HC5.out _ ((Keeps.refl _ wr).drewN _)).mono ?_; rintro e w2 ⟨rfl, hB2, hk2⟩; have hS1 := HCk.out w2 hk2))
                obtain ⟨G, hG⟩ : ∃ G, G = wr.heap.size := ⟨_, rfl⟩
                have hB3 : Blk w2 G (wvs (ms.take ms.length)) 34 := by rw [hG]; exact hB2
                have HPc : Hid (Calls _ _ _ _ _) := HP5.out w2 G hk2 hB3
                have HB3 : Hid (Keeps (fun _ => False) wr w2 ∧ Blk w2 G (wvs (ms.take ms.length)) 34 ∧ G = wr.heap.size) := ⟨hk2, hB3, hG⟩
                rw [← hG]
                clear hB2 hk2 hB3 hG hS hS1 HP5 HC5 HCk c1 c0
                go_wp2_with fail
                refine HPc.out.mono ?_
                rintro e w3 ⟨rfl, hM3, hk3⟩
                have HLx : Hid (Ls w w3 b g n j ap (.slice (some ⟨G, 0, none⟩) ms.length ms.length) (.slice a2 hd.length k2) (putX false xs 3 n (ms.take ms.length)) (ms.take ms.length) hd f) := by
                  have h1 := HL.out.1.grown HB3.out.1
                  have hGg : G ≠ g := by have := HL.out.1.mm.row.lt; have := HB3.out.2.2; omega
                  obtain ⟨a8, c8, e8, s8, n8⟩ := h1.hv
                  exact ⟨HL.out.2.1, hM3, h1.pt.kept hk3 h1.ptn, h1.ptn, ⟨_, _, by rw [HL.out.2.2], segW_of_blk (HB3.out.2.1.kept hk3 hGg), fun x e => by cases e; exact hGg⟩, ⟨a8, c8, e8, s8.kept hk3 n8, n8⟩, h1.k.trans hk3 (fun b hb e => by have := h1.lo; omega), h1.lo⟩
                have e7 : ((min 1 (ms.take ms.length).length : Nat) : Int) = 1 := by rw [HL.out.2.2, Nat.min_eq_left (by omega)]; rfl
                have l11 : 1 ≤ (ms.length : Int) := by omega
                clear hM3 hk3 HPc HL HB3
                have HSt := staged_any false b g (putX false xs 3 n (ms.take ms.length)) 3 n w3 HLx.out.mm (by omega)
                rw [HLx.out.ch.stN, HLx.out.ch.lkS, e7] at HSt
                have HSt : Hid (Calls _ _ _ _ _) := HSt
                go_wp2_with fail
                refine HSt.out.mono ?_
                rintro e w5 ⟨rfl, hk5⟩
                have HL5 := HLx.out.grown hk5
                obtain ⟨a9, c9, e9, s9, n9⟩ := HL5.hv
                have HAl := all_any b g (putX false xs 3 n (ms.take ms.length)) n j (ms.take ms.length) (hd) f ap cp a2 k2 w5 HL5.ch HL5.mm HL5.pt (by have := e9; simp at this; rw [this.1]; exact s9)
                have HAl : Hid (Calls _ _ _ _ _) := HAl
                have HL5 : Hid (Ls _ _ _ _ _ _ _ _ _ _ _ _ _) := HL5
                clear hk5 HSt e9 s9 n9
                go_wp2_with fail
                refine HAl.out.mono ?_
                rintro e w6 ⟨rfl, hk6⟩
                have HL6 : Hid (Ls _ _ _ _ _ _ _ _ _ _ _ _ _) := HL5.out.grown hk6
                clear hk6 HAl HL5
                go_wp2
                go_roundw
                case rel => exact ⟨m + 1, _, _, _, _, by omega, by go_num, rfl, HL6.out⟩
                case measure => simp [intOf]; omega

          · by_cases hst : st = []
            · have HD := deliver_any false b g xs 3 n ap cp (ptL n j) wr hL.mm hL.pt (by omega) (by
                intro q hq
                obtain ⟨i, hi, rfl⟩ := List.mem_map.1 hq
                have := ptAt_lt (n := n) (by omega) (i := i) (by have := HP.out.2.2.2.1; simp at hi; omega)
                omega)
              rw [ptL_length, hL.ch.dlE] at HD
              have HD : Hid (Calls _ _ _ _ _) := HD
              have hC := hL.ch.deliver
              rw [if_pos hst, decide_eq_false (by simpa using hst)] at hC
              have HL : Hid (Ls w wr b g n j ap (.slice a1 st.length k1) (.slice a2 hd.length k2) xs st hd f ∧ Ch (dlX false xs 3 n (ptL n j)) n j [] hd false) := ⟨hL, hC⟩
              have l0 : st.length = 0 := by rw [hst]; rfl
              rw [l0] at HL ⊢
              clear hL hC hoo hc hca s1 n1 s2 n2 c1 hm ho
              go_wp2_with fail
              refine HD.out.mono ?_
              rintro e w3 ⟨rfl, hM3, hk3⟩
              have HLx : Hid (Ls w w3 b g n j ap (.slice none 0 0) (.slice a2 hd.length k2) (dlX false xs 3 n (ptL n j)) [] hd false) := HL.out.1.wrote hM3 hk3 HL.out.2 (.inr ⟨rfl, rfl⟩) (.inl ⟨rfl, rfl⟩)
              clear hM3 hk3 HD HL c0
              have HSt := staged_any false b g (dlX false xs 3 n (ptL n j)) 3 n w3 HLx.out.mm (by omega)
              rw [HLx.out.ch.stN, HLx.out.ch.lkS, show ((min 1 ([] : List UInt32).length : Nat) : Int) = 0 from rfl] at HSt
              have HSt : Hid (Calls _ _ _ _ _) := HSt
              go_wp2_with fail
              refine HSt.out.mono ?_
              rintro e w5 ⟨rfl, hk5⟩
              have HL5 := HLx.out.grown hk5
              obtain ⟨a9, c9, e9, s9, n9⟩ := HL5.hv
              have HAl := all_any b g (dlX false xs 3 n (ptL n j)) n j ([]) (hd) false ap cp a2 k2 w5 HL5.ch HL5.mm HL5.pt (by have := e9; simp at this; rw [this.1]; exact s9)
              have HAl : Hid (Calls _ _ _ _ _) := HAl
              have HL5 : Hid (Ls _ _ _ _ _ _ _ _ _ _ _ _ _) := HL5
              clear hk5 HSt e9 s9 n9
              go_wp2_with fail
              refine HAl.out.mono ?_
              rintro e w6 ⟨rfl, hk6⟩
              have HL6 : Hid (Ls _ _ _ _ _ _ _ _ _ _ _ _ _) := HL5.out.grown hk6
              clear hk6 HAl HL5
              go_wp2
              go_roundw
              case rel => exact ⟨m + 1, _, _, _, _, by omega, by go_num, rfl, HL6.out⟩
              case measure => simp [intOf]; omega

            · have HD := deliver_any false b g xs 3 n ap cp (ptL n j) wr hL.mm hL.pt (by omega) (by
                intro q hq
                obtain ⟨i, hi, rfl⟩ := List.mem_map.1 hq
                have := ptAt_lt (n := n) (by omega) (i := i) (by have := HP.out.2.2.2.1; simp at hi; omega)
                omega)
              rw [ptL_length, hL.ch.dlE] at HD
              have HD : Hid (Calls _ _ _ _ _) := HD
              have hC := hL.ch.deliver
              rw [if_neg hst, decide_eq_true (by simpa using hst)] at hC
              have HL : Hid (Ls w wr b g n j ap (.slice a1 st.length k1) (.slice a2 hd.length k2) xs st hd f ∧ Ch (dlX false xs 3 n (ptL n j)) n j [] st true) := ⟨hL, hC⟩
              have l0 : 0 < (st.length : Int) := by have : st.length ≠ 0 := fun x => hst (List.eq_nil_of_length_eq_zero x); omega
              clear hL hC hoo hc hca s1 n1 s2 n2 c1 hm ho
              go_wp2_with fail
              refine HD.out.mono ?_
              rintro e w3 ⟨rfl, hM3, hk3⟩
              have HLx : Hid (Ls w w3 b g n j ap (.slice none 0 0) (.slice a1 st.length k1) (dlX false xs 3 n (ptL n j)) [] st true) := HL.out.1.wrote hM3 hk3 HL.out.2 (.inr ⟨rfl, rfl⟩) (.inr ⟨rfl, rfl⟩)
              clear hM3 hk3 HD HL c0
              have HSt := staged_any false b g (dlX false xs 3 n (ptL n j)) 3 n w3 HLx.out.mm (by omega)
              rw [HLx.out.ch.stN, HLx.out.ch.lkS, show ((min 1 ([] : List UInt32).length : Nat) : Int) = 0 from rfl] at HSt
              have HSt : Hid (Calls _ _ _ _ _) := HSt
              go_wp2_with fail
              refine HSt.out.mono ?_
              rintro e w5 ⟨rfl, hk5⟩
              have HL5 := HLx.out.grown hk5
              obtain ⟨a9, c9, e9, s9, n9⟩ := HL5.hv
              have HAl := all_any b g (dlX false xs 3 n (ptL n j)) n j ([]) (st) true ap cp a1 k1 w5 HL5.ch HL5.mm HL5.pt (by have := e9; simp at this; rw [this.1]; exact s9)
              have HAl : Hid (Calls _ _ _ _ _) := HAl
              have HL5 : Hid (Ls _ _ _ _ _ _ _ _ _ _ _ _ _) := HL5
              clear hk5 HSt e9 s9 n9
              go_wp2_with fail
              refine HAl.out.mono ?_
              rintro e w6 ⟨rfl, hk6⟩
              have HL6 : Hid (Ls _ _ _ _ _ _ _ _ _ _ _ _ _) := HL5.out.grown hk6
              clear hk6 HAl HL5
              go_wp2
              go_roundw
              case rel => exact ⟨m + 1, _, _, _, _, by omega, by go_num, rfl, HL6.out⟩
              case measure => simp [intOf]; omega
        · obtain rfl : m = N := by omega
          have HK : Hid (Keeps (fun _ => False) w wr) := hL.k
          obtain ⟨a1, k1, rfl, s1, n1⟩ := hL.sv
          obtain ⟨a2, k2, rfl, s2, n2⟩ := hL.hv
          clear hL hm hlt s1 n1 s2 n2
          go_wp2
          go_ret
          exact ⟨rfl, HK.out⟩

end Go.Proofs.Ytfcgpjojjehkiaa
