import Derived.Test.YtadhldpeklkcmaaSx
import Derived.Test.YtadhldpeklkcmaaSy
import Derived.Test.YtadhldpeklkcmaaSi
import Derived.Test.YtadhldpeklkcmaaSl
import Derived.Test.YtadhldpeklkcmaaSn
import Derived.Test.YtadhldpeklkcmaaSo
import Derived.Test.YtadhldpeklkcmaaSv
import Derived.Test.YtadhldpeklkcmaaSe
import Derived.Deep.CutBlock
import Derived.Deep.CutRange
namespace Go.Proofs.Ytadhldpeklkcmaa
open Go.RowKit
open Ex
set_option linter.unusedVariables false
set_option maxRecDepth 20000

/-- Where the loop stands. -/
def LpI (w : World) (WB j : Nat) (wr : World) : Prop :=
  ∃ p : Pst, p.Ok w.heap.size wr ∧ p.Same ∧ p.WB = WB ∧ 0 < p.Xs.length ∧ p.Xs.length ≤ 2 + j ∧ p.es.length ≤ 2 * j ∧ Keeps (fun _ => False) w wr

theorem LpI.next {w wr w' : World} {WB j : Nat} {p : Pst} (h0 : 0 < p.Xs.length) (h1 : p.Xs.length ≤ 2 + j) (h2 : p.es.length ≤ 2 * j) (hb : p.WB = WB) (hk : Keeps (fun _ => False) w wr) {e : Ending} (h : PlayP p w.heap.size wr e w') : e = .returned (.bool true) ∧ LpI w WB (j + 1) w' := by
  obtain ⟨he, p', g1, g2, g3, g4, g5, g6, g7⟩ := h
  exact ⟨he, p', g1, g2, by rw [g3, hb], by omega, by omega, by omega, hk.trans g7 fun k hk e => by omega⟩

theorem call7 {p : Pst} {N : Nat} {o : Opr} {w : World} (hok : p.Ok N w) (hs : p.Same) (ha : -9223372036854775808 ≤ o.a ∧ o.a ≤ 9223372036854775807) (hk : o.kind = 1 ∨ o.kind = 2 ∨ o.kind = 3 ∨ o.kind = 4 ∨ o.kind = 11) :
    Calls Try.prog 7 #[.pointer (some ⟨p.WB, 0, none⟩), .agg o.vs.toArray] w (PlayP p N w) := by
  rcases hk with h | h | h | h | h
  · exact words_take p N o w hok hs ha.1 ha.2 h
  · exact words_mine p N o w hok hs ha.1 ha.2 h
  · exact words_free p N o w hok hs ha.1 ha.2 h
  · exact words_waiting p N o w hok hs ha.1 ha.2 h
  · exact words_write p N o w hok hs ha.1 ha.2 h

theorem call8 {p : Pst} {N : Nat} {x : Oc} {w : World} (hok : p.Ok N w) (hs : p.Same) (hx : x.Ok w) (hl : x.ls.length + x.ts.length ≤ 2147483647) (hn0 : 0 < p.Xs.length) (hn : p.Xs.length ≤ 4294967296) (hk : x.o.kind = 5 ∨ x.o.kind = 9 ∨ x.o.kind = 10) :
    Calls Try.prog 8 #[.pointer (some ⟨p.WB, 0, none⟩), .agg x.o.vs.toArray] w (PlayP p N w) := by
  rcases hk with h | h | h
  · exact makes_new p N x.o x.ls x.ts w hok hs hx.l hx.ln.1 hx.t hx.tn.1 (by omega) (by omega) hx.top hn h
  · cases hc : canB x.ls.length x.o.b x.o.asked x.ts.length with
    | false => exact makes_restore_no p N x.o x.ls x.ts w hok hs hx.l hx.ln.1 hx.t hx.tn.1 (by omega) (by omega) hx.top hn h hc
    | true => exact makes_restore_ok p N x.o x.ls x.ts w hok hs hx.l hx.ln.1 hx.t hx.tn.1 (by omega) (by omega) hx.top hn h hc
  · exact makes_again p N x.o w hok hs hn0 hn hx.who.1 hx.who.2 h

theorem call9 {p : Pst} {N : Nat} {x : Oc} {w : World} (hok : p.Ok N w) (hs : p.Same) (hx : x.Ok w) (hn0 : 0 < p.Xs.length) (hn : p.Xs.length ≤ 4294967296) (hes : p.es.length ≤ 17179869183) (hk : x.o.kind = 6 ∨ x.o.kind = 7 ∨ x.o.kind = 8) :
    Calls Try.prog 9 #[.pointer (some ⟨p.WB, 0, none⟩), .agg x.o.vs.toArray] w (PlayP p N w) := by
  rcases hk with h | h | h
  · exact does_step p N x.o w hok hs hn0 hn hx.who.1 hx.who.2 h
  · exact does_back p N x.o w hok hs hn0 hn hx.who.1 hx.who.2 h
  · exact does_state p N x.o w hok hs hn0 hn hx.who.1 hx.who.2 hes h

set_option maxHeartbeats 2000000 in
theorem lockExact_any (a : Option Addr) (cap : Nat) (os : List Oc) (w : World) (hl : os.length ≤ maxLen) (hS : SegOc w a os) (hF : ∀ o ∈ os, o.Ok w) (hZ : ∀ o ∈ os, o.ls.length ≤ 70368744177664 ∧ o.ts.length ≤ 70368744177664) :
    Calls Try.prog 3 #[.slice a os.length cap] w fun e w' => e = .returned (.bool true) ∧ Keeps (fun _ => False) w w' := by
  obtain ⟨n, hn⟩ : ∃ n, n = os.length := ⟨_, rfl⟩
  have HN : Hid (n = os.length ∧ SegOc w a os ∧ (∀ o ∈ os, o.Ok w) ∧ ∀ o ∈ os, o.ls.length ≤ 70368744177664 ∧ o.ts.length ≤ 70368744177664) := ⟨hn, hS, hF, hZ⟩
  rw [← hn] at hl ⊢
  have hnI : (n : Int) ≤ 9223372036854775807 := by unfold maxLen at hl; omega
  have HB : Hid (Calls _ _ _ _ _) := begun_any w
  clear hn hS hF hl hZ
  go_enter Try.func3, Try.ntmps3
  go_wp2_with fail
  refine HB.out.mono ?_
  rintro e w1 ⟨p, rfl, hO, hSm, hX, hE, hK⟩
  obtain ⟨WB, hWB⟩ : ∃ WB, WB = p.WB := ⟨_, rfl⟩
  rw [← hWB]
  have H0 : Hid (LpI w WB 0 w1) := ⟨p, hO, hSm, hWB.symm, by omega, by omega, by omega, hK⟩
  clear hO hSm hX hE hK hWB HB p
  go_wp2_with fail
  go_loopw [4, 5] (fun ok i wr => ∃ j : Nat, j ≤ n ∧ j ≤ 2147483647 ∧ ok = .bool true ∧ i = .int .i64 (j : Int) ∧ LpI w WB j wr) (fun _ i _ => n - (intOf i).toNat)
  case atStart => exact ⟨0, by omega, by omega, rfl, rfl, H0.out⟩
  case round =>
    clear H0
    obtain ⟨j, hj, hjm, rfl, rfl, hI⟩ := hrel
    have HI : Hid (LpI w WB j wr) := hI
    by_cases hlt : j < n
    · have hlt' : (j : Int) < n := by omega
      have hjx : j < os.length := by rw [← HN.out.1]; exact hlt
      obtain ⟨p, hO, hSm, hWB, hX0, hX1, hE, hK⟩ := hI
      obtain ⟨x, hx⟩ : ∃ x, os[j]? = some x := ⟨_, List.getElem?_eq_getElem hjx⟩
      have hxo := (HN.out.2.2.1 x (List.mem_of_getElem? hx)).grown hK
      obtain ⟨ga, oa, ha, hcells⟩ : ∃ g o, a = some ⟨g, o, none⟩ ∧ ∀ j x, os[j]? = some x → OcAt w g (o + j * 8) x := by
        rcases HN.out.2.1 with h | h
        · rw [h] at hjx; simp at hjx
        · exact h
      subst ha
      have hc := (hcells j x hx).grown hK
      have c0 := hc 0 _ rfl
      have c1 := hc 1 _ rfl
      have c2 := hc 2 _ rfl
      have c3 := hc 3 _ rfl
      have c4 := hc 4 _ rfl
      have c5 := hc 5 _ rfl
      have c6 := hc 6 _ rfl
      have c7 := hc 7 _ rfl
      rw [Nat.add_zero] at c0
      have kb := box_op x.o wr
      have HX : Hid (x.Ok (wr.alloc (.cells x.o.vs.toArray 30)) ∧ p.Ok w.heap.size (wr.alloc (.cells x.o.vs.toArray 30)) ∧ p.Same ∧ p.WB = WB ∧ 0 < p.Xs.length ∧ p.Xs.length ≤ 2 + j ∧ p.es.length ≤ 2 * j ∧ Keeps (fun _ => False) w (wr.alloc (.cells x.o.vs.toArray 30))) :=
        ⟨hxo.grown kb.1, hO.same kb.1, hSm, hWB, hX0, hX1, hE, hK.trans kb.1 fun _ _ e => e⟩
      obtain ⟨W1, hW1⟩ : ∃ W1, W1 = wr.alloc (.cells x.o.vs.toArray 30) := ⟨_, rfl⟩
      rw [← hW1] at HX
      have HW1 : Hid (wr.alloc (.cells #[.int .i64 x.o.kind, .int .i64 x.o.who, .int .i64 x.o.a, .int .i64 x.o.b, .bool x.o.asked, .int .u32 (x.o.wd.toNat : Int), .slice x.o.la x.o.ln x.o.lc, .slice x.o.ta x.o.tn x.o.tc] 30) = W1) := by rw [hW1]; rfl
      have HV : Hid (x.o.vs.toArray = #[.int .i64 x.o.kind, .int .i64 x.o.who, .int .i64 x.o.a, .int .i64 x.o.b, .bool x.o.asked, .int .u32 (x.o.wd.toNat : Int), .slice x.o.la x.o.ln x.o.lc, .slice x.o.ta x.o.tn x.o.tc]) := rfl
      have hl1 := hxo.ln
      have hl2 := hxo.tn
      have hl3 := HN.out.2.2.2 x (List.mem_of_getElem? hx)
      obtain ⟨LN, hLN⟩ : ∃ LN, LN = x.o.ln := ⟨_, rfl⟩
      obtain ⟨TN, hTN⟩ : ∃ LN, LN = x.o.tn := ⟨_, rfl⟩
      obtain ⟨K, hKK⟩ : ∃ K, K = x.o.kind := ⟨_, rfl⟩
      have hsum : (LN : Int) + (TN : Int) ≤ 281474976710656 := by omega
      rw [← hLN, ← hTN, ← hKK] at HW1 HV
      rw [← hKK] at c0
      rw [← hLN] at c6
      rw [← hTN] at c7
      have HLK : Hid (LN = x.ls.length ∧ TN = x.ts.length ∧ K = x.o.kind) := ⟨by rw [hLN]; exact hl1.1, by rw [hTN]; exact hl2.1, hKK⟩
      have hwr : IntKind.i64.wrap ((LN : Int) + (TN : Int)) = (LN : Int) + (TN : Int) := by rw [IntKind.wrap_i64]; omega
      clear hO hSm hWB hX0 hX1 hE hK hx hxo hcells hc kb hjx hl1 hl2 hl3 hLN hTN hKK hW1
      by_cases hbig : (2147483647 : Int) ≤ (j : Int)
      · go_wp2
        go_ret
        exact ⟨rfl, by rw [HW1.out]; exact HX.out.2.2.2.2.2.2.2⟩
      · by_cases hbig2 : (2147483647 : Int) < (LN : Int) + (TN : Int)
        · go_wp2
          go_ret
          exact ⟨rfl, by rw [HW1.out]; exact HX.out.2.2.2.2.2.2.2⟩
        · go_upto_block 2 with fail
          have hbj : j < 2147483647 := by omega
          have HLL : Hid (x.ls.length + x.ts.length ≤ 2147483647) := by show x.ls.length + x.ts.length ≤ 2147483647; have := HLK.out; omega
          clear hbig2 hwr hsum
          by_cases hk1 : K = 1
          · subst hk1
            have HC := call7 (o := x.o) HX.out.2.1 HX.out.2.2.1 HX.out.1.a (by rw [← HLK.out.2.2]; omega)
            rw [HV.out, HX.out.2.2.2.1] at HC
            have HC : Hid (Calls _ _ _ _ _) := HC
            clear c0 c1 c2 c3 c4 c5 c6 c7
            go_wp2_with fail
            rw [HW1.out]
            refine HC.out.mono ?_
            intro e w2 hP
            obtain ⟨rfl, hL⟩ := LpI.next HX.out.2.2.2.2.1 HX.out.2.2.2.2.2.1 HX.out.2.2.2.2.2.2.1 HX.out.2.2.2.1 HX.out.2.2.2.2.2.2.2 hP
            have HL : Hid (LpI w WB (j + 1) w2) := hL
            clear hP hL HC
            go_wp2
            go_roundw
            case rel => exact ⟨j + 1, by omega, by omega, rfl, by go_num, HL.out⟩
            case measure => simp [intOf]; omega
          by_cases hk2 : K = 2
          · subst hk2
            have HC := call7 (o := x.o) HX.out.2.1 HX.out.2.2.1 HX.out.1.a (by rw [← HLK.out.2.2]; omega)
            rw [HV.out, HX.out.2.2.2.1] at HC
            have HC : Hid (Calls _ _ _ _ _) := HC
            clear c0 c1 c2 c3 c4 c5 c6 c7
            go_wp2_with fail
            rw [HW1.out]
            refine HC.out.mono ?_
            intro e w2 hP
            obtain ⟨rfl, hL⟩ := LpI.next HX.out.2.2.2.2.1 HX.out.2.2.2.2.2.1 HX.out.2.2.2.2.2.2.1 HX.out.2.2.2.1 HX.out.2.2.2.2.2.2.2 hP
            have HL : Hid (LpI w WB (j + 1) w2) := hL
            clear hP hL HC
            go_wp2
            go_roundw
            case rel => exact ⟨j + 1, by omega, by omega, rfl, by go_num, HL.out⟩
            case measure => simp [intOf]; omega
          by_cases hk3 : K = 3
          · subst hk3
            have HC := call7 (o := x.o) HX.out.2.1 HX.out.2.2.1 HX.out.1.a (by rw [← HLK.out.2.2]; omega)
            rw [HV.out, HX.out.2.2.2.1] at HC
            have HC : Hid (Calls _ _ _ _ _) := HC
            clear c0 c1 c2 c3 c4 c5 c6 c7
            go_wp2_with fail
            rw [HW1.out]
            refine HC.out.mono ?_
            intro e w2 hP
            obtain ⟨rfl, hL⟩ := LpI.next HX.out.2.2.2.2.1 HX.out.2.2.2.2.2.1 HX.out.2.2.2.2.2.2.1 HX.out.2.2.2.1 HX.out.2.2.2.2.2.2.2 hP
            have HL : Hid (LpI w WB (j + 1) w2) := hL
            clear hP hL HC
            go_wp2
            go_roundw
            case rel => exact ⟨j + 1, by omega, by omega, rfl, by go_num, HL.out⟩
            case measure => simp [intOf]; omega
          by_cases hk4 : K = 4
          · subst hk4
            have HC := call7 (o := x.o) HX.out.2.1 HX.out.2.2.1 HX.out.1.a (by rw [← HLK.out.2.2]; omega)
            rw [HV.out, HX.out.2.2.2.1] at HC
            have HC : Hid (Calls _ _ _ _ _) := HC
            clear c0 c1 c2 c3 c4 c5 c6 c7
            go_wp2_with fail
            rw [HW1.out]
            refine HC.out.mono ?_
            intro e w2 hP
            obtain ⟨rfl, hL⟩ := LpI.next HX.out.2.2.2.2.1 HX.out.2.2.2.2.2.1 HX.out.2.2.2.2.2.2.1 HX.out.2.2.2.1 HX.out.2.2.2.2.2.2.2 hP
            have HL : Hid (LpI w WB (j + 1) w2) := hL
            clear hP hL HC
            go_wp2
            go_roundw
            case rel => exact ⟨j + 1, by omega, by omega, rfl, by go_num, HL.out⟩
            case measure => simp [intOf]; omega
          by_cases hk11 : K = 11
          · subst hk11
            have HC := call7 (o := x.o) HX.out.2.1 HX.out.2.2.1 HX.out.1.a (by rw [← HLK.out.2.2]; omega)
            rw [HV.out, HX.out.2.2.2.1] at HC
            have HC : Hid (Calls _ _ _ _ _) := HC
            clear c0 c1 c2 c3 c4 c5 c6 c7
            go_wp2_with fail
            rw [HW1.out]
            refine HC.out.mono ?_
            intro e w2 hP
            obtain ⟨rfl, hL⟩ := LpI.next HX.out.2.2.2.2.1 HX.out.2.2.2.2.2.1 HX.out.2.2.2.2.2.2.1 HX.out.2.2.2.1 HX.out.2.2.2.2.2.2.2 hP
            have HL : Hid (LpI w WB (j + 1) w2) := hL
            clear hP hL HC
            go_wp2
            go_roundw
            case rel => exact ⟨j + 1, by omega, by omega, rfl, by go_num, HL.out⟩
            case measure => simp [intOf]; omega
          by_cases hk5 : K = 5
          · subst hk5
            have HC := call8 HX.out.2.1 HX.out.2.2.1 HX.out.1 HLL.out HX.out.2.2.2.2.1 (by have := HX.out.2.2.2.2.2.1; omega) (by rw [← HLK.out.2.2]; omega)
            rw [HV.out, HX.out.2.2.2.1] at HC
            have HC : Hid (Calls _ _ _ _ _) := HC
            clear c0 c1 c2 c3 c4 c5 c6 c7
            go_wp2_with fail
            rw [HW1.out]
            refine HC.out.mono ?_
            intro e w2 hP
            obtain ⟨rfl, hL⟩ := LpI.next HX.out.2.2.2.2.1 HX.out.2.2.2.2.2.1 HX.out.2.2.2.2.2.2.1 HX.out.2.2.2.1 HX.out.2.2.2.2.2.2.2 hP
            have HL : Hid (LpI w WB (j + 1) w2) := hL
            clear hP hL HC
            go_wp2
            go_roundw
            case rel => exact ⟨j + 1, by omega, by omega, rfl, by go_num, HL.out⟩
            case measure => simp [intOf]; omega
          by_cases hk9 : K = 9
          · subst hk9
            have HC := call8 HX.out.2.1 HX.out.2.2.1 HX.out.1 HLL.out HX.out.2.2.2.2.1 (by have := HX.out.2.2.2.2.2.1; omega) (by rw [← HLK.out.2.2]; omega)
            rw [HV.out, HX.out.2.2.2.1] at HC
            have HC : Hid (Calls _ _ _ _ _) := HC
            clear c0 c1 c2 c3 c4 c5 c6 c7
            go_wp2_with fail
            rw [HW1.out]
            refine HC.out.mono ?_
            intro e w2 hP
            obtain ⟨rfl, hL⟩ := LpI.next HX.out.2.2.2.2.1 HX.out.2.2.2.2.2.1 HX.out.2.2.2.2.2.2.1 HX.out.2.2.2.1 HX.out.2.2.2.2.2.2.2 hP
            have HL : Hid (LpI w WB (j + 1) w2) := hL
            clear hP hL HC
            go_wp2
            go_roundw
            case rel => exact ⟨j + 1, by omega, by omega, rfl, by go_num, HL.out⟩
            case measure => simp [intOf]; omega
          by_cases hk10 : K = 10
          · subst hk10
            have HC := call8 HX.out.2.1 HX.out.2.2.1 HX.out.1 HLL.out HX.out.2.2.2.2.1 (by have := HX.out.2.2.2.2.2.1; omega) (by rw [← HLK.out.2.2]; omega)
            rw [HV.out, HX.out.2.2.2.1] at HC
            have HC : Hid (Calls _ _ _ _ _) := HC
            clear c0 c1 c2 c3 c4 c5 c6 c7
            go_wp2_with fail
            rw [HW1.out]
            refine HC.out.mono ?_
            intro e w2 hP
            obtain ⟨rfl, hL⟩ := LpI.next HX.out.2.2.2.2.1 HX.out.2.2.2.2.2.1 HX.out.2.2.2.2.2.2.1 HX.out.2.2.2.1 HX.out.2.2.2.2.2.2.2 hP
            have HL : Hid (LpI w WB (j + 1) w2) := hL
            clear hP hL HC
            go_wp2
            go_roundw
            case rel => exact ⟨j + 1, by omega, by omega, rfl, by go_num, HL.out⟩
            case measure => simp [intOf]; omega
          by_cases hk6 : K = 6
          · subst hk6
            have HC := call9 HX.out.2.1 HX.out.2.2.1 HX.out.1 HX.out.2.2.2.2.1 (by have := HX.out.2.2.2.2.2.1; omega) (by have := HX.out.2.2.2.2.2.2.1; omega) (by rw [← HLK.out.2.2]; omega)
            rw [HV.out, HX.out.2.2.2.1] at HC
            have HC : Hid (Calls _ _ _ _ _) := HC
            clear c0 c1 c2 c3 c4 c5 c6 c7
            go_wp2_with fail
            rw [HW1.out]
            refine HC.out.mono ?_
            intro e w2 hP
            obtain ⟨rfl, hL⟩ := LpI.next HX.out.2.2.2.2.1 HX.out.2.2.2.2.2.1 HX.out.2.2.2.2.2.2.1 HX.out.2.2.2.1 HX.out.2.2.2.2.2.2.2 hP
            have HL : Hid (LpI w WB (j + 1) w2) := hL
            clear hP hL HC
            go_wp2
            go_roundw
            case rel => exact ⟨j + 1, by omega, by omega, rfl, by go_num, HL.out⟩
            case measure => simp [intOf]; omega
          by_cases hk7 : K = 7
          · subst hk7
            have HC := call9 HX.out.2.1 HX.out.2.2.1 HX.out.1 HX.out.2.2.2.2.1 (by have := HX.out.2.2.2.2.2.1; omega) (by have := HX.out.2.2.2.2.2.2.1; omega) (by rw [← HLK.out.2.2]; omega)
            rw [HV.out, HX.out.2.2.2.1] at HC
            have HC : Hid (Calls _ _ _ _ _) := HC
            clear c0 c1 c2 c3 c4 c5 c6 c7
            go_wp2_with fail
            rw [HW1.out]
            refine HC.out.mono ?_
            intro e w2 hP
            obtain ⟨rfl, hL⟩ := LpI.next HX.out.2.2.2.2.1 HX.out.2.2.2.2.2.1 HX.out.2.2.2.2.2.2.1 HX.out.2.2.2.1 HX.out.2.2.2.2.2.2.2 hP
            have HL : Hid (LpI w WB (j + 1) w2) := hL
            clear hP hL HC
            go_wp2
            go_roundw
            case rel => exact ⟨j + 1, by omega, by omega, rfl, by go_num, HL.out⟩
            case measure => simp [intOf]; omega
          by_cases hk8 : K = 8
          · subst hk8
            have HC := call9 HX.out.2.1 HX.out.2.2.1 HX.out.1 HX.out.2.2.2.2.1 (by have := HX.out.2.2.2.2.2.1; omega) (by have := HX.out.2.2.2.2.2.2.1; omega) (by rw [← HLK.out.2.2]; omega)
            rw [HV.out, HX.out.2.2.2.1] at HC
            have HC : Hid (Calls _ _ _ _ _) := HC
            clear c0 c1 c2 c3 c4 c5 c6 c7
            go_wp2_with fail
            rw [HW1.out]
            refine HC.out.mono ?_
            intro e w2 hP
            obtain ⟨rfl, hL⟩ := LpI.next HX.out.2.2.2.2.1 HX.out.2.2.2.2.2.1 HX.out.2.2.2.2.2.2.1 HX.out.2.2.2.1 HX.out.2.2.2.2.2.2.2 hP
            have HL : Hid (LpI w WB (j + 1) w2) := hL
            clear hP hL HC
            go_wp2
            go_roundw
            case rel => exact ⟨j + 1, by omega, by omega, rfl, by go_num, HL.out⟩
            case measure => simp [intOf]; omega
          by_cases hk12 : K = 12
          · subst hk12
            have HC := nobody_any p w.heap.size W1 HX.out.2.1 HX.out.2.2.1
            rw [HX.out.2.2.2.1] at HC
            have HC : Hid (Calls _ _ _ _ _) := HC
            clear c0 c1 c2 c3 c4 c5 c6 c7
            go_wp2_with fail
            rw [HW1.out]
            refine HC.out.mono ?_
            intro e w2 hP
            obtain ⟨rfl, hL⟩ := LpI.next HX.out.2.2.2.2.1 HX.out.2.2.2.2.2.1 HX.out.2.2.2.2.2.2.1 HX.out.2.2.2.1 HX.out.2.2.2.2.2.2.2 hP
            have HL : Hid (LpI w WB (j + 1) w2) := hL
            clear hP hL HC
            go_wp2
            go_roundw
            case rel => exact ⟨j + 1, by omega, by omega, rfl, by go_num, HL.out⟩
            case measure => simp [intOf]; omega
          by_cases hk13 : K = 13
          · subst hk13
            have HC := swap_any p w.heap.size W1 HX.out.2.1 HX.out.2.2.1
            rw [HX.out.2.2.2.1] at HC
            have HC : Hid (Calls _ _ _ _ _) := HC
            clear c0 c1 c2 c3 c4 c5 c6 c7
            go_wp2_with fail
            rw [HW1.out]
            refine HC.out.mono ?_
            rintro e w2 ⟨rfl, g1, g2, g3⟩
            have HL : Hid (LpI w WB (j + 1) w2) := ⟨p.swap, g1, g2, HX.out.2.2.2.1, HX.out.2.2.2.2.1, by have := HX.out.2.2.2.2.2.1; show p.Xs.length ≤ 2 + (j + 1); omega, by have := HX.out.2.2.2.2.2.2.1; show p.es.length ≤ 2 * (j + 1); omega, HX.out.2.2.2.2.2.2.2.trans g3 fun k hk e => by omega⟩
            clear g1 g2 g3 HC
            go_wp2
            go_roundw
            case rel => exact ⟨j + 1, by omega, by omega, rfl, by go_num, HL.out⟩
            case measure => simp [intOf]; omega
          have HL : Hid (LpI w WB (j + 1) W1) := ⟨p, HX.out.2.1, HX.out.2.2.1, HX.out.2.2.2.1, HX.out.2.2.2.2.1, by have := HX.out.2.2.2.2.2.1; omega, by have := HX.out.2.2.2.2.2.2.1; omega, HX.out.2.2.2.2.2.2.2⟩
          have q1 : (K == 1) = false := beq_eq_false_iff_ne.2 hk1
          have q2 : (K == 2) = false := beq_eq_false_iff_ne.2 hk2
          have q3 : (K == 3) = false := beq_eq_false_iff_ne.2 hk3
          have q4 : (K == 4) = false := beq_eq_false_iff_ne.2 hk4
          have q11 : (K == 11) = false := beq_eq_false_iff_ne.2 hk11
          have q5 : (K == 5) = false := beq_eq_false_iff_ne.2 hk5
          have q9 : (K == 9) = false := beq_eq_false_iff_ne.2 hk9
          have q10 : (K == 10) = false := beq_eq_false_iff_ne.2 hk10
          have q6 : (K == 6) = false := beq_eq_false_iff_ne.2 hk6
          have q7 : (K == 7) = false := beq_eq_false_iff_ne.2 hk7
          have q8 : (K == 8) = false := beq_eq_false_iff_ne.2 hk8
          have q12 : (K == 12) = false := beq_eq_false_iff_ne.2 hk12
          have q13 : (K == 13) = false := beq_eq_false_iff_ne.2 hk13
          clear c0 c1 c2 c3 c4 c5 c6 c7
          go_wp2
          rw [HW1.out]
          go_roundw
          case rel => exact ⟨j + 1, by omega, by omega, rfl, by go_num, HL.out⟩
          case measure => simp [intOf]; omega
    · obtain rfl : j = n := by omega
      obtain ⟨p, hO, hSm, hWB, hX0, hX1, hE, hK⟩ := hI
      have m0 := hO.blk.cell (i := 0) rfl
      have m1 := hO.blk.cell (i := 1) rfl
      have m2 := hO.blk.cell (i := 2) rfl
      have m3 := hO.blk.cell (i := 3) rfl
      rw [hWB] at m0 m1 m2 m3
      have HW1 : Hid (Calls _ _ _ _ _) := words_any p.mb p.g p.xs wr hO.m1
      have HO : Hid (p.Ok w.heap.size wr ∧ p.Same ∧ p.WB = WB ∧ p.es.length ≤ 2 * j ∧ Keeps (fun _ => False) w wr) := ⟨hO, hSm, hWB, hE, hK⟩
      have hlt' : ¬ ((j : Int) < (j : Int)) := by omega
      clear hO hSm hWB hX0 hX1 hE hK
      go_wp2_with fail
      refine HW1.out.mono ?_
      rintro e w2 ⟨rfl, hB2, hk2⟩
      obtain ⟨la, hla⟩ : ∃ la, la = wr.heap.size := ⟨_, rfl⟩
      rw [← hla] at hB2 ⊢
      have HO2 : Hid (p.Ok w.heap.size w2 ∧ Blk w2 la (wvs p.xs) 26 ∧ Keeps (fun _ => False) w w2) := ⟨HO.out.1.same hk2, hB2, HO.out.2.2.2.2.trans hk2 fun _ _ e => e⟩
      have m2' := HO2.out.1.blk.cell (i := 2) rfl
      rw [HO.out.2.2.1] at m2'
      have HW2 : Hid (Calls _ _ _ _ _) := words_any p.mb2 p.g2 p.ys w2 HO2.out.1.m2
      clear hB2 hk2 HW1 hla m0 m1 m2 m3
      go_wp2_with fail
      refine HW2.out.mono ?_
      rintro e w3 ⟨rfl, hB3, hk3⟩
      obtain ⟨lb, hlb⟩ : ∃ la, la = w2.heap.size := ⟨_, rfl⟩
      rw [← hlb] at hB3 ⊢
      have HO3 : Hid (p.Ok w.heap.size w3 ∧ Blk w3 la (wvs p.xs) 26 ∧ Blk w3 lb (wvs p.ys) 26 ∧ Keeps (fun _ => False) w w3) := ⟨HO2.out.1.same hk3, HO2.out.2.1.kept hk3 (fun e => e), hB3, HO2.out.2.2.trans hk3 fun _ _ e => e⟩
      have m1 := HO3.out.1.blk.cell (i := 1) rfl
      rw [HO.out.2.2.1] at m1
      have r1 := HO3.out.1.r1.blk.cell (i := 0) rfl
      have S1 := sameWords_any (some ⟨la, 0, none⟩) (some ⟨p.h, 0, none⟩) p.xs p.xs.length p.xs.length w3 (segW_of_blk HO3.out.2.1) (by have := segW_of_blk HO3.out.1.r1.row; rw [HO.out.2.1.one] at this; exact this) (by have := HO3.out.1.m1.small; omega)
      have e1 : p.zs.length = p.xs.length := by rw [HO.out.2.1.one]
      rw [e1] at r1
      obtain ⟨L1, hL1⟩ : ∃ L, L = p.xs.length := ⟨_, rfl⟩
      rw [← hL1] at S1 r1 ⊢
      have S1 : Hid (Calls _ _ _ _ _) := S1
      clear hB3 hk3 HW2 hlb m2' HO2 e1 hL1
      go_wp2_with fail
      refine S1.out.mono ?_
      rintro e w4 ⟨rfl, hk4⟩
      have HO4 : Hid (p.Ok w.heap.size w4 ∧ Blk w4 lb (wvs p.ys) 26 ∧ Keeps (fun _ => False) w w4) := ⟨HO3.out.1.same hk4, HO3.out.2.2.1.kept hk4 (fun e => e), HO3.out.2.2.2.trans hk4 fun _ _ e => e⟩
      have m3 := HO4.out.1.blk.cell (i := 3) rfl
      rw [HO.out.2.2.1] at m3
      have r2 := HO4.out.1.r2.blk.cell (i := 0) rfl
      have S2 := sameWords_any (some ⟨lb, 0, none⟩) (some ⟨p.h2, 0, none⟩) p.ys p.ys.length p.ys.length w4 (segW_of_blk HO4.out.2.1) (by have := segW_of_blk HO4.out.1.r2.row; rw [HO.out.2.1.two] at this; exact this) (by have := HO4.out.1.m2.small; omega)
      have e2 : p.us.length = p.ys.length := by rw [HO.out.2.1.two]
      rw [e2] at r2
      obtain ⟨L2, hL2⟩ : ∃ L, L = p.ys.length := ⟨_, rfl⟩
      rw [← hL2] at S2 r2 ⊢
      have S2 : Hid (Calls _ _ _ _ _) := S2
      clear hk4 S1 m1 r1 HO3 e2 hL2
      go_wp2_with fail
      refine S2.out.mono ?_
      rintro e w5 ⟨rfl, hk5⟩
      have hO5 := HO4.out.1.same hk5
      have HS := settle_any (fun k => w.heap.size ≤ k) p.WB p.cells p.kv p.es w5 hO5.blk rfl rfl hO5.bk (fun e => by have := hO5.sep.one 6 0 _ (Pst.f6 (.inl e)) (Pst.f0 rfl); omega) (fun i e he e2 => by have := hO5.sep.one 6 0 _ (Pst.f6 (.inr ⟨i, e, he, .inl e2⟩)) (Pst.f0 rfl); omega) (by have := HO.out.2.2.2.1; omega) (fun i e b he hb => hO5.geF (Pst.f6 (.inr ⟨i, e, he, .inl hb⟩))) (fun b hb => hO5.geF (Pst.f6 (.inl hb)))
      rw [HO.out.2.2.1] at HS
      have HS : Hid (Calls _ _ _ _ _) := HS
      have HK5 : Hid (Keeps (fun _ => False) w w5) := HO4.out.2.2.trans hk5 fun _ _ e => e
      clear hk5 S2 m3 r2 HO4 hO5
      go_wp2_with fail
      refine HS.out.mono ?_
      rintro e w6 ⟨rfl, hk6⟩
      have HK6 : Hid (Keeps (fun _ => False) w w6) := HK5.out.trans hk6 fun k hk e => by omega
      clear hk6 HS
      go_wp2
      go_ret
      exact ⟨rfl, HK6.out⟩

end Go.Proofs.Ytadhldpeklkcmaa
