import Derived.Test.YtjadpbkhfclldaaGreatCn
import Derived.Handy
import Derived.Test.YtjadpbkhfclldaaGreatMm
import Derived.Test.YtjadpbkhfclldaaGreatMl
namespace Go.Proofs.YtjadpbkhfclldaaGreat
open Go.RowKit
set_option linter.unusedVariables false
set_option linter.unusedSimpArgs false
set_option maxRecDepth 8000

/-- No list of it is longer than the bound. -/
def Small (x : Cfg) : Prop := x.cs.length ≤ 2147483647 ∧ x.ps.length ≤ 2147483647 ∧ x.hs.length ≤ 2147483647 ∧ (∀ (k : Nat) (c : Core), x.cs[k]? = some c → c.ws.length ≤ 2147483647) ∧ ∀ (k : Nat) (P : Par), x.ps[k]? = some P → P.rs.length ≤ 2147483647 ∧ P.ps.length ≤ 2147483647

set_option maxHeartbeats 4000000 in
theorem vast_any (x : Cfg) (w : World) (N : Nat) (hi : x.In w N) (hN : N ≤ w.heap.size) : Calls Tryz.prog 4 #[x.v] w fun e w' => (e = .returned (.bool true) ∨ e = .returned (.bool false) ∧ Small x) ∧ Keeps (fun _ => False) w w' := by
  obtain ⟨W, hW⟩ : ∃ W, W = x.laid w := ⟨_, rfl⟩
  obtain ⟨C, hC⟩ : ∃ C, C = w.heap.size := ⟨_, rfl⟩
  have HO : Hid (One w x C N W) := by rw [hW, hC]; exact One.mk' hi hN
  obtain ⟨NC, hNC⟩ : ∃ n, x.cs.length = n := ⟨_, rfl⟩
  obtain ⟨NP, hNP⟩ : ∃ n, x.ps.length = n := ⟨_, rfl⟩
  obtain ⟨NH, hNH⟩ : ∃ n, x.hs.length = n := ⟨_, rfl⟩
  have HN : Hid (x.cs.length = NC ∧ x.ps.length = NP ∧ x.hs.length = NH) := ⟨hNC, hNP, hNH⟩
  have hcc : (NC : Int) ≤ x.cc ∧ (x.cc : Int) ≤ 9223372036854775807 := by have := hi.clen; unfold maxLen at this; omega
  have hpc : (NP : Int) ≤ x.pc ∧ (x.pc : Int) ≤ 9223372036854775807 := by have := hi.plen; unfold maxLen at this; omega
  clear hi hN hNC hNP hNH
  unfold Cfg.laid at hW
  go_enter Tryz.func4, Tryz.ntmps4
  go_upto_region 2 with fail
  rw [← hW, ← hC]
  clear hW hC
  obtain ⟨q0, q1, q2, q3, q4, q5, q6⟩ := HO.out.cells
  rw [HN.out.1] at q4
  rw [HN.out.2.1] at q5
  rw [HN.out.2.2] at q6
  have HF : Hid (Keeps (fun _ => False) w W) := HO.out.keeps
  by_cases c1 : (2147483647 : Int) < NC
  · go_wp2
    go_ret
    exact ⟨.inl rfl, HF.out⟩
  by_cases c2 : (2147483647 : Int) < NP
  · go_wp2
    go_ret
    exact ⟨.inl rfl, HF.out⟩
  by_cases c3 : (2147483647 : Int) < NH
  · go_wp2
    go_ret
    exact ⟨.inl rfl, HF.out⟩
  go_wp2
  go_loopw [3, 29] (fun l i wr => ∃ (j : Nat) (lv : Int), j ≤ NC ∧ i = .int .i64 j ∧ l = .int .i64 lv ∧ 0 ≤ lv ∧ lv ≤ 2147483647 ∧ (∀ (k : Nat) (c : Core), k < j → x.cs[k]? = some c → c.ws.length ≤ 2147483647) ∧ W = wr) (fun _ i _ => NC - (intOf i).toNat)
  case atStart => exact ⟨0, 2147483647, by omega, rfl, rfl, by omega, by omega, fun k c hk => by omega, rfl⟩
  case round =>
    obtain ⟨j, lv, hj, rfl, rfl, hl0, hl1, hS, rfl⟩ := hrel
    by_cases hlt : j < NC
    · obtain ⟨c, hc⟩ : ∃ c, x.cs[j]? = some c := ⟨_, List.getElem?_eq_getElem (by have := HN.out.1; omega)⟩
      have hci := HO.out.cin.cin c (List.mem_of_getElem? hc)
      obtain ⟨g, o, ha, hg⟩ := HO.out.cin.cseg.at hc
      have r0 := hg 0 _ rfl
      rw [Nat.mul_one, Nat.add_zero] at r0
      rw [ha] at q4
      obtain ⟨wl, hwl⟩ : ∃ n, c.ws.length = n := ⟨_, rfl⟩
      rw [hwl] at r0
      have hwc : (wl : Int) ≤ c.c ∧ (c.c : Int) ≤ 9223372036854775807 := by have := hci.len; unfold maxLen at this; omega
      have hlt' : (j : Int) < NC := by omega
      have HS : Hid (∀ (k : Nat) (c : Core), k < j → x.cs[k]? = some c → c.ws.length ≤ 2147483647) := hS
      have HJ : Hid (j < NC ∧ x.cs[j]? = some c ∧ c.ws.length = wl) := ⟨hlt, hc, hwl⟩
      clear hS hg hci hc hwl hj hlt ha
      by_cases hov : lv < (wl : Int)
      · go_wp2
        go_ret
        exact ⟨.inl rfl, HF.out⟩
      · have w1 : IntKind.i64.wrap (lv - (wl : Int)) = lv - wl := by rw [IntKind.wrap_i64]; omega
        go_wp2
        go_roundw
        case rel =>
          refine ⟨j + 1, lv - wl, by have := HJ.out; omega, by go_num, rfl, by omega, by omega, fun k c' hk hc' => ?_, trivial⟩
          by_cases e : k = j
          · subst e
            rw [HJ.out.2.1] at hc'
            cases hc'
            rw [HJ.out.2.2]; omega
          · exact HS.out k c' (by omega) hc'
        case measure => have := HJ.out; simp [intOf]; omega
    · obtain rfl : NC = j := by omega
      have HS : Hid (∀ (k : Nat) (c : Core), x.cs[k]? = some c → c.ws.length ≤ 2147483647) := fun k c hc => hS k c (by have := (List.getElem?_eq_some_iff.1 hc).1; have := HN.out.1; omega) hc
      clear hS hj hlt
      go_wp2
      clear q0 q1 q2 q3 q4 q5 q6
      go_loopw [3, 52] (fun l i wr => ∃ (j : Nat) (lv : Int), j ≤ NP ∧ i = .int .i64 j ∧ l = .int .i64 lv ∧ 0 ≤ lv ∧ lv ≤ 2147483647 ∧ (∀ (k : Nat) (P : Par), k < j → x.ps[k]? = some P → P.rs.length ≤ 2147483647 ∧ P.ps.length ≤ 2147483647) ∧ Keeps (fun _ => False) W wr) (fun _ i _ => NP - (intOf i).toNat)
      case atStart => exact ⟨0, lv, by omega, rfl, rfl, by omega, by omega, fun k c hk => by omega, Keeps.refl _ _⟩
      case round =>
        obtain ⟨j, lw, hj, rfl, rfl, hm0, hm1, hS2, hK⟩ := hrel
        by_cases hlt : j < NP
        · have hO := HO.out.kept hK
          obtain ⟨q0, q1, q2, q3, q4, q5, q6⟩ := hO.cells
          rw [HN.out.2.1] at q5
          obtain ⟨X, hX⟩ : ∃ X, x.ps[j]? = some X := ⟨_, List.getElem?_eq_getElem (by have := HN.out.2.1; omega)⟩
          have hXi := hO.cin.pin X (List.mem_of_getElem? hX)
          obtain ⟨g, o, ha, hc⟩ := hO.cin.par hX
          have p0 := hc 0 _ rfl
          rw [Nat.add_zero] at p0
          have p1 := hc 1 _ rfl
          have p2 := hc 2 _ rfl
          have p3 := hc 3 _ rfl
          have p4 := hc 4 _ rfl
          have p5 := hc 5 _ rfl
          have p6 := hc 6 _ rfl
          have p7 := hc 7 _ rfl
          rw [ha] at q5
          obtain ⟨rl, hrl⟩ : ∃ n, X.rs.length = n := ⟨_, rfl⟩
          obtain ⟨pl, hpl⟩ : ∃ n, X.ps.length = n := ⟨_, rfl⟩
          rw [hrl] at p6
          rw [hpl] at p7
          have hrc : (rl : Int) ≤ 9223372036854775807 := by have := hXi.rlen; unfold maxLen at this; omega
          have hpc2 : (pl : Int) ≤ 9223372036854775807 := by have := hXi.plen; unfold maxLen at this; omega
          obtain ⟨W1, hW1⟩ : ∃ W1, W1 = wr.alloc (.cells #[.string X.name, .int .i64 X.entry, .int .i64 X.action, .int .i64 X.restarts, .int .i64 X.inputs, .int .i64 X.outputs, .slice X.ra rl X.rc, .slice X.pa pl X.pc] 47) := ⟨_, rfl⟩
          obtain ⟨E, hE⟩ : ∃ E, E = wr.heap.size := ⟨_, rfl⟩
          have k1 : Keeps (fun _ => False) wr W1 := by rw [hW1]; exact (Keeps.refl _ _).alloc _
          have hB1 : Blk W1 E [.string X.name, .int .i64 X.entry, .int .i64 X.action, .int .i64 X.restarts, .int .i64 X.inputs, .int .i64 X.outputs, .slice X.ra rl X.rc, .slice X.pa pl X.pc] 47 := by rw [hW1, hE]; exact Blk.new _ _ _
          have d6 := hB1.cell (i := 6) rfl
          have d7 := hB1.cell (i := 7) rfl
          have hlt' : (j : Int) < NP := by omega
          have HK1 : Hid (Keeps (fun _ => False) W W1) := hK.trans k1 fun _ _ e => e
          have HS2 : Hid (∀ (k : Nat) (P : Par), k < j → x.ps[k]? = some P → P.rs.length ≤ 2147483647 ∧ P.ps.length ≤ 2147483647) := hS2
          have HJ : Hid (j < NP ∧ x.ps[j]? = some X ∧ X.rs.length = rl ∧ X.ps.length = pl) := ⟨hlt, hX, hrl, hpl⟩
          have HFF : Hid (Keeps (fun _ => False) w W1) := HF.out.trans HK1.out fun _ _ e => e
          clear hS2 hO hX hXi hc hrl hpl k1 hB1 hK hj hlt ha
          go_upto_region 15 with fail
          rw [← hW1, ← hE]
          clear hW1 hE p0 p1 p2 p3 p4 p5 p6 p7 q0 q1 q2 q3 q4 q5 q6
          by_cases o1 : lw < (rl : Int)
          · go_wp2
            go_ret
            exact ⟨.inl rfl, HFF.out⟩
          have w1 : IntKind.i64.wrap (lw - (rl : Int)) = lw - rl := by rw [IntKind.wrap_i64]; omega
          by_cases o2 : lw - (rl : Int) < (pl : Int)
          · go_wp2
            go_ret
            exact ⟨.inl rfl, HFF.out⟩
          have w2 : IntKind.i64.wrap ((rl : Int) + (pl : Int)) = rl + pl := by rw [IntKind.wrap_i64]; omega
          have w3 : IntKind.i64.wrap (lw - ((rl : Int) + (pl : Int))) = lw - (rl + pl) := by rw [IntKind.wrap_i64]; omega
          go_wp2
          go_roundw
          case rel =>
            refine ⟨j + 1, lw - (rl + pl), by have := HJ.out; omega, by go_num, rfl, by omega, by omega, fun k P hk hP => ?_, HK1.out⟩
            by_cases e : k = j
            · subst e
              rw [HJ.out.2.1] at hP
              cases hP
              rw [HJ.out.2.2.1, HJ.out.2.2.2]; omega
            · exact HS2.out k P (by omega) hP
          case measure => have := HJ.out; simp [intOf]; omega
        · obtain rfl : NP = j := by omega
          have HSM : Hid (Small x ∧ Keeps (fun _ => False) w wr) := by
            refine ⟨⟨by have := HN.out; omega, by have := HN.out; omega, by have := HN.out; omega, HS.out, fun k P hP => hS2 k P (by have := (List.getElem?_eq_some_iff.1 hP).1; have := HN.out.2.1; omega) hP⟩, HF.out.trans hK fun _ _ e => e⟩
          clear hS2 hK hj hlt
          go_wp2
          go_ret
          exact ⟨.inr ⟨rfl, HSM.out.1⟩, HSM.out.2⟩
end Go.Proofs.YtjadpbkhfclldaaGreat
namespace Go.Proofs.YtjadpbkhfclldaaGreat
open Go.RowKit Gw
set_option linter.unusedVariables false
set_option linter.unusedSimpArgs false
set_option maxRecDepth 8000

/-- What an Encode answers: its number, its bytes. -/
def encK (x : Cfg) : Int := if x.d = true then 112 else if 16384 < (form x).length then 2 else 0
def encF (x : Cfg) : List UInt8 := if encK x = 0 then form x else []
theorem encK_0 {x : Cfg} (h : encK x = 0) : x.d = false ∧ (form x).length ≤ 16384 := by
  unfold encK at h
  cases hd : x.d
  · rw [hd] at h
    simp only [Bool.false_eq_true, if_false] at h
    refine ⟨rfl, ?_⟩
    split at h
    · cases h
    · omega
  · rw [hd] at h
    simp at h
theorem seg_block {w : World} {a : Option Addr} {xs : List UInt8} (h : Seg w a xs) (h0 : xs ≠ []) {y : Addr} (hy : a = some y) : y.block < w.heap.size := by
  rcases h with h1 | ⟨g, o, h1, h2⟩
  · exact (h0 h1).elim
  · rw [hy] at h1
    injection h1 with h1
    subst h1
    have := h2 0 (List.length_pos_iff.2 h0)
    exact World.block_lt_of_cell? w ⟨g, o + 0, none⟩ this
theorem form_pos (x : Cfg) : 0 < (form x).length := by
  unfold form body markB
  rw [List.length_append, List.length_append, lowB_len]; omega
theorem rencode_one (N : Nat) (x : Cfg) (w : World) (hi : x.In w N) (hN : N ≤ w.heap.size) :
    Calls Tryz.prog 5 #[x.v] w fun e w' => Keeps (fun _ => False) w w' ∧ ∃ a c, e = .returned (.tuple #[.slice a (encF x).length c, .int .i64 (encK x)]) ∧ Seg w' a (encF x) ∧ ((encF x).length ≤ c ∧ c ≤ maxLen) ∧ ∀ y, a = some y → y.block < w'.heap.size :=
  (rencode_any N x w hi hN).mono fun e w' h => by
    obtain ⟨hK, ⟨hd, he⟩ | ⟨hd, hl, he⟩ | ⟨hd, hl, a, c, hs, hc, he⟩⟩ := h
    · have hk : encK x = 112 := by unfold encK; rw [if_pos hd]
      have hf : encF x = [] := by unfold encF; rw [hk, if_neg (by decide)]
      rw [hk, hf]
      exact ⟨hK, none, 0, he, .inl rfl, ⟨Nat.le_refl _, Nat.zero_le _⟩, fun y hy => by cases hy⟩
    · have hk : encK x = 2 := by unfold encK; rw [if_neg (by rw [hd]; decide), if_pos hl]
      have hf : encF x = [] := by unfold encF; rw [hk, if_neg (by decide)]
      rw [hk, hf]
      exact ⟨hK, none, 0, he, .inl rfl, ⟨Nat.le_refl _, Nat.zero_le _⟩, fun y hy => by cases hy⟩
    · have hk : encK x = 0 := by unfold encK; rw [if_neg (by rw [hd]; decide), if_neg (by omega)]
      have hf : encF x = form x := by unfold encF; rw [hk, if_pos rfl]
      rw [hk, hf]
      exact ⟨hK, a, c, he, hs, hc, fun y hy => seg_block hs (by have := form_pos x; intro e; rw [e] at this; simp at this) hy⟩
theorem encode_one (N : Nat) (x : Cfg) (w : World) (hi : x.In w N) (hN : N ≤ w.heap.size) :
    Calls Tryz.prog 8 #[x.v] w fun e w' => Keeps (fun _ => False) w w' ∧ ∃ a, e = .returned (.tuple #[.slice a (encF x).length (encF x).length, .int .i64 (encK x)]) ∧ Seg w' a (encF x) ∧ (encK x = 0 → ∃ g, a = some ⟨g, 0, none⟩ ∧ w.heap.size ≤ g ∧ Blk w' g (bvs (form x)) 5) :=
  (encode_any N x w hi hN).mono fun e w' h => by
    obtain ⟨hK, ⟨hd, he⟩ | ⟨hd, hl, he⟩ | ⟨hd, hl, g, hg, hb, he⟩⟩ := h
    · have hk : encK x = 112 := by unfold encK; rw [if_pos hd]
      have hf : encF x = [] := by unfold encF; rw [hk, if_neg (by decide)]
      rw [hk, hf]
      exact ⟨hK, none, he, .inl rfl, fun e => by cases e⟩
    · have hk : encK x = 2 := by unfold encK; rw [if_neg (by rw [hd]; decide), if_pos hl]
      have hf : encF x = [] := by unfold encF; rw [hk, if_neg (by decide)]
      rw [hk, hf]
      exact ⟨hK, none, he, .inl rfl, fun e => by cases e⟩
    · have hk : encK x = 0 := by unfold encK; rw [if_neg (by rw [hd]; decide), if_neg (by omega)]
      have hf : encF x = form x := by unfold encF; rw [hk, if_pos rfl]
      rw [hk, hf]
      exact ⟨hK, some ⟨g, 0, none⟩, he, seg_blk hb, fun _ => ⟨g, rfl, hg, hb⟩⟩
theorem enc_pure {x y : Cfg} (hx : ∀ c ∈ x.cs, ∀ y ∈ c.ws, y.Fine) (hy : ∀ c ∈ y.cs, ∀ z ∈ c.ws, z.Fine) (h : x.pure = y.pure) : encK x = encK y ∧ encF x = encF y := by
  have h1 : encK x = encK y := by unfold encK; rw [cfgForm x, cfgForm y, cfgD x hx, cfgD y hy, h]
  refine ⟨h1, ?_⟩
  unfold encF; rw [h1, cfgForm x, cfgForm y, h]
/-- What stands once the configuration has been handed in. -/
structure LWt (S lo H Q : Nat) (fm : List UInt8) (wa : Option Addr) (was x : Cfg) (w0 w : World) : Prop where
  kp : Keeps (fun _ => False) w0 w
  sg : Seg w wa fm
  ne : ∀ y, wa = some y → y.block < S
  si : was.In w S
  sb : Blk w S was.vs 26
  hb : Blk w H x.vs 26
  lt : w0.heap.size ≤ S ∧ S < lo ∧ lo ≤ H ∧ H < Q ∧ Q ≤ w.heap.size
  xr : ∀ k, x.B k → lo ≤ k ∧ k < H
theorem LWt.kept {S lo H Q : Nat} {fm : List UInt8} {wa : Option Addr} {was x : Cfg} {w0 w w' : World} (h : LWt S lo H Q fm wa was x w0 w) (hK : Keeps x.B w w') : LWt S lo H Q fm wa was x w0 w' :=
  ⟨h.kp.trans hK fun b hb e => by have := h.lt; have := h.xr b e; omega, h.sg.kept hK fun y hy hs => by have := h.ne y hy; have := h.xr _ hs; have := h.lt; omega,
    h.ne, h.si.below (hK.below (by have := h.lt; omega) fun b hb => by have := h.xr b hb; have := h.lt; omega), h.sb.kept hK fun e => by have := h.xr _ e; have := h.lt; omega,
    h.hb.kept hK fun e => by have := h.xr _ e; omega, ⟨h.lt.1, h.lt.2.1, h.lt.2.2.1, h.lt.2.2.2.1, Nat.le_trans h.lt.2.2.2.2 hK.size⟩, h.xr⟩
theorem LWt.grown {S lo H Q : Nat} {fm : List UInt8} {wa : Option Addr} {was x : Cfg} {w0 w w' : World} (h : LWt S lo H Q fm wa was x w0 w) (hK : Keeps (fun _ => False) w w') : LWt S lo H Q fm wa was x w0 w' := h.kept (hK.mono fun _ _ e => e.elim)
theorem ws_at {xs ys : List Core} (h : xs.map Core.ws = ys.map Core.ws) (k : Nat) : (xs[k]? = none ∧ ys[k]? = none) ∨ ∃ X Y, xs[k]? = some X ∧ ys[k]? = some Y ∧ X.ws = Y.ws := by
  have hl : xs.length = ys.length := by simpa using congrArg List.length h
  cases hx : xs[k]? with
  | none =>
    rw [List.getElem?_eq_none_iff] at hx
    exact .inl ⟨rfl, List.getElem?_eq_none_iff.2 (by omega)⟩
  | some X =>
    obtain ⟨Y, hY, e⟩ := map_at Core.ws h hx
    exact .inr ⟨X, Y, rfl, hY, e⟩
theorem ps_at {xs ys : List Par} (h : xs.map Par.pure = ys.map Par.pure) (k : Nat) : (xs[k]? = none ∧ ys[k]? = none) ∨ ∃ X Y, xs[k]? = some X ∧ ys[k]? = some Y ∧ X.pure = Y.pure := by
  have hl : xs.length = ys.length := by simpa using congrArg List.length h
  cases hx : xs[k]? with
  | none =>
    rw [List.getElem?_eq_none_iff] at hx
    exact .inl ⟨rfl, List.getElem?_eq_none_iff.2 (by omega)⟩
  | some X =>
    obtain ⟨Y, hY, e⟩ := map_at Par.pure h hx
    exact .inr ⟨X, Y, rfl, hY, e⟩
theorem RP.tr {x y : Cfg} (h : x.pure = y.pure) {j1 j2 : Nat} {hs : List Chn} {k : Nat} {O : Nat → Nat → ObG} (hr : RP x j1 j2 hs k O) : RP y j1 j2 hs k O := by
  have hc : x.cs.map Core.ws = y.cs.map Core.ws := congrArg PCfg.cs h
  have hp : x.ps.map Par.pure = y.ps.map Par.pure := congrArg PCfg.ps h
  have e1 : wsO x = wsO y := by
    funext i
    unfold wsO
    rcases ws_at hc i with ⟨h1, h2⟩ | ⟨X, Y, h1, h2, e⟩
    · rw [h1, h2]
    · rw [h1, h2]; exact e
  have e2 : rsO x = rsO y := by
    funext i
    unfold rsO
    rcases ps_at hp i with ⟨h1, h2⟩ | ⟨X, Y, h1, h2, e⟩
    · rw [h1, h2]
    · rw [h1, h2]; exact congrArg PPar.rs e
  have e3 : psO x = psO y := by
    funext i
    unfold psO
    rcases ps_at hp i with ⟨h1, h2⟩ | ⟨X, Y, h1, h2, e⟩
    · rw [h1, h2]
    · rw [h1, h2]; exact congrArg PPar.ps e
  have e4 : parC x = parC y := by
    funext i r q
    unfold parC
    rcases ps_at hp i with ⟨h1, h2⟩ | ⟨X, Y, h1, h2, e⟩
    · rw [h1, h2]
    · rw [h1, h2]
      have := e
      simp only [Par.pure, PPar.mk.injEq] at this
      obtain ⟨a, b, c, d, f, g, _, _⟩ := this
      simp only [parV, a, b, c, d, f, g]
  obtain ⟨c0n, c0, c1n, c1, c2n, c2, c3n, c3, c4n, c4, c5n, c5, i1, i2, i3, i4, z1, z2, z3, z4⟩ := hr
  rw [e1] at c0 i1
  rw [e2, e3, e4] at c2
  rw [e2] at i2
  rw [e3] at i3
  exact ⟨c0n, c0, c1n, c1, c2n, c2, c3n, c3, c4n, c4, c5n, c5, i1, i2, i3, i4, z1, z2, z3, z4⟩

/-! ### A region's page is set -/
theorem Small.bnd {x : Cfg} (h : Small x) : Bnd x :=
  ⟨h.1, h.2.1, h.2.2.1, fun X hX => by obtain ⟨j, hj⟩ := List.getElem?_of_mem hX; exact h.2.2.2.1 j X hj, fun P hP => by obtain ⟨j, hj⟩ := List.getElem?_of_mem hP; exact (h.2.2.2.2 j P hj).1, fun P hP => by obtain ⟨j, hj⟩ := List.getElem?_of_mem hP; exact (h.2.2.2.2 j P hj).2⟩
end Go.Proofs.YtjadpbkhfclldaaGreat
