import Derived.Test.YtljhdijledclhaaSd
import Derived.Test.YtljhdijledclhaaKd
namespace Go.Proofs.Ytljhdijledclhaa
open Go.RowKit
set_option linter.unusedVariables false
set_option maxRecDepth 20000
set_option linter.unusedSimpArgs false

theorem book_bk {T : Nat → Prop} {w : World} {WB : Nat} {cells : List Value} {ka : Option Addr} {kc : Nat} {es : List Ent} (hB : Blk w WB cells 38) (hk : BookOk w es (.slice ka es.length kc)) (hwb : (Value.slice ka es.length kc).ownBlock ≠ some WB) (hl : ∀ (i : Nat) (e : Ent), es[i]? = some e → e.lv.ownBlock ≠ some WB) (hT1 : ∀ (k : Nat) (e : Ent) (b : Nat), es[k]? = some e → e.lv.ownBlock = some b → T b) (hT2 : ∀ b, (Value.slice ka es.length kc).ownBlock = some b → T b) :
    ∃ kb cs, Bk ⟨T, w⟩ es WB kb cells ka (fM 0) cs w ∧ (es ≠ [] → kb < w.heap.size) ∧ (∀ (k : Nat) (e : Ent), es[k]? = some e → k * 4 + 3 < cs.length ∧ cs[k * 4 + 1]? = some e.wv) := by
  have hf0 : ∀ k e, fM 0 k e = e.xs := fun k e => by unfold fM; rw [if_neg (by omega)]
  rcases hk.row.2 with ⟨h0, hn0⟩ | ⟨g, cap, cur, h0, hb, hg1, hnc, hcm, hcs, htake⟩
  · have : es = [] := List.eq_nil_of_length_eq_zero hn0
    subst this
    exact ⟨0, [], ⟨hB, fun h => (h rfl).elim, (fun k e he => by simp at he), (fun k e he => by simp at he), (fun k e he => by simp at he), (fun _ _ _ _ _ he => by simp at he), (fun k e he => by simp at he), Keeps.refl _ _, ⟨fun k e b he => by simp at he, fun h => (h rfl).elim⟩⟩, fun h => (h rfl).elim, (fun k e he => by simp at he)⟩
  · cases h0
    have hBk : Blk w g cur.toList 101 := by unfold Blk; rw [hg1, Array.toArray_toList]
    have hcl : cur.toList.length = kc * 4 := hcs
    have hget : ∀ (k : Nat) (e : Ent) (j : Nat), es[k]? = some e → j < 4 → cur.toList[k * 4 + j]? = e.vs[j]? := by
      intro k e j he hj
      have hk' := (List.getElem?_eq_some_iff.1 he).1
      rw [← evs_get es k j e he hj, ← htake, List.getElem?_take]
      rw [if_pos (by omega)]
    refine ⟨g, cur.toList, ⟨hB, fun _ => ⟨rfl, hBk, fun e => hwb (by rw [← e]; rfl)⟩, fun k e he => ?_, fun k e he => ?_, fun k e he => ⟨hl k e he, fun e2 => hk.rowl k e g he e2 rfl⟩, hk.dis, hk.len, Keeps.refl _ _, ⟨hT1, fun _ => hT2 g rfl⟩⟩, fun _ => hBk.lt, fun k e he => ⟨?_, hget k e 1 he (by omega)⟩⟩
    · have := hget k e 0 he (by omega)
      rw [Nat.add_zero] at this
      exact this
    · rw [hf0]; exact ⟨rfl, hk.l k e he⟩
    · have := (List.getElem?_eq_some_iff.1 he).1
      rw [hcl]; omega

theorem mk_num (i : Nat) : (2 * (i : Int) + 2684354561) % 4294967296 = ((mkW i).toNat : Int) := by
  unfold mkW
  rw [UInt32.toNat_ofNat']
  omega
theorem gk_num (i : Nat) : (2 * (i : Int) + 2684354562) % 4294967296 = ((gkW i).toNat : Int) := by
  unfold gkW
  rw [UInt32.toNat_ofNat']
  omega

/-- A cell of a row of words is written. -/
theorem ownsW_set {w : World} {g n cap : Nat} {xs : List Value} (h : w.ownsRow 0 26 1 (.slice (some ⟨g, 0, none⟩) n cap) n xs) (j : Nat) (v : Value) (hj : j < n) : (w.setCell ⟨g, j, none⟩ v).ownsRow 0 26 1 (.slice (some ⟨g, 0, none⟩) n cap) n (xs.set j v) := by
  refine ⟨by rw [List.length_set]; exact h.1, ?_⟩
  rcases h.2 with ⟨h2, _⟩ | ⟨g', cap', cur, h2, hb, hg, h3, h4, h5, h6⟩
  · cases h2
  · cases h2
    have hB : Blk w g cur.toList 26 := by unfold Blk; rw [hg, Array.toArray_toList]
    have hS := hB.setCell j v
    refine .inr ⟨g, cap, (cur.toList.set j v).toArray, rfl, hb, hS, h3, h4, by simp; omega, ?_⟩
    rw [List.toList_toArray, ← h6, List.take_set]
theorem ownsW_blk {w : World} {a : Option Addr} {n cap : Nat} {xs : List Value} (h : w.ownsRow 0 26 1 (.slice a n cap) n xs) (hn : 0 < n) : ∃ g l, a = some ⟨g, 0, none⟩ ∧ Blk w g l 26 ∧ n ≤ l.length := by
  rcases h.2 with ⟨h2, h3⟩ | ⟨g', cap', cur, h2, hb, hg, h3, h4, h5, h6⟩
  · omega
  · cases h2
    exact ⟨g', cur.toList, rfl, by unfold Blk; rw [hg, Array.toArray_toList], by simp; omega⟩
theorem fill_set (xs : List UInt32) (m : UInt32) (t : Nat) (h : t < xs.length) : (wvs (List.replicate t m ++ xs.drop t)).set t (.int .u32 (m.toNat : Int)) = wvs (List.replicate (t + 1) m ++ xs.drop (t + 1)) := by
  rw [wvs_app, List.set_append_right _ _ (by rw [wvs_length]; simp), wvs_length, List.length_replicate, Nat.sub_self]
  rw [List.drop_eq_getElem_cons h]
  have : (wvs (xs[t] :: xs.drop (t + 1))).set 0 (.int .u32 (m.toNat : Int)) = wvs (m :: xs.drop (t + 1)) := rfl
  rw [this, ← wvs_app, List.replicate_succ', List.append_assoc]
  rfl

set_option maxHeartbeats 4000000 in
theorem settle_any (T : Nat → Prop) (WB : Nat) (cells : List Value) (kv : Value) (es : List Ent) (w : World) (hB : Blk w WB cells 38) (h5 : cells[2]? = some kv) (hk : BookOk w es kv) (hwb : kv.ownBlock ≠ some WB) (hl : ∀ (i : Nat) (e : Ent), es[i]? = some e → e.lv.ownBlock ≠ some WB) (hn : es.length ≤ 17179869184) (hT1 : ∀ (k : Nat) (e : Ent) (b : Nat), es[k]? = some e → e.lv.ownBlock = some b → T b) (hT2 : ∀ b, kv.ownBlock = some b → T b) :
    Calls Try.prog 13 #[.pointer (some ⟨WB, 2, none⟩)] w fun e w' => e = .returned (.bool true) ∧ Keeps T w w' := by
  obtain ⟨ka, kc, rfl, hnc, hcm⟩ := owns_slice hk.row
  obtain ⟨kb, cs, hBk, hkb, hcs⟩ := book_bk hB hk hwb hl hT1 hT2
  obtain ⟨fr, hfr⟩ : ∃ fr : Frm, fr = ⟨T, w⟩ := ⟨_, rfl⟩
  rw [← hfr] at hBk
  have HFR : Hid (fr = ⟨T, w⟩) := hfr
  obtain ⟨n, hn'⟩ : ∃ n, n = es.length := ⟨_, rfl⟩
  rw [← hn'] at h5 hnc hn
  have H : Hid (Bk fr es WB kb cells ka (fM 0) cs w ∧ (es ≠ [] → kb < w.heap.size) ∧ (∀ (k : Nat) (e : Ent), es[k]? = some e → k * 4 + 3 < cs.length ∧ cs[k * 4 + 1]? = some e.wv) ∧ n = es.length ∧ cells[2]? = some (.slice ka n kc) ∧ True) := ⟨hBk, hkb, hcs, hn', h5, trivial⟩
  have HQ : Hid (∀ (i : Nat) (e : Ent), es[i]? = some e → w.ownsRow 0 26 1 e.wv e.xs.length (wvs e.xs)) := hk.q
  have hnI : (n : Int) ≤ 17179869184 := by omega
  have hkc : (n : Int) ≤ kc := by omega
  have hkm : (kc : Int) ≤ 9223372036854775807 := by unfold maxLen at hcm; omega
  clear hB h5 hk hwb hl hn hnc hcm hBk hkb hcs hn' hfr hT1 hT2
  go_enter Try.func13, Try.ntmps13
  go_wp2_with fail
  go_loopw [3, 4] (fun ok i wr => ∃ j : Nat, j ≤ n ∧ ok = .bool true ∧ i = .int .i64 (j : Int) ∧ Keeps (fun _ => False) w wr) (fun _ i _ => n - (intOf i).toNat)
  case atStart => exact ⟨0, by omega, rfl, rfl, Keeps.refl _ _⟩
  case round =>
    obtain ⟨j, hj, rfl, rfl, hK⟩ := hrel
    have HK : Hid (Keeps (fun _ => False) w wr) := hK
    have hb := H.out.1.same hK
    have c5 := hb.b.cell H.out.2.2.2.2.1
    by_cases hlt : j < n
    · have hlt' : (j : Int) < n := by omega
      obtain ⟨e, he⟩ : ∃ e, es[j]? = some e := ⟨_, List.getElem?_eq_getElem (by have := H.out.2.2.2.1; omega)⟩
      obtain ⟨hka, hkB, -⟩ := hb.r (by intro e0; rw [e0] at he; simp at he)
      have c0 := hkB.cell (hb.g j e he)
      have c1 := hkB.cell (H.out.2.2.1 j e he).2
      have hlen := H.out.1.len j e he
      obtain ⟨nx, hnx⟩ : ∃ nx, nx = e.xs.length := ⟨_, rfl⟩
      have HS : Hid (Calls _ _ _ _ _) := sameW_any e.a e.wa e.xs e.c e.wc wr.drew (owns_segW (owns_kept (hb.l j e he).2 (Keeps.refl _ _).drew fun _ _ e => e)) (owns_segW (owns_kept (HQ.out j e he) hK.drew fun _ _ e => e)) hlen
      unfold Ent.lv at c0
      unfold Ent.wv at c1
      rw [← hnx] at c0 c1 HS
      subst hka
      have hS0 : wr.drew.cell? ⟨WB, 2, none⟩ = some (.slice (some ⟨kb, 0, none⟩) n kc) ∧ wr.drew.cell? ⟨kb, j * 4, none⟩ = some (.slice e.a nx e.c) ∧ wr.drew.cell? ⟨kb, j * 4 + 1, none⟩ = some (.slice e.wa nx e.wc) := ⟨c5, c0, c1⟩
      clear hK hb hkB he hlen hnx c0 c1
      go_wp2_with fail
      clear c5
      go_region_held3 (fun w' => w'.cell? ⟨WB, 2, none⟩ = some (.slice (some ⟨kb, 0, none⟩) n kc) ∧ w'.cell? ⟨kb, j * 4, none⟩ = some (.slice e.a nx e.c) ∧ w'.cell? ⟨kb, j * 4 + 1, none⟩ = some (.slice e.wa nx e.wc)) (first | exact hS | exact hS0 | go_keep)
        (first | (go_at_call 20; refine HS.out.mono ?_; rintro e w3 ⟨rfl, hk3⟩; have hS := And.intro (cell_kept hS0.1 hk3 id) (And.intro (cell_kept hS0.2.1 hk3 id) (cell_kept hS0.2.2 hk3 id))))
      have HK3 : Hid (Keeps (fun _ => False) w w3) := HK.out.drew.trans hk3 fun _ _ e => e
      clear hS hk3 HS hS0
      go_wp2
      go_roundw
      case rel => exact ⟨j + 1, by omega, rfl, by go_num, HK3.out⟩
      case measure => simp [intOf]; omega
    · obtain rfl : j = n := by omega
      obtain ⟨wA, hwA⟩ : ∃ x, x = wr := ⟨_, rfl⟩
      rw [← hwA] at c5 ⊢
      have HA : Hid (Bk fr es WB kb cells ka (fM 0) cs wA) := by rw [hwA]; exact hb
      clear hb hK hwA HK HQ
      go_wp2_with fail
      focus
        go_loopw [6] (fun i wr => ∃ q : Nat, q ≤ j ∧ i = .int .i64 (q : Int) ∧ Bk fr es WB kb cells ka (fM q) cs wr) (fun i _ => j - (intOf i).toNat)
        case atStart => exact ⟨0, by omega, rfl, HA.out⟩
        case round =>
          obtain ⟨q, hq, rfl, hbq⟩ := hrel
          obtain ⟨wC, hwC⟩ : ∃ x, x = wr := ⟨_, rfl⟩
          rw [← hwC] at hbq ⊢
          have HC : Hid (Bk fr es WB kb cells ka (fM q) cs wC) := hbq
          have c5 := hbq.b.cell H.out.2.2.2.2.1
          clear hwC
          by_cases hlt : q < j
          · have hlt' : (q : Int) < j := by omega
            obtain ⟨e, he⟩ : ∃ e, es[q]? = some e := ⟨_, List.getElem?_eq_getElem (by have := H.out.2.2.2.1; omega)⟩
            have HE : Hid (es[q]? = some e) := he
            obtain ⟨hka, hkB, -⟩ := hbq.r (by intro e0; rw [e0] at he; simp at he)
            have hlen := H.out.1.len q e he
            obtain ⟨nx, hnx⟩ : ∃ nx, nx = e.xs.length := ⟨_, rfl⟩
            have HX : Hid (nx = e.xs.length) := hnx
            rw [← hnx] at hlen
            have hlI : (nx : Int) ≤ 4294967296 := by omega
            have c0 := hkB.cell (hbq.g q e he)
            unfold Ent.lv at c0
            rw [← hnx] at c0
            subst hka
            have hmk := mk_num q
            obtain ⟨mt, hmt⟩ : ∃ mt : Nat, mt = (mkW q).toNat := ⟨_, rfl⟩
            have HM : Hid (mt = (mkW q).toNat) := hmt
            rw [← hmt] at hmk
            have hq2 : IntKind.i64.wrap (2 * (q : Int)) = 2 * (q : Int) := by rw [IntKind.wrap_i64]; omega
            clear hbq hkB he hnx hlen hmt
            go_wp2_with fail
            go_loopw [7] (fun i wr => ∃ t : Nat, t ≤ nx ∧ i = .int .i64 (t : Int) ∧ wr.ownsRow 0 26 1 e.lv e.xs.length (wvs (List.replicate t (mkW q) ++ e.xs.drop t)) ∧ Keeps (fun k => some k = e.lv.ownBlock) wC wr) (fun i _ => nx - (intOf i).toNat)
            case atStart =>
              refine ⟨0, by omega, rfl, ?_, Keeps.refl _ _⟩
              have := (HC.out.l q e HE.out).2
              unfold fM at this
              rw [if_neg (by omega)] at this
              simpa using this
            case round =>
              obtain ⟨t, ht, rfl, hot, hKt⟩ := hrel
              have hwbk := HC.out.wb q e HE.out
              have c5 := (HC.out.b.kept hKt fun e2 => hwbk.1 e2.symm).cell H.out.2.2.2.2.1
              have hne0 : es ≠ [] := by intro e0; have := HE.out; rw [e0] at this; simp at this
              have c0 := ((HC.out.r hne0).2.1.kept hKt fun e2 => hwbk.2 e2.symm).cell (HC.out.g q e HE.out)
              unfold Ent.lv at c0
              rw [← HX.out] at c0
              have HT : Hid (wr.ownsRow 0 26 1 e.lv e.xs.length (wvs (List.replicate t (mkW q) ++ e.xs.drop t)) ∧ Keeps (fun k => some k = e.lv.ownBlock) wC wr) := ⟨hot, hKt⟩
              by_cases hltt : t < nx
              · have hltt' : (t : Int) < nx := by omega
                obtain ⟨g, l, hg, hBg, hnl⟩ := ownsW_blk hot (by have := HX.out; omega)
                have zg := hBg.frozen t
                have zc : (l[t]?).isSome = true := by have := HX.out; simp; omega
                obtain ⟨lv0, hlv0⟩ := Option.isSome_iff_exists.1 zc
                have cg := hBg.cell hlv0
                rw [hg] at c0
                have HN : Hid ((wr.setCell ⟨g, t, none⟩ (.int .u32 (mt : Int))).ownsRow 0 26 1 e.lv e.xs.length (wvs (List.replicate (t + 1) (mkW q) ++ e.xs.drop (t + 1))) ∧ Keeps (fun k => some k = e.lv.ownBlock) wC (wr.setCell ⟨g, t, none⟩ (.int .u32 (mt : Int)))) := by
                  have hlv : e.lv = .slice (some ⟨g, 0, none⟩) e.xs.length e.c := by unfold Ent.lv; rw [hg]
                  refine ⟨?_, hKt.setCell _ _ fun _ => by rw [hlv]; rfl⟩
                  rw [← fill_set e.xs (mkW q) t (by have := HX.out; omega), hlv, HM.out]
                  rw [hlv] at hot
                  exact ownsW_set hot t _ (by have := HX.out; omega)
                clear hot hKt hwbk hBg hnl zc hlv0 hne0 hg
                go_wp2
                go_roundw
                case rel => exact ⟨t + 1, by omega, by go_num, HN.out⟩
                case measure => simp [intOf]; omega
              · obtain rfl : t = nx := by omega
                clear hot hKt hwbk hne0
                have HU : Hid (Bk fr es WB kb cells (some ⟨kb, 0, none⟩) (fM (q + 1)) cs wr) := by
                  have hfq : fM (q + 1) q e = List.replicate e.xs.length (mkW q) := by unfold fM; rw [if_pos (by omega)]
                  refine HC.out.upd HE.out HT.out.2 ?_ (by rw [hfq, List.length_replicate]) ?_
                  · rw [hfq]
                    have := HT.out.1
                    rw [HX.out, List.drop_length, List.append_nil] at this
                    exact this
                  · intro k e' hk
                    unfold fM
                    by_cases h1 : k < q
                    · rw [if_pos h1, if_pos (by omega)]
                    · rw [if_neg h1, if_neg (by omega)]
                go_wp2
                go_roundw
                case rel => exact ⟨q + 1, by omega, by go_num, HU.out⟩
                case measure => simp [intOf]; omega
          · obtain rfl : q = j := by omega
            have HB2 : Hid (Bk2 fr es WB kb cells ka wC.heap.size 0 cs wC) := by
              have e1 : q = es.length := H.out.2.2.2.1
              refine ⟨by rw [← e1]; exact hbq, fun k e b he hb => owns_lt (hbq.l k e he).2 hb, fun hne => (hbq.r hne).2.1.lt, Nat.le_refl _, fun k e hk => by omega, fun k e he => (H.out.2.2.1 k e he).1⟩
            obtain ⟨N0, hN0⟩ : ∃ N0, N0 = wC.heap.size := ⟨_, rfl⟩
            rw [← hN0] at HB2
            clear hbq HC HA hN0
            go_wp2_with fail
            focus
              go_loopw [8] (fun i wr => ∃ (p : Nat) (cs : List Value), p ≤ q ∧ i = .int .i64 (p : Int) ∧ Bk2 fr es WB kb cells ka N0 p cs wr) (fun i _ => q - (intOf i).toNat)
              case atStart => exact ⟨0, cs, by omega, rfl, HB2.out⟩
              case round =>
                obtain ⟨p, cp, hp, rfl, hbp⟩ := hrel
                obtain ⟨wE, hwE⟩ : ∃ x, x = wr := ⟨_, rfl⟩
                rw [← hwE] at hbp ⊢
                have HP : Hid (Bk2 fr es WB kb cells ka N0 p cp wE) := hbp
                have c5 := hbp.bk.b.cell H.out.2.2.2.2.1
                clear hwE
                by_cases hlt : p < q
                · have hlt' : (p : Int) < q := by omega
                  obtain ⟨e, he⟩ : ∃ e, es[p]? = some e := ⟨_, List.getElem?_eq_getElem (by have := H.out.2.2.2.1; omega)⟩
                  have HE : Hid (es[p]? = some e) := he
                  obtain ⟨hka, hkB, hkw⟩ := hbp.bk.r (by intro e0; rw [e0] at he; simp at he)
                  have hlen := H.out.1.len p e he
                  obtain ⟨nx, hnx⟩ : ∃ nx, nx = e.xs.length := ⟨_, rfl⟩
                  have HX : Hid (nx = e.xs.length) := hnx
                  rw [← hnx] at hlen
                  have hlI : (nx : Int) ≤ 4294967296 := by omega
                  have c0 := hkB.cell (hbp.bk.g p e he)
                  unfold Ent.lv at c0
                  rw [← hnx] at c0
                  subst hka
                  have hgk := gk_num p
                  obtain ⟨gt, hgt⟩ : ∃ gt : Nat, gt = (gkW p).toNat := ⟨_, rfl⟩
                  have HG : Hid (gt = (gkW p).toNat) := hgt
                  rw [← hgt] at hgk
                  have hp2 : IntKind.i64.wrap (2 * (p : Int)) = 2 * (p : Int) := by rw [IntKind.wrap_i64]; omega
                  clear hbp hkB he hnx hlen hgt hkw
                  go_wp2_with fail
                  go_loopw [9, 10, 11] (fun v mv i wr => ∃ t : Nat, t ≤ 64 ∧ i = .int .i64 (t : Int) ∧ GrI (fun _ => False) wE e.a e.c (List.replicate e.xs.length (mkW p)) (gkW p) (min t 17) t v mv wr) (fun _ _ i _ => 64 - (intOf i).toNat)
                  case atStart =>
                    refine ⟨0, by omega, rfl, ?_⟩
                    have h1 := (HP.out.bk.l p e HE.out).2
                    have hfi : fM es.length p e = List.replicate e.xs.length (mkW p) := by unfold fM; rw [if_pos (by have := H.out.2.2.2.1; omega)]
                    rw [hfi] at h1
                    have h2 := GrI.start (fun _ => False) wE e.a e.c (List.replicate e.xs.length (mkW p)) (gkW p) (by rw [List.length_replicate]; exact h1)
                    rw [List.length_replicate, ← HX.out] at h2
                    rw [HX.out]
                    rw [HX.out] at h2
                    exact h2
                  case round =>
                    obtain ⟨t, ht, rfl, hGt⟩ := hrel
                    have hlo : ∀ b, (Value.slice e.a (List.replicate e.xs.length (mkW p)).length e.c).ownBlock = some b → b < wE.heap.size := by
                      intro b hb
                      exact Nat.lt_of_lt_of_le (HP.out.lt p e b HE.out (by rw [← hb]; exact own_any _ _ _ _ _)) HP.out.ge
                    have hlr : (List.replicate e.xs.length (mkW p)).length ≤ 4294967296 := by rw [List.length_replicate]; have := HX.out; omega
                    by_cases hlt : t < 64
                    · have hltt' : (t : Int) < 64 := by omega
                      by_cases h17 : t < 17
                      · have h17' : (t : Int) < 17 := by omega
                        obtain ⟨v1, W1, hr1, hG1⟩ := hGt.one hlo hlr (by omega)
                        obtain ⟨v2, W2, hr2, hG2⟩ := hG1.more hlo (by omega)
                        have HG2 : Hid (GrI (fun _ => False) wE e.a e.c (List.replicate e.xs.length (mkW p)) (gkW p) (min (t + 1) 17) (t + 1) v1 v2 W2) := by
                          rw [show min (t + 1) 17 = min t 17 + 1 by omega]; exact hG2
                        rw [← HG.out] at hr1 hr2
                        have HR1 : Hid (∀ ty, _) := hr1
                        have HR2 : Hid (∀ ty, _) := hr2
                        clear hGt hG1 hG2 hr1 hr2 hlo hlr
                        go_wp2_with (at_builtin; go_must (refine wpList_append_run rfl (.tmp 106) (.tmp 111) 27 27 rfl u9 (.slice (some ⟨wr.heap.size, 0, none⟩) 1 1) v1 W1 rfl rfl HR1.out ?_; refine Hid.out ?_))
                        unfold Hid
                        clear HR1
                        go_wp2_with (at_builtin; go_must (refine wpList_append_run rfl (.tmp 113) (.tmp 118) 27 27 rfl u10 (.slice (some ⟨W1.heap.size, 0, none⟩) 1 1) v2 W2 rfl rfl HR2.out ?_; refine Hid.out ?_))
                        unfold Hid
                        clear HR2
                        go_wp2
                        go_roundw
                        case rel => exact ⟨t + 1, by omega, by go_num, HG2.out⟩
                        case measure => simp [intOf]; omega
                      · have h17' : ¬ (t : Int) < 17 := by omega
                        obtain ⟨v2, W2, hr2, hG2⟩ := hGt.more hlo (by omega)
                        have HG2 : Hid (GrI (fun _ => False) wE e.a e.c (List.replicate e.xs.length (mkW p)) (gkW p) (min (t + 1) 17) (t + 1) u9 v2 W2) := by
                          rw [show min (t + 1) 17 = min t 17 by omega]; exact hG2
                        rw [← HG.out] at hr2
                        have HR2 : Hid (∀ ty, _) := hr2
                        clear hGt hG2 hr2 hlo hlr
                        go_wp2_with (at_builtin; go_must (refine wpList_append_run rfl (.tmp 113) (.tmp 118) 27 27 rfl u10 (.slice (some ⟨wr.heap.size, 0, none⟩) 1 1) v2 W2 rfl rfl HR2.out ?_; refine Hid.out ?_))
                        unfold Hid
                        clear HR2
                        go_wp2
                        go_roundw
                        case rel => exact ⟨t + 1, by omega, by go_num, HG2.out⟩
                        case measure => simp [intOf]; omega
                    · obtain rfl : t = 64 := by omega
                      rw [show min 64 17 = 17 from rfl] at hGt
                      have hne0 : es ≠ [] := by intro e0; have := HE.out; rw [e0] at this; simp at this
                      have hun : (Value.slice e.a (List.replicate e.xs.length (mkW p)).length e.c).ownBlock ≠ some kb := by
                        rw [own_any _ _ _ e.xs.length e.c]; exact (HP.out.bk.wb p e HE.out).2
                      have hunW : (Value.slice e.a (List.replicate e.xs.length (mkW p)).length e.c).ownBlock ≠ some WB := by
                        rw [own_any _ _ _ e.xs.length e.c]; exact (HP.out.bk.wb p e HE.out).1
                      have hkbE : kb < wE.heap.size := Nat.lt_of_lt_of_le (HP.out.kb hne0) HP.out.ge
                      have hkw := (HP.out.bk.r hne0).2.2
                      have hKG : Keeps (fun k => some k = (Value.slice e.a (List.replicate e.xs.length (mkW p)).length e.c).ownBlock ∨ False) wE wr := hGt.2.2.2.2.2
                      have hBw := HP.out.bk.b.kept hKG (fun e2 => e2.elim (fun e2 => hunW e2.symm) id)
                      have hBk := (HP.out.bk.r hne0).2.1.kept hKG (fun e2 => e2.elim (fun e2 => hun e2.symm) id)
                      obtain ⟨av, cv, hav, -, -⟩ := owns_slice hGt.2.1
                      obtain ⟨am, cm, ham, -, -⟩ := owns_slice hGt.2.2.1
                      obtain ⟨nv, hnv⟩ : ∃ nv, nv = (List.replicate e.xs.length (mkW p)).length + 17 := ⟨_, rfl⟩
                      rw [← hnv] at hav
                      subst hav ham
                      obtain ⟨W2, hW2⟩ : ∃ W2, W2 = wr.setCell ⟨kb, p * 4 + 2, none⟩ (.slice av nv cv) := ⟨_, rfl⟩
                      have hKk : Keeps (· = kb) wr W2 := by rw [hW2]; exact (Keeps.refl _ _).setCell _ _ fun _ => rfl
                      have hGS := (hGt.store hun hkbE (p * 4 + 2) (.slice av nv cv))
                      rw [← hW2] at hGS
                      obtain ⟨v3, W3, hr3, hG3, hK3⟩ := (hGS.same (Keeps.refl _ _).drew).last hlo hlr
                      have hBk2 : Blk W2 kb (cp.set (p * 4 + 2) (.slice av nv cv)) 101 := by rw [hW2]; exact hBk.setCell _ _
                      have hBw2 : Blk W2 WB cells 38 := hBw.kept hKk fun e2 => hkw e2.symm
                      have hBk3 : Blk W3 kb (cp.set (p * 4 + 2) (.slice av nv cv)) 101 := hBk2.drew.kept hK3 fun e2 => hun e2.symm
                      have hBw3 : Blk W3 WB cells 38 := hBw2.drew.kept hK3 fun e2 => hunW e2.symm
                      have hst := HP.out.step HE.out hGt hG3 hBk3
                      have hcl := HP.out.cl p e HE.out
                      obtain ⟨a3, c3, ha3, -, -⟩ := owns_slice hG3.2.2.1
                      obtain ⟨n3, hn3⟩ : ∃ n3, n3 = (List.replicate e.xs.length (mkW p)).length + 64 := ⟨_, rfl⟩
                      rw [← hn3] at ha3
                      subst ha3
                      obtain ⟨W4, hW4⟩ : ∃ W4, W4 = W3.setCell ⟨kb, p * 4 + 3, none⟩ (.slice a3 n3 c3) := ⟨_, rfl⟩
                      rw [← hW4] at hst
                      have hBk4 : Blk W4 kb ((cp.set (p * 4 + 2) (.slice av nv cv)).set (p * 4 + 3) (.slice a3 n3 c3)) 101 := by rw [hW4]; exact hBk3.setCell _ _
                      have HST : Hid (Bk2 fr es WB kb cells (some ⟨kb, 0, none⟩) N0 (p + 1) ((cp.set (p * 4 + 2) (.slice av nv cv)).set (p * 4 + 3) (.slice a3 n3 c3)) W4) := hst
                      have g0 := HP.out.bk.g p e HE.out
                      have c5 := hBw.cell H.out.2.2.2.2.1
                      have c0 := hBk.cell g0
                      obtain ⟨x2, hx2⟩ : ∃ x2, cp[p * 4 + 2]? = some x2 := ⟨_, List.getElem?_eq_getElem (by omega)⟩
                      have c2 := hBk.cell hx2
                      have z2 := hBk.frozen (p * 4 + 2)
                      have z3 := hBk3.frozen (p * 4 + 3)
                      obtain ⟨x3, hx3⟩ : ∃ x3, (cp.set (p * 4 + 2) (.slice av nv cv))[p * 4 + 3]? = some x3 := ⟨_, List.getElem?_eq_getElem (by rw [List.length_set]; omega)⟩
                      have cx3 := hBk3.cell hx3
                      have hS2 : W2.drew.cell? ⟨WB, 2, none⟩ = some (.slice (some ⟨kb, 0, none⟩) q kc) ∧ W2.drew.cell? ⟨kb, p * 4, none⟩ = some (.slice e.a nx e.c) := ⟨hBw2.drew.cell H.out.2.2.2.2.1, by
                        rw [HX.out]; exact hBk2.drew.cell (by rw [List.getElem?_set_ne (by omega)]; exact g0)⟩
                      have hS3 : W3.cell? ⟨WB, 2, none⟩ = some (.slice (some ⟨kb, 0, none⟩) q kc) ∧ W3.cell? ⟨kb, p * 4, none⟩ = some (.slice e.a nx e.c) := ⟨hBw3.cell H.out.2.2.2.2.1, by
                        rw [HX.out]; exact hBk3.cell (by rw [List.getElem?_set_ne (by omega)]; exact g0)⟩
                      have hS4 : W4.cell? ⟨WB, 2, none⟩ = some (.slice (some ⟨kb, 0, none⟩) q kc) ∧ W4.cell? ⟨kb, p * 4, none⟩ = some (.slice e.a nx e.c) := ⟨cell_kept (S := (· = kb)) hS3.1 (by rw [hW4]; exact (Keeps.refl _ _).setCell _ _ fun _ => rfl) fun e2 => hkw e2.symm, by
                        rw [HX.out]; exact hBk4.cell (by rw [List.getElem?_set_ne (by omega), List.getElem?_set_ne (by omega)]; exact g0)⟩
                      unfold Ent.lv at c0
                      rw [List.length_replicate, ← HX.out] at hr3
                      rw [← HX.out] at c0
                      have HR3 : Hid (∀ ty, _) := hr3
                      have HW2 : Hid (W2 = wr.setCell ⟨kb, p * 4 + 2, none⟩ (.slice av nv cv)) := hW2
                      have HW4 : Hid (W4 = W3.setCell ⟨kb, p * 4 + 3, none⟩ (.slice a3 n3 c3)) := hW4
                      have HS : Hid (_ ∧ _ ∧ _) := ⟨hS2, hS3, hS4⟩
                      clear hGt hne0 hun hunW hkbE hkw hKG hBw hBk hnv hKk hGS hr3 hG3 hK3 hBk2 hBw2 hBk3 hBw3 hst hx2 hx3 hcl hn3 hBk4 g0 hS2 hS3 hS4 hW2 hW4 hlo hlr
                      go_wp2_with fail
                      rw [← HW2.out]
                      clear HW2
                      refine wp_region_held_drew (S := (fun w' => w'.cell? ⟨WB, 2, none⟩ = some (.slice (some ⟨kb, 0, none⟩) q kc) ∧ w'.cell? ⟨kb, p * 4, none⟩ = some (.slice e.a nx e.c))) Try.mixed HS.out.1 (fun hHeld => ?_)
                      simp only [List.size_toArray, List.length_cons, List.length_nil, Nat.reduceAdd, Array.replicate_succ, Array.replicate_zero, List.push_toArray, List.append_toArray, List.nil_append, List.cons_append]
                      refine hk 0 (.pointer (some ⟨WB, 2, none⟩)) hHeld ?_
                      simp only [Act.put, List.setIfInBounds_toArray, List.set_cons_zero, List.set_cons_succ]
                      refine hk 1 (.pointer (some ⟨WB, 2, none⟩)) hHeld ?_
                      simp only [Act.put, List.setIfInBounds_toArray, List.set_cons_zero, List.set_cons_succ]
                      refine hk 2 (.pointer (some ⟨WB, 2, none⟩)) hHeld ?_
                      simp only [Act.put, List.setIfInBounds_toArray, List.set_cons_zero, List.set_cons_succ]
                      refine hk 3 (.slice (some ⟨kb, 0, none⟩) q kc) hHeld ?_
                      simp only [Act.put, List.setIfInBounds_toArray, List.set_cons_zero, List.set_cons_succ]
                      refine hk 4 (.int .i64 (p : Int)) hHeld ?_
                      simp only [Act.put, List.setIfInBounds_toArray, List.set_cons_zero, List.set_cons_succ]
                      refine hk 5 (.pointer (some ⟨WB, 2, none⟩)) hHeld ?_
                      simp only [Act.put, List.setIfInBounds_toArray, List.set_cons_zero, List.set_cons_succ]
                      refine hk 6 (.pointer (some ⟨WB, 2, none⟩)) hHeld ?_
                      simp only [Act.put, List.setIfInBounds_toArray, List.set_cons_zero, List.set_cons_succ]
                      refine hk 7 (.pointer (some ⟨WB, 2, none⟩)) hHeld ?_
                      simp only [Act.put, List.setIfInBounds_toArray, List.set_cons_zero, List.set_cons_succ]
                      refine hk 8 (.slice (some ⟨kb, 0, none⟩) q kc) hHeld ?_
                      simp only [Act.put, List.setIfInBounds_toArray, List.set_cons_zero, List.set_cons_succ]
                      refine hk 9 (.int .i64 (p : Int)) hHeld ?_
                      simp only [Act.put, List.setIfInBounds_toArray, List.set_cons_zero, List.set_cons_succ]
                      refine hk 10 (.pointer (some ⟨kb, p * 4, none⟩)) hHeld ?_
                      simp only [Act.put, List.setIfInBounds_toArray, List.set_cons_zero, List.set_cons_succ]
                      refine hk 11 (.pointer (some ⟨kb, p * 4, none⟩)) hHeld ?_
                      simp only [Act.put, List.setIfInBounds_toArray, List.set_cons_zero, List.set_cons_succ]
                      refine hk 12 (.slice e.a nx e.c) hHeld ?_
                      simp only [Act.put, List.setIfInBounds_toArray, List.set_cons_zero, List.set_cons_succ]
                      refine hk 13 (.slice am 64 cm) hHeld ?_
                      simp only [Act.put, List.setIfInBounds_toArray, List.set_cons_zero, List.set_cons_succ]
                      refine wpAnyH_ready (rs := [14]) (by kernel_rfl) (by simp) ?_
                      refine AllReadyH.cons rfl (fun K hK => ?_) AllReadyH.nil
                      rw [if_pos (by rfl)]
                      refine wp_append_run (.tmp 140) (.tmp 141) 27 27 rfl (.slice e.a nx e.c) (.slice am 64 cm) (.slice a3 n3 c3) W3 rfl rfl HR3.out ?_
                      refine hK.out _ _ HS.out.2.1 (fun hHeld => ?_)
                      simp only [Act.put, List.setIfInBounds_toArray, List.set_cons_zero, List.set_cons_succ]
                      refine hk 15 (.pointer (some ⟨kb, p * 4, none⟩)) hHeld ?_
                      simp only [Act.put, List.setIfInBounds_toArray, List.set_cons_zero, List.set_cons_succ]
                      refine hk 16 (.pointer (some ⟨kb, p * 4 + 3, none⟩)) hHeld ?_
                      simp only [Act.put, List.setIfInBounds_toArray, List.set_cons_zero, List.set_cons_succ]
                      refine wpAnyH_ready (rs := [17]) (by kernel_rfl) (by simp) ?_
                      refine AllReadyH.cons rfl (fun K hK => ?_) AllReadyH.nil
                      go_simp
                      rw [← HW4.out]
                      refine hK.out _ _ HS.out.2.2 (fun hHeld => ?_)
                      simp only [Act.put, List.setIfInBounds_toArray, List.set_cons_zero, List.set_cons_succ]
                      refine wpAnyH_done (by kernel_rfl) ?_ _
                      clear hHeld hK HS HW4 HR3 c5 c0 c2 cx3 z2 z3
                      go_wp2
                      go_roundw
                      case rel => exact ⟨p + 1, _, by omega, by go_num, HST.out⟩
                      case measure => simp [intOf]; omega
                · obtain rfl : p = q := by omega
                  clear hbp HB2
                  go_wp2_with fail
                  focus
                    go_loopw [3, 12] (fun ok i wr => ∃ r : Nat, r ≤ p ∧ ok = .bool true ∧ i = .int .i64 (r : Int) ∧ Keeps (fun _ => False) wE wr) (fun _ i _ => p - (intOf i).toNat)
                    case atStart => exact ⟨0, by omega, rfl, rfl, Keeps.refl _ _⟩
                    case round =>
                      obtain ⟨r, hr, rfl, rfl, hKr⟩ := hrel
                      have HKr : Hid (Keeps (fun _ => False) wE wr) := hKr
                      have hbr := HP.out.same hKr
                      have c5 := hbr.bk.b.cell H.out.2.2.2.2.1
                      by_cases hlt : r < p
                      · have hlt' : (r : Int) < p := by omega
                        obtain ⟨e, he⟩ : ∃ e, es[r]? = some e := ⟨_, List.getElem?_eq_getElem (by have := H.out.2.2.2.1; omega)⟩
                        obtain ⟨hka, hkB, -⟩ := hbr.bk.r (by intro e0; rw [e0] at he; simp at he)
                        obtain ⟨one, many, hg1, hg2, hd1, hd2, -, -⟩ := hbr.done r e hlt he
                        have hlen := H.out.1.len r e he
                        have hl0 := (hbr.bk.l r e he).2
                        have hfi : fM es.length r e = List.replicate e.xs.length (mkW r) := by unfold fM; rw [if_pos (by have := H.out.2.2.2.1; omega)]
                        rw [hfi] at hl0
                        obtain ⟨nx, hnx⟩ : ∃ nx, nx = e.xs.length := ⟨_, rfl⟩
                        unfold Ent.lv at hl0
                        rw [← hnx] at hlen hl0 hd1 hd2
                        obtain ⟨a1, d1, rfl, -, -⟩ := owns_slice hd1
                        obtain ⟨a2, d2, rfl, -, -⟩ := owns_slice hd2
                        have c0 := hkB.cell (hbr.bk.g r e he)
                        have c2 := hkB.cell hg1
                        have c3 := hkB.cell hg2
                        unfold Ent.lv at c0
                        rw [← hnx] at c0
                        have s0 : SegW wr e.a (List.replicate nx (mkW r) ++ List.replicate 0 (gkW r)) := by
                          rw [List.replicate_zero, List.append_nil]
                          exact owns_segW (c := e.c) (by rw [List.length_replicate]; exact hl0)
                        have s1 : SegW wr a1 (List.replicate nx (mkW r) ++ List.replicate 17 (gkW r)) := owns_segW (c := d1) (by rw [List.length_append, List.length_replicate, List.length_replicate]; exact hd1)
                        have s2 : SegW wr a2 (List.replicate nx (mkW r) ++ List.replicate 64 (gkW r)) := owns_segW (c := d2) (by rw [List.length_append, List.length_replicate, List.length_replicate]; exact hd2)
                        have HA0 : ∀ w', Keeps (fun _ => False) wr w' → Calls _ _ _ w' _ := fun w' hk' => allWords_any e.a e.c nx 0 (mkW r) (gkW r) w' (s0.kept hk' fun _ _ e => e) (by omega)
                        have HA1 : ∀ w', Keeps (fun _ => False) wr w' → Calls _ _ _ w' _ := fun w' hk' => allWords_any a1 d1 nx 17 (mkW r) (gkW r) w' (s1.kept hk' fun _ _ e => e) (by omega)
                        have HA2 : ∀ w', Keeps (fun _ => False) wr w' → Calls _ _ _ w' _ := fun w' hk' => allWords_any a2 d2 nx 64 (mkW r) (gkW r) w' (s2.kept hk' fun _ _ e => e) (by omega)
                        have hmk := mk_num r
                        have hgk := gk_num r
                        obtain ⟨mt, hmt⟩ : ∃ mt : Nat, mt = (mkW r).toNat := ⟨_, rfl⟩
                        obtain ⟨gt, hgt⟩ : ∃ gt : Nat, gt = (gkW r).toNat := ⟨_, rfl⟩
                        rw [← hmt, ← hgt] at HA0 HA1 HA2
                        rw [← hmt] at hmk
                        rw [← hgt] at hgk
                        rw [Nat.add_zero] at HA0
                        obtain ⟨n1, hn1⟩ : ∃ n1, n1 = nx + 17 := ⟨_, rfl⟩
                        obtain ⟨n2, hn2⟩ : ∃ n2, n2 = nx + 64 := ⟨_, rfl⟩
                        rw [← hn1] at HA1 c2
                        rw [← hn2] at HA2 c3
                        have HA0 : Hid (∀ w', _) := HA0
                        have HA1 : Hid (∀ w', _) := HA1
                        have HA2 : Hid (∀ w', _) := HA2
                        have HC : Hid (_ ∧ _ ∧ _ ∧ _) := ⟨c5, c0, c2, c3⟩
                        have hp2 : IntKind.i64.wrap (2 * (r : Int)) = 2 * (r : Int) := by rw [IntKind.wrap_i64]; omega
                        subst hka
                        clear hKr hbr hkB he hg1 hg2 hd1 hd2 hlen hl0 hfi hnx s0 s1 s2 hmt hgt hn1 hn2
                        go_wp2_with fail
                        refine (HA0.out _ (Keeps.refl _ _)).mono ?_
                        rintro e1 w1 ⟨rfl, hk1⟩
                        have HK1 : Hid (Keeps (fun _ => False) wr w1) := hk1
                        have c5' := cell_kept HC.out.1 hk1 id
                        have c2' := cell_kept HC.out.2.2.1 hk1 id
                        clear hk1 c5 c0 c2 c3
                        go_wp2_with fail
                        refine (HA1.out _ HK1.out).mono ?_
                        rintro e1 w2 ⟨rfl, hk2⟩
                        have HK2 : Hid (Keeps (fun _ => False) wr w2) := HK1.out.trans hk2 fun _ _ e => e
                        have c5'' := cell_kept HC.out.1 HK2.out id
                        have c3'' := cell_kept HC.out.2.2.2 HK2.out id
                        clear hk2 c5' c2'
                        go_wp2_with fail
                        refine (HA2.out _ HK2.out).mono ?_
                        rintro e1 w3 ⟨rfl, hk3⟩
                        have HK3 : Hid (Keeps (fun _ => False) wE w3) := HKr.out.trans (HK2.out.trans hk3 fun _ _ e => e) fun _ _ e => e
                        clear hk3 c5'' c3''
                        go_wp2
                        go_roundw
                        case rel => exact ⟨r + 1, by omega, rfl, by go_num, HK3.out⟩
                        case measure => simp [intOf]; omega
                      · obtain rfl : r = p := by omega
                        obtain ⟨wG, hwG⟩ : ∃ x, x = wr := ⟨_, rfl⟩
                        rw [← hwG] at c5 ⊢
                        have HKG : Hid (Keeps T w wG) := by
                          have := hbr.bk.kp
                          rw [HFR.out] at this
                          rw [hwG]; exact this
                        clear hwG hbr hKr
                        go_wp2_with fail
                        focus
                          go_wp2
                          go_ret
                          exact ⟨rfl, HKG.out⟩
end Go.Proofs.Ytljhdijledclhaa
