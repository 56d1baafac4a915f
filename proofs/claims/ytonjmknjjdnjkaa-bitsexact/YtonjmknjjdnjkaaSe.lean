import Derived.Test.YtonjmknjjdnjkaaStE
namespace Go.Proofs.Ytonjmknjjdnjkaa
open Go.RowKit
set_option linter.unusedVariables false
set_option linter.unusedSimpArgs false
set_option maxRecDepth 20000

set_option maxHeartbeats 8000000 in
theorem settle_any (NB : Nat) (w : World) (X : Nat) (cells : List Value) (eB eW : List Ent) (ba ka : Option Addr) (bc kc m n kb kw : Nat) (cs cw : List Value) (h : Bks NB w X cells eB eW ba ka bc kc m n kb kw cs cw) :
    Calls Try.prog 16 #[.pointer (some ⟨X, 4, none⟩)] w fun e w' => e = .returned (.bool true) ∧ Keeps (fun k => NB ≤ k) w w' := by
  have H : Hid (Bks NB w X cells eB eW ba ka bc kc m n kb kw cs cw) := h
  have hmI : (m : Int) ≤ 4294967296 := by have := h.sz; omega
  have hnI : (n : Int) ≤ 4294967296 := by have := h.sz; omega
  have hbc : (m : Int) ≤ bc := by have := h.sz; omega
  have hkc : (n : Int) ≤ kc := by have := h.sz; omega
  have hbm : (bc : Int) ≤ 9223372036854775807 := by have := h.sz; unfold maxLen at this; omega
  have hkm : (kc : Int) ≤ 9223372036854775807 := by have := h.sz; unfold maxLen at this; omega
  clear h
  go_enter Try.func16, Try.ntmps16
  go_wp2_with fail
  go_loopw [3, 4] (fun ok i wr => ∃ j : Nat, j ≤ m ∧ ok = .bool true ∧ i = .int .i64 (j : Int) ∧ Keeps (fun _ => False) w wr) (fun _ i _ => m - (intOf i).toNat)
  case atStart => exact ⟨0, by omega, rfl, rfl, Keeps.refl _ _⟩
  case round =>
    obtain ⟨j, hj, rfl, rfl, hK⟩ := hrel
    have HK : Hid (Keeps (fun _ => False) w wr) := hK
    have hb := H.out.b.same hK
    have c4 := hb.b.cell H.out.c4
    have c5 := hb.b.cell H.out.c5
    by_cases hlt : j < m
    · as_aux_lemma =>
        have hlt' : (j : Int) < m := by omega
        obtain ⟨e, he⟩ : ∃ e, eB[j]? = some e := ⟨_, List.getElem?_eq_getElem (by have := H.out.hm; omega)⟩
        obtain ⟨hka, hkB, -⟩ := hb.r (by intro e0; rw [e0] at he; simp at he)
        obtain ⟨-, q1, q2, xs, hxs⟩ := H.out.qb j e he
        have c0 := hkB.cell (hb.g j e he)
        have c1 := hkB.cell q1
        have hlen := H.out.b.len j e he
        obtain ⟨wa, wc, hwv, -, -⟩ := own_slice q2
        have r0 := owns_kept (hb.l j e he).2 ((Keeps.refl (fun _ => False) wr).drew) fun _ _ e => e
        have f0 : fM (frB NB w) 0 j e = e.xs := by unfold fM; rw [if_neg (by omega)]
        have r1 := owns_kept q2 hK.drew fun _ _ e => e
        rw [f0] at r0
        unfold Ent.lv at r0 c0
        rw [hwv] at r1 c1
        rw [hxs, bvs_length] at r0 r1 c0 c1 hlen
        have HS : Hid (Calls _ _ _ _ _) := sameBytes_any e.a wa xs.length wc xs xs wr.drew (own_seg r0).2 (own_seg r1).2 (by unfold maxLen; omega) rfl
        obtain ⟨nx, hnx⟩ : ∃ nx, nx = xs.length := ⟨_, rfl⟩
        rw [← hnx] at c0 c1 HS
        subst hka
        have hS0 : wr.drew.cell? ⟨X, 4, none⟩ = some (.slice (some ⟨kb, 0, none⟩) m bc) ∧ wr.drew.cell? ⟨kb, j * 4, none⟩ = some (.slice e.a nx nx) ∧ wr.drew.cell? ⟨kb, j * 4 + 1, none⟩ = some (.slice wa nx wc) := ⟨c4, c0, c1⟩
        clear hK hb hkB he hlen hnx c0 c1 hwv r0 r1 f0 q1 q2 hxs
        go_wp2_with fail
        clear c4 c5
        go_region_held3 (fun w' => w'.cell? ⟨X, 4, none⟩ = some (.slice (some ⟨kb, 0, none⟩) m bc) ∧ w'.cell? ⟨kb, j * 4, none⟩ = some (.slice e.a nx nx) ∧ w'.cell? ⟨kb, j * 4 + 1, none⟩ = some (.slice wa nx wc)) (first | exact hS | exact hS0 | go_keep)
          (first | (go_at_call 66; refine HS.out.mono ?_; rintro e w3 ⟨rfl, hk3⟩; have hS := And.intro (cell_kept hS0.1 hk3 id) (And.intro (cell_kept hS0.2.1 hk3 id) (cell_kept hS0.2.2 hk3 id))))
        have HK3 : Hid (Keeps (fun _ => False) w w3) := HK.out.drew.trans hk3 fun _ _ e => e
        clear hS hk3 HS hS0
        go_wp2
        go_roundw
        case rel => exact ⟨j + 1, by omega, rfl, by go_num, HK3.out⟩
        case measure => simp [intOf]; omega
    · have ejN : m = j := by omega
      subst ejN
      obtain ⟨w0, hw0⟩ : ∃ x, x = wr := ⟨_, rfl⟩
      rw [← hw0] at c4 c5 ⊢
      have HA0 : Hid (Keeps (fun _ => False) w w0) := by rw [hw0]; exact hK
      clear hb hK hw0 HK
      go_wp2_with fail
      go_loopw [3, 6] (fun ok i wr => ∃ j : Nat, j ≤ n ∧ ok = .bool true ∧ i = .int .i64 (j : Int) ∧ Keeps (fun _ => False) w wr) (fun _ i _ => n - (intOf i).toNat)
      case atStart => exact ⟨0, by omega, rfl, rfl, HA0.out⟩
      case round =>
        obtain ⟨j, hj, rfl, rfl, hK⟩ := hrel
        have HK : Hid (Keeps (fun _ => False) w wr) := hK
        have hb := H.out.k.same hK
        have c4 := hb.b.cell H.out.c4
        have c5 := hb.b.cell H.out.c5
        by_cases hlt : j < n
        · as_aux_lemma =>
            have hlt' : (j : Int) < n := by omega
            obtain ⟨e, he⟩ : ∃ e, eW[j]? = some e := ⟨_, List.getElem?_eq_getElem (by have := H.out.hn; omega)⟩
            obtain ⟨hka, hkB, -⟩ := hb.r (by intro e0; rw [e0] at he; simp at he)
            obtain ⟨-, q1, q2, xs, hxs⟩ := H.out.qk j e he
            have c0 := hkB.cell (hb.g j e he)
            have c1 := hkB.cell q1
            have hlen := H.out.k.len j e he
            obtain ⟨wa, wc, hwv, -, -⟩ := own_slice q2
            have r0 := owns_kept (hb.l j e he).2 ((Keeps.refl (fun _ => False) wr).drew) fun _ _ e => e
            have f0 : fM (frW NB w) 0 j e = e.xs := by unfold fM; rw [if_neg (by omega)]
            have r1 := owns_kept q2 hK.drew fun _ _ e => e
            rw [f0] at r0
            unfold Ent.lv at r0 c0
            rw [hwv] at r1 c1
            rw [hxs, wvs_length] at r0 r1 c0 c1 hlen
            have HS : Hid (Calls _ _ _ _ _) := sameWords_any e.a wa xs.length wc xs xs wr.drew (own_segW r0).2 (own_segW r1).2 (by unfold maxLen; omega) (by unfold maxLen; have := hlen; omega) rfl
            obtain ⟨nx, hnx⟩ : ∃ nx, nx = xs.length := ⟨_, rfl⟩
            rw [← hnx] at c0 c1 HS
            subst hka
            have hS0 : wr.drew.cell? ⟨X, 5, none⟩ = some (.slice (some ⟨kw, 0, none⟩) n kc) ∧ wr.drew.cell? ⟨kw, j * 4, none⟩ = some (.slice e.a nx nx) ∧ wr.drew.cell? ⟨kw, j * 4 + 1, none⟩ = some (.slice wa nx wc) := ⟨c5, c0, c1⟩
            clear hK hb hkB he hlen hnx c0 c1 hwv r0 r1 f0 q1 q2 hxs
            go_wp2_with fail
            clear c4 c5
            go_region_held3 (fun w' => w'.cell? ⟨X, 5, none⟩ = some (.slice (some ⟨kw, 0, none⟩) n kc) ∧ w'.cell? ⟨kw, j * 4, none⟩ = some (.slice e.a nx nx) ∧ w'.cell? ⟨kw, j * 4 + 1, none⟩ = some (.slice wa nx wc)) (first | exact hS | exact hS0 | go_keep)
              (first | (go_at_call 37; refine HS.out.mono ?_; rintro e w3 ⟨rfl, hk3⟩; have hS := And.intro (cell_kept hS0.1 hk3 id) (And.intro (cell_kept hS0.2.1 hk3 id) (cell_kept hS0.2.2 hk3 id))))
            have HK3 : Hid (Keeps (fun _ => False) w w3) := HK.out.drew.trans hk3 fun _ _ e => e
            clear hS hk3 HS hS0
            go_wp2
            go_roundw
            case rel => exact ⟨j + 1, by omega, rfl, by go_num, HK3.out⟩
            case measure => simp [intOf]; omega
        · have ejN : n = j := by omega
          subst ejN
          obtain ⟨w1, hw1⟩ : ∃ x, x = wr := ⟨_, rfl⟩
          rw [← hw1] at c4 c5 ⊢
          have HA1 : Hid (Keeps (fun _ => False) w w1) := by rw [hw1]; exact hK
          clear hb hK hw1 HK
          go_wp2_with fail
          have HM0 : Hid (Bk (frB NB w) eB X kb cells ba (fM (frB NB w) 0) cs w1 ∧ (Bk (frW NB w) eW X kw cells ka (fM (frW NB w) 0) cw w1)) := ⟨H.out.b.same HA1.out, H.out.k.same HA1.out⟩
          go_loopw [8] (fun i wr => ∃ q : Nat, q ≤ m ∧ i = .int .i64 (q : Int) ∧ Bk (frB NB w) eB X kb cells ba (fM (frB NB w) q) cs wr ∧ (Bk (frW NB w) eW X kw cells ka (fM (frW NB w) 0) cw wr)) (fun i _ => m - (intOf i).toNat)
          case atStart => exact ⟨0, by omega, rfl, HM0.out⟩
          case round =>
            obtain ⟨q, hq, rfl, hbq, hoq⟩ := hrel
            obtain ⟨wC, hwC⟩ : ∃ x, x = wr := ⟨_, rfl⟩
            rw [← hwC] at hbq hoq ⊢
            have HC : Hid (Bk (frB NB w) eB X kb cells ba (fM (frB NB w) q) cs wC ∧ (Bk (frW NB w) eW X kw cells ka (fM (frW NB w) 0) cw wC)) := ⟨hbq, hoq⟩
            have c4 := hbq.b.cell H.out.c4
            have c5 := hbq.b.cell H.out.c5
            clear hwC
            by_cases hlt : q < m
            · as_aux_lemma =>
                have hlt' : (q : Int) < m := by omega
                obtain ⟨e, he⟩ : ∃ e, eB[q]? = some e := ⟨_, List.getElem?_eq_getElem (by have := H.out.hm; omega)⟩
                have HE : Hid (eB[q]? = some e) := he
                obtain ⟨hka, hkB, -⟩ := hbq.r (by intro e0; rw [e0] at he; simp at he)
                have hlen := H.out.b.len q e he
                obtain ⟨nx, hnx⟩ : ∃ nx, nx = e.xs.length := ⟨_, rfl⟩
                have HX : Hid (nx = e.xs.length) := hnx
                rw [← hnx] at hlen
                have hlI : (nx : Int) ≤ 4294967296 := by omega
                have c0 := hkB.cell (hbq.g q e he)
                unfold Ent.lv at c0
                rw [← hnx] at c0
                subst hka
                have hmk := mk_numB q
                obtain ⟨mt, hmt⟩ : ∃ mt : Nat, mt = (UInt8.ofNat (2 * q + 1)).toNat := ⟨_, rfl⟩
                have HM : Hid (mt = (UInt8.ofNat (2 * q + 1)).toNat) := hmt
                rw [← hmt] at hmk
                have hq2 : IntKind.i64.wrap (2 * (q : Int)) = 2 * (q : Int) := by rw [IntKind.wrap_i64]; omega
                have hq3 : IntKind.i64.wrap (2 * (q : Int) + 1) = 2 * (q : Int) + 1 := by rw [IntKind.wrap_i64]; omega
                clear hbq hoq hkB he hnx hlen hmt
                go_wp2_with fail
                go_loopw [9] (fun i wr => ∃ t : Nat, t ≤ nx ∧ i = .int .i64 (t : Int) ∧ wr.ownsRow 0 5 1 e.lv e.xs.length (List.replicate t ((frB NB w).M q) ++ e.xs.drop t) ∧ Keeps (fun k => some k = e.lv.ownBlock) wC wr) (fun i _ => nx - (intOf i).toNat)
                case atStart =>
                  refine ⟨0, by omega, rfl, ?_, Keeps.refl _ _⟩
                  have := (HC.out.1.l q e HE.out).2
                  unfold fM at this
                  rw [if_neg (by omega)] at this
                  rw [List.replicate_zero, List.nil_append, List.drop_zero]
                  exact this
                case round =>
                  obtain ⟨t, ht, rfl, hot, hKt⟩ := hrel
                  have hwbk := HC.out.1.wb q e HE.out
                  have hBc := HC.out.1.b.kept hKt fun e2 => hwbk.1 e2.symm
                  have c4 := hBc.cell H.out.c4
                  have c5 := hBc.cell H.out.c5
                  have hne0 : eB ≠ [] := by intro e0; have := HE.out; rw [e0] at this; simp at this
                  have c0 := ((HC.out.1.r hne0).2.1.kept hKt fun e2 => hwbk.2 e2.symm).cell (HC.out.1.g q e HE.out)
                  unfold Ent.lv at c0
                  rw [← HX.out] at c0
                  have HT : Hid (wr.ownsRow 0 5 1 e.lv e.xs.length (List.replicate t ((frB NB w).M q) ++ e.xs.drop t) ∧ Keeps (fun k => some k = e.lv.ownBlock) wC wr) := ⟨hot, hKt⟩
                  clear hBc
                  by_cases hltt : t < nx
                  · have hltt' : (t : Int) < nx := by omega
                    obtain ⟨g, l, hg, hBg, hnl⟩ := owns_blk hot (by have := HX.out; omega)
                    have zg := hBg.frozen t
                    have zc : (l[t]?).isSome = true := by have := HX.out; simp; omega
                    obtain ⟨lv0, hlv0⟩ := Option.isSome_iff_exists.1 zc
                    have cg := hBg.cell hlv0
                    rw [hg] at c0
                    have HN : Hid ((wr.setCell ⟨g, t, none⟩ (.int .u8 (mt : Int))).ownsRow 0 5 1 e.lv e.xs.length (List.replicate (t + 1) ((frB NB w).M q) ++ e.xs.drop (t + 1)) ∧ Keeps (fun k => some k = e.lv.ownBlock) wC (wr.setCell ⟨g, t, none⟩ (.int .u8 (mt : Int)))) := by
                      have hlv : e.lv = .slice (some ⟨g, 0, none⟩) e.xs.length e.xs.length := by unfold Ent.lv; rw [hg]
                      refine ⟨?_, hKt.setCell _ _ fun _ => by rw [hlv]; rfl⟩
                      rw [← fill_setV e.xs ((frB NB w).M q) t (by have := HX.out; omega), hlv, HM.out]
                      rw [hlv] at hot
                      exact owns_setV hot t _ (by have := HX.out; omega)
                    clear hot hKt hwbk hBg hnl zc hlv0 hne0 hg
                    go_wp2
                    go_roundw
                    case rel => exact ⟨t + 1, by omega, by go_num, HN.out⟩
                    case measure => simp [intOf]; omega
                  · have etn : nx = t := by omega
                    subst etn
                    clear hot hKt hwbk hne0
                    have HU : Hid (Bk (frB NB w) eB X kb cells (some ⟨kb, 0, none⟩) (fM (frB NB w) (q + 1)) cs wr ∧ (Bk (frW NB w) eW X kw cells ka (fM (frW NB w) 0) cw wr)) := by
                      have hfq : fM (frB NB w) (q + 1) q e = List.replicate e.xs.length ((frB NB w).M q) := by unfold fM; rw [if_pos (by omega)]
                      refine ⟨HC.out.1.upd HE.out HT.out.2 ?_ (by rw [hfq, List.length_replicate]) ?_, H.out.keepW HC.out.2 HE.out HT.out.2 fun _ h => .inl h⟩
                      · rw [hfq]
                        have := HT.out.1
                        rw [HX.out, List.drop_length, List.append_nil] at this
                        exact this
                      · intro k e' hk
                        unfold fM
                        by_cases h1 : k < q
                        · rw [if_pos h1, if_pos (by omega)]
                        · rw [if_neg h1, if_neg (by omega)]
                    go_wp2
                    go_roundw
                    case rel => exact ⟨q + 1, by omega, by go_num, HU.out⟩
                    case measure => simp [intOf]; omega
            · have eqN : m = q := by omega
              subst eqN
              obtain ⟨wM0, hwM⟩ : ∃ x, x = wC := ⟨_, rfl⟩
              rw [← hwM] at c4 c5 ⊢
              have HE0 : Hid (Bk (frB NB w) eB X kb cells ba (fM (frB NB w) m) cs wM0 ∧ (Bk (frW NB w) eW X kw cells ka (fM (frW NB w) 0) cw wM0)) := by rw [hwM]; exact HC.out
              clear hwM hbq hoq HC
              go_wp2_with fail
              have HM1 : Hid (Bk (frW NB w) eW X kw cells ka (fM (frW NB w) 0) cw wM0 ∧ (Bk (frB NB w) eB X kb cells ba (fM (frB NB w) m) cs wM0)) := ⟨HE0.out.2, HE0.out.1⟩
              go_loopw [10] (fun i wr => ∃ q : Nat, q ≤ n ∧ i = .int .i64 (q : Int) ∧ Bk (frW NB w) eW X kw cells ka (fM (frW NB w) q) cw wr ∧ (Bk (frB NB w) eB X kb cells ba (fM (frB NB w) m) cs wr)) (fun i _ => n - (intOf i).toNat)
              case atStart => exact ⟨0, by omega, rfl, HM1.out⟩
              case round =>
                obtain ⟨q, hq, rfl, hbq, hoq⟩ := hrel
                obtain ⟨wC, hwC⟩ : ∃ x, x = wr := ⟨_, rfl⟩
                rw [← hwC] at hbq hoq ⊢
                have HC : Hid (Bk (frW NB w) eW X kw cells ka (fM (frW NB w) q) cw wC ∧ (Bk (frB NB w) eB X kb cells ba (fM (frB NB w) m) cs wC)) := ⟨hbq, hoq⟩
                have c4 := hbq.b.cell H.out.c4
                have c5 := hbq.b.cell H.out.c5
                clear hwC
                by_cases hlt : q < n
                · as_aux_lemma =>
                    have hlt' : (q : Int) < n := by omega
                    obtain ⟨e, he⟩ : ∃ e, eW[q]? = some e := ⟨_, List.getElem?_eq_getElem (by have := H.out.hn; omega)⟩
                    have HE : Hid (eW[q]? = some e) := he
                    obtain ⟨hka, hkB, -⟩ := hbq.r (by intro e0; rw [e0] at he; simp at he)
                    have hlen := H.out.k.len q e he
                    obtain ⟨nx, hnx⟩ : ∃ nx, nx = e.xs.length := ⟨_, rfl⟩
                    have HX : Hid (nx = e.xs.length) := hnx
                    rw [← hnx] at hlen
                    have hlI : (nx : Int) ≤ 4294967296 := by omega
                    have c0 := hkB.cell (hbq.g q e he)
                    unfold Ent.lv at c0
                    rw [← hnx] at c0
                    subst hka
                    have hmk := mk_numW q
                    obtain ⟨mt, hmt⟩ : ∃ mt : Nat, mt = (UInt32.ofNat (2 * q + 2684354561)).toNat := ⟨_, rfl⟩
                    have HM : Hid (mt = (UInt32.ofNat (2 * q + 2684354561)).toNat) := hmt
                    rw [← hmt] at hmk
                    have hq2 : IntKind.i64.wrap (2 * (q : Int)) = 2 * (q : Int) := by rw [IntKind.wrap_i64]; omega
                    have hq3 : True := trivial
                    clear hbq hoq hkB he hnx hlen hmt
                    go_wp2_with fail
                    go_loopw [11] (fun i wr => ∃ t : Nat, t ≤ nx ∧ i = .int .i64 (t : Int) ∧ wr.ownsRow 0 36 1 e.lv e.xs.length (List.replicate t ((frW NB w).M q) ++ e.xs.drop t) ∧ Keeps (fun k => some k = e.lv.ownBlock) wC wr) (fun i _ => nx - (intOf i).toNat)
                    case atStart =>
                      refine ⟨0, by omega, rfl, ?_, Keeps.refl _ _⟩
                      have := (HC.out.1.l q e HE.out).2
                      unfold fM at this
                      rw [if_neg (by omega)] at this
                      rw [List.replicate_zero, List.nil_append, List.drop_zero]
                      exact this
                    case round =>
                      obtain ⟨t, ht, rfl, hot, hKt⟩ := hrel
                      have hwbk := HC.out.1.wb q e HE.out
                      have hBc := HC.out.1.b.kept hKt fun e2 => hwbk.1 e2.symm
                      have c4 := hBc.cell H.out.c4
                      have c5 := hBc.cell H.out.c5
                      have hne0 : eW ≠ [] := by intro e0; have := HE.out; rw [e0] at this; simp at this
                      have c0 := ((HC.out.1.r hne0).2.1.kept hKt fun e2 => hwbk.2 e2.symm).cell (HC.out.1.g q e HE.out)
                      unfold Ent.lv at c0
                      rw [← HX.out] at c0
                      have HT : Hid (wr.ownsRow 0 36 1 e.lv e.xs.length (List.replicate t ((frW NB w).M q) ++ e.xs.drop t) ∧ Keeps (fun k => some k = e.lv.ownBlock) wC wr) := ⟨hot, hKt⟩
                      clear hBc
                      by_cases hltt : t < nx
                      · have hltt' : (t : Int) < nx := by omega
                        obtain ⟨g, l, hg, hBg, hnl⟩ := owns_blk hot (by have := HX.out; omega)
                        have zg := hBg.frozen t
                        have zc : (l[t]?).isSome = true := by have := HX.out; simp; omega
                        obtain ⟨lv0, hlv0⟩ := Option.isSome_iff_exists.1 zc
                        have cg := hBg.cell hlv0
                        rw [hg] at c0
                        have HN : Hid ((wr.setCell ⟨g, t, none⟩ (.int .u32 (mt : Int))).ownsRow 0 36 1 e.lv e.xs.length (List.replicate (t + 1) ((frW NB w).M q) ++ e.xs.drop (t + 1)) ∧ Keeps (fun k => some k = e.lv.ownBlock) wC (wr.setCell ⟨g, t, none⟩ (.int .u32 (mt : Int)))) := by
                          have hlv : e.lv = .slice (some ⟨g, 0, none⟩) e.xs.length e.xs.length := by unfold Ent.lv; rw [hg]
                          refine ⟨?_, hKt.setCell _ _ fun _ => by rw [hlv]; rfl⟩
                          rw [← fill_setV e.xs ((frW NB w).M q) t (by have := HX.out; omega), hlv, HM.out]
                          rw [hlv] at hot
                          exact owns_setV hot t _ (by have := HX.out; omega)
                        clear hot hKt hwbk hBg hnl zc hlv0 hne0 hg
                        go_wp2
                        go_roundw
                        case rel => exact ⟨t + 1, by omega, by go_num, HN.out⟩
                        case measure => simp [intOf]; omega
                      · have etn : nx = t := by omega
                        subst etn
                        clear hot hKt hwbk hne0
                        have HU : Hid (Bk (frW NB w) eW X kw cells (some ⟨kw, 0, none⟩) (fM (frW NB w) (q + 1)) cw wr ∧ (Bk (frB NB w) eB X kb cells ba (fM (frB NB w) m) cs wr)) := by
                          have hfq : fM (frW NB w) (q + 1) q e = List.replicate e.xs.length ((frW NB w).M q) := by unfold fM; rw [if_pos (by omega)]
                          refine ⟨HC.out.1.upd HE.out HT.out.2 ?_ (by rw [hfq, List.length_replicate]) ?_, H.out.keepB HC.out.2 HE.out HT.out.2 fun _ h => .inl h⟩
                          · rw [hfq]
                            have := HT.out.1
                            rw [HX.out, List.drop_length, List.append_nil] at this
                            exact this
                          · intro k e' hk
                            unfold fM
                            by_cases h1 : k < q
                            · rw [if_pos h1, if_pos (by omega)]
                            · rw [if_neg h1, if_neg (by omega)]
                        go_wp2
                        go_roundw
                        case rel => exact ⟨q + 1, by omega, by go_num, HU.out⟩
                        case measure => simp [intOf]; omega
                · have eqN : n = q := by omega
                  subst eqN
                  obtain ⟨wM1, hwM⟩ : ∃ x, x = wC := ⟨_, rfl⟩
                  rw [← hwM] at c4 c5 ⊢
                  have HE1 : Hid (Bk (frW NB w) eW X kw cells ka (fM (frW NB w) n) cw wM1 ∧ (Bk (frB NB w) eB X kb cells ba (fM (frB NB w) m) cs wM1)) := by rw [hwM]; exact HC.out
                  clear hwM hbq hoq HC
                  go_wp2_with fail
                  have HB0 : Hid (Bk2 (frB NB w) eB X kb cells ba wM1.heap.size 0 cs wM1 ∧ (Bk (frW NB w) eW X kw cells ka (fM (frW NB w) n) cw wM1)) := ⟨⟨by rw [← H.out.hm]; exact HE1.out.2, fun k e b he hb => owns_lt (HE1.out.2.l k e he).2 hb, fun hne => (HE1.out.2.r hne).2.1.lt, Nat.le_refl _, fun k e hk => by omega, fun k e he => (H.out.qb k e he).1⟩, HE1.out.1⟩
                  obtain ⟨N0, hN0⟩ : ∃ N0, N0 = wM1.heap.size := ⟨_, rfl⟩
                  rw [← hN0] at HB0
                  have HN0 : Hid (w.heap.size ≤ N0) := by rw [hN0]; exact HE1.out.2.kp.size
                  clear hN0
                  go_loopw [12] (fun i wr => ∃ (p : Nat) (cs : List Value), p ≤ m ∧ i = .int .i64 (p : Int) ∧ Bk2 (frB NB w) eB X kb cells ba N0 p cs wr ∧ (Bk (frW NB w) eW X kw cells ka (fM (frW NB w) n) cw wr)) (fun i _ => m - (intOf i).toNat)
                  case atStart => exact ⟨0, _, by omega, rfl, HB0.out⟩
                  case round =>
                    obtain ⟨p, cp, hp, rfl, hbp, hop⟩ := hrel
                    obtain ⟨wE, hwE⟩ : ∃ x, x = wr := ⟨_, rfl⟩
                    rw [← hwE] at hbp hop ⊢
                    have HP : Hid (Bk2 (frB NB w) eB X kb cells ba N0 p cp wE ∧ (Bk (frW NB w) eW X kw cells ka (fM (frW NB w) n) cw wE)) := ⟨hbp, hop⟩
                    have c4 := hbp.bk.b.cell H.out.c4
                    have c5 := hbp.bk.b.cell H.out.c5
                    clear hwE
                    by_cases hlt : p < m
                    · as_aux_lemma =>
                        have hlt' : (p : Int) < m := by omega
                        obtain ⟨e, he⟩ : ∃ e, eB[p]? = some e := ⟨_, List.getElem?_eq_getElem (by have := H.out.hm; omega)⟩
                        have HE : Hid (eB[p]? = some e) := he
                        obtain ⟨hka, hkB, hkw⟩ := hbp.bk.r (by intro e0; rw [e0] at he; simp at he)
                        have hlen := H.out.b.len p e he
                        obtain ⟨nx, hnx⟩ : ∃ nx, nx = e.xs.length := ⟨_, rfl⟩
                        have HX : Hid (nx = e.xs.length) := hnx
                        rw [← hnx] at hlen
                        have hlI : (nx : Int) ≤ 4294967296 := by omega
                        have c0 := hkB.cell (hbp.bk.g p e he)
                        unfold Ent.lv at c0
                        rw [← hnx] at c0
                        subst hka
                        have hgk := gk_numB p
                        obtain ⟨gt, hgt⟩ : ∃ gt : Nat, gt = (UInt8.ofNat (2 * p + 2)).toNat := ⟨_, rfl⟩
                        have HG : Hid (((frB NB w).Gk p) = .int .u8 (gt : Int)) := by rw [hgt]; rfl
                        rw [← hgt] at hgk
                        have hp2 : IntKind.i64.wrap (2 * (p : Int)) = 2 * (p : Int) := by rw [IntKind.wrap_i64]; omega
                        have hp3 : IntKind.i64.wrap (2 * (p : Int) + 2) = 2 * (p : Int) + 2 := by rw [IntKind.wrap_i64]; omega
                        clear hbp hop hkB he hnx hlen hgt hkw
                        go_wp2_with fail
                        go_loopw [13, 14, 15] (fun v mv i wr => ∃ t : Nat, t ≤ 64 ∧ i = .int .i64 (t : Int) ∧ GrI 5 (fun _ => False) wE e.a e.xs.length (List.replicate e.xs.length ((frB NB w).M p)) ((frB NB w).Gk p) (min t 17) t v mv wr) (fun _ _ i _ => 64 - (intOf i).toNat)
                        case atStart =>
                          refine ⟨0, by omega, rfl, ?_⟩
                          have h1 := (HP.out.1.bk.l p e HE.out).2
                          have hfi : fM (frB NB w) eB.length p e = (List.replicate e.xs.length ((frB NB w).M p)) := by unfold fM; rw [if_pos (by have := H.out.hm; omega)]
                          rw [hfi] at h1
                          have h2 := GrI.start (et := 5) (fun _ => False) wE e.a e.xs.length (List.replicate e.xs.length ((frB NB w).M p)) ((frB NB w).Gk p) (by rw [List.length_replicate]; exact h1)
                          rw [List.length_replicate] at h2
                          rw [HX.out]
                          exact h2
                        case round =>
                          obtain ⟨t, ht, rfl, hGt⟩ := hrel
                          have hlo : ∀ b, (Value.slice e.a (List.replicate e.xs.length ((frB NB w).M p)).length e.xs.length).ownBlock = some b → b < wE.heap.size := by
                            intro b hb
                            exact Nat.lt_of_lt_of_le (HP.out.1.lt p e b HE.out (by rw [← hb]; exact own_any _ _ _ _ _)) HP.out.1.ge
                          have hlr : (List.replicate e.xs.length ((frB NB w).M p)).length ≤ 4294967296 := by rw [List.length_replicate]; have := HX.out; omega
                          by_cases hlt : t < 64
                          · have hltt' : (t : Int) < 64 := by omega
                            by_cases h17 : t < 17
                            · have h17' : (t : Int) < 17 := by omega
                              obtain ⟨v1, W1, hr1, hG1⟩ := GrI.one elemB rfl hGt hlo hlr (by omega)
                              obtain ⟨v2, W2, hr2, hG2⟩ := GrI.more elemB rfl hG1 hlo (by omega)
                              have HG2 : Hid (GrI 5 (fun _ => False) wE e.a e.xs.length (List.replicate e.xs.length ((frB NB w).M p)) ((frB NB w).Gk p) (min (t + 1) 17) (t + 1) v1 v2 W2) := by
                                rw [show min (t + 1) 17 = min t 17 + 1 by omega]; exact hG2
                              rw [HG.out] at hr1 hr2
                              have HR1 : Hid (∀ ty, _) := hr1
                              have HR2 : Hid (∀ ty, _) := hr2
                              clear hGt hG1 hG2 hr1 hr2 hlo hlr
                              go_wp2_with (at_builtin; go_must (refine wpList_append_run rfl (.tmp 185) (.tmp 190) 38 38 rfl u13 (.slice (some ⟨wr.heap.size, 0, none⟩) 1 1) v1 W1 rfl rfl HR1.out ?_; refine Hid.out ?_))
                              unfold Hid
                              clear HR1
                              go_wp2_with (at_builtin; go_must (refine wpList_append_run rfl (.tmp 192) (.tmp 197) 38 38 rfl u14 (.slice (some ⟨W1.heap.size, 0, none⟩) 1 1) v2 W2 rfl rfl HR2.out ?_; refine Hid.out ?_))
                              unfold Hid
                              clear HR2
                              go_wp2
                              go_roundw
                              case rel => exact ⟨t + 1, by omega, by go_num, HG2.out⟩
                              case measure => simp [intOf]; omega
                            · have h17' : ¬ (t : Int) < 17 := by omega
                              obtain ⟨v2, W2, hr2, hG2⟩ := GrI.more elemB rfl hGt hlo (by omega)
                              have HG2 : Hid (GrI 5 (fun _ => False) wE e.a e.xs.length (List.replicate e.xs.length ((frB NB w).M p)) ((frB NB w).Gk p) (min (t + 1) 17) (t + 1) u13 v2 W2) := by
                                rw [show min (t + 1) 17 = min t 17 by omega]; exact hG2
                              rw [HG.out] at hr2
                              have HR2 : Hid (∀ ty, _) := hr2
                              clear hGt hG2 hr2 hlo hlr
                              go_wp2_with (at_builtin; go_must (refine wpList_append_run rfl (.tmp 192) (.tmp 197) 38 38 rfl u14 (.slice (some ⟨wr.heap.size, 0, none⟩) 1 1) v2 W2 rfl rfl HR2.out ?_; refine Hid.out ?_))
                              unfold Hid
                              clear HR2
                              go_wp2
                              go_roundw
                              case rel => exact ⟨t + 1, by omega, by go_num, HG2.out⟩
                              case measure => simp [intOf]; omega
                          · have et64 : t = 64 := by omega
                            subst et64
                            rw [show min 64 17 = 17 from rfl] at hGt
                            have hne0 : eB ≠ [] := by intro e0; have := HE.out; rw [e0] at this; simp at this
                            have hun : (Value.slice e.a (List.replicate e.xs.length ((frB NB w).M p)).length e.xs.length).ownBlock ≠ some kb := by
                              rw [own_any _ _ _ e.xs.length e.xs.length]; exact (HP.out.1.bk.wb p e HE.out).2
                            have hunW : (Value.slice e.a (List.replicate e.xs.length ((frB NB w).M p)).length e.xs.length).ownBlock ≠ some X := by
                              rw [own_any _ _ _ e.xs.length e.xs.length]; exact (HP.out.1.bk.wb p e HE.out).1
                            have hkbE : kb < wE.heap.size := Nat.lt_of_lt_of_le (HP.out.1.kb hne0) HP.out.1.ge
                            have hkw := (HP.out.1.bk.r hne0).2.2
                            have hKG : Keeps (fun k => some k = (Value.slice e.a (List.replicate e.xs.length ((frB NB w).M p)).length e.xs.length).ownBlock ∨ False) wE wr := hGt.2.2.2.2.2
                            have hBw := HP.out.1.bk.b.kept hKG (fun e2 => e2.elim (fun e2 => hunW e2.symm) id)
                            have hBk := (HP.out.1.bk.r hne0).2.1.kept hKG (fun e2 => e2.elim (fun e2 => hun e2.symm) id)
                            obtain ⟨av, cv, hav, -, -⟩ := own_slice hGt.2.1
                            obtain ⟨am, cm, ham, -, -⟩ := own_slice hGt.2.2.1
                            obtain ⟨nv, hnv⟩ : ∃ nv, nv = (List.replicate e.xs.length ((frB NB w).M p)).length + 17 := ⟨_, rfl⟩
                            rw [← hnv] at hav
                            subst hav ham
                            obtain ⟨W2, hW2⟩ : ∃ W2, W2 = wr.setCell ⟨kb, p * 4 + 2, none⟩ (.slice av nv cv) := ⟨_, rfl⟩
                            have hKk : Keeps (· = kb) wr W2 := by rw [hW2]; exact (Keeps.refl _ _).setCell _ _ fun _ => rfl
                            have hGS := (hGt.store hun hkbE (p * 4 + 2) (.slice av nv cv))
                            rw [← hW2] at hGS
                            obtain ⟨v3, W3, hr3, hG3, hK3⟩ := GrI.last elemB rfl (hGS.same (Keeps.refl _ _).drew) hlo hlr
                            have hBk2 : Blk W2 kb (cp.set (p * 4 + 2) (.slice av nv cv)) (frB NB w).rt := by rw [hW2]; exact hBk.setCell _ _
                            have hBw2 : Blk W2 X cells 34 := hBw.kept hKk fun e2 => hkw e2.symm
                            have hBk3 : Blk W3 kb (cp.set (p * 4 + 2) (.slice av nv cv)) (frB NB w).rt := (hBk2.kept ((Keeps.refl (fun _ => False) W2).drew) id).kept hK3 fun e2 => hun e2.symm
                            have hBw3 : Blk W3 X cells 34 := (hBw2.kept ((Keeps.refl (fun _ => False) W2).drew) id).kept hK3 fun e2 => hunW e2.symm
                            have hst := HP.out.1.step HE.out hGt hG3 hBk3
                            have hcl := HP.out.1.cl p e HE.out
                            obtain ⟨a3, c3, ha3, -, -⟩ := own_slice hG3.2.2.1
                            obtain ⟨n3, hn3⟩ : ∃ n3, n3 = (List.replicate e.xs.length ((frB NB w).M p)).length + 64 := ⟨_, rfl⟩
                            rw [← hn3] at ha3
                            subst ha3
                            obtain ⟨W4, hW4⟩ : ∃ W4, W4 = W3.setCell ⟨kb, p * 4 + 3, none⟩ (.slice a3 n3 c3) := ⟨_, rfl⟩
                            rw [← hW4] at hst
                            have hK4 : Keeps (· = kb) W3 W4 := by rw [hW4]; exact (Keeps.refl _ _).setCell _ _ fun _ => rfl
                            have hKall : Keeps (fun k => some k = e.lv.ownBlock ∨ k = kb) wE W4 := by
                              have h5 := hG3.2.2.2.2.2
                              rw [own_any _ _ _ e.xs.length e.xs.length] at h5
                              exact h5.trans hK4 fun _ _ e => .inr e
                            have hBk4 : Blk W4 kb ((cp.set (p * 4 + 2) (.slice av nv cv)).set (p * 4 + 3) (.slice a3 n3 c3)) (frB NB w).rt := by rw [hW4]; exact hBk3.setCell _ _
                            have HST : Hid (Bk2 (frB NB w) eB X kb cells (some ⟨kb, 0, none⟩) N0 (p + 1) ((cp.set (p * 4 + 2) (.slice av nv cv)).set (p * 4 + 3) (.slice a3 n3 c3)) W4 ∧ (Bk (frW NB w) eW X kw cells ka (fM (frW NB w) n) cw W4)) := ⟨hst, H.out.keepW HP.out.2 HE.out hKall fun k h => h⟩
                            have g0 := HP.out.1.bk.g p e HE.out
                            have c4 := hBw.cell H.out.c4
                            have c5 := hBw.cell H.out.c5
                            have c0 := hBk.cell g0
                            obtain ⟨x2, hx2⟩ : ∃ x2, cp[p * 4 + 2]? = some x2 := ⟨_, List.getElem?_eq_getElem (by omega)⟩
                            have c2 := hBk.cell hx2
                            have z2 := hBk.frozen (p * 4 + 2)
                            have z3 := hBk3.frozen (p * 4 + 3)
                            obtain ⟨x3, hx3⟩ : ∃ x3, (cp.set (p * 4 + 2) (.slice av nv cv))[p * 4 + 3]? = some x3 := ⟨_, List.getElem?_eq_getElem (by rw [List.length_set]; omega)⟩
                            have cx3 := hBk3.cell hx3
                            have hBk2d := hBk2.kept ((Keeps.refl (fun _ => False) W2).drew) id
                            have hBw2d := hBw2.kept ((Keeps.refl (fun _ => False) W2).drew) id
                            have hS2 : W2.drew.cell? ⟨X, 4, none⟩ = some (.slice (some ⟨kb, 0, none⟩) m bc) ∧ W2.drew.cell? ⟨kb, p * 4, none⟩ = some (.slice e.a nx nx) := ⟨hBw2d.cell H.out.c4, by
                              rw [HX.out]; exact hBk2d.cell (by rw [List.getElem?_set_ne (by omega)]; exact g0)⟩
                            have hS3 : W3.cell? ⟨X, 4, none⟩ = some (.slice (some ⟨kb, 0, none⟩) m bc) ∧ W3.cell? ⟨kb, p * 4, none⟩ = some (.slice e.a nx nx) := ⟨hBw3.cell H.out.c4, by
                              rw [HX.out]; exact hBk3.cell (by rw [List.getElem?_set_ne (by omega)]; exact g0)⟩
                            have hS4 : W4.cell? ⟨X, 4, none⟩ = some (.slice (some ⟨kb, 0, none⟩) m bc) ∧ W4.cell? ⟨kb, p * 4, none⟩ = some (.slice e.a nx nx) := ⟨cell_kept (S := (· = kb)) hS3.1 hK4 fun e2 => hkw e2.symm, by
                              rw [HX.out]; exact hBk4.cell (by rw [List.getElem?_set_ne (by omega), List.getElem?_set_ne (by omega)]; exact g0)⟩
                            unfold Ent.lv at c0
                            rw [List.length_replicate, ← HX.out] at hr3
                            rw [← HX.out] at c0
                            have HR3 : Hid (∀ ty, _) := hr3
                            have HW2 : Hid (W2 = wr.setCell ⟨kb, p * 4 + 2, none⟩ (.slice av nv cv)) := hW2
                            have HW4 : Hid (W4 = W3.setCell ⟨kb, p * 4 + 3, none⟩ (.slice a3 n3 c3)) := hW4
                            have HS : Hid (_ ∧ _ ∧ _) := ⟨hS2, hS3, hS4⟩
                            clear hGt hne0 hun hunW hkbE hkw hKG hBw hBk hnv hKk hGS hr3 hG3 hK3 hBk2 hBw2 hBk3 hBw3 hst hx2 hx3 hcl hn3 hBk4 g0 hS2 hS3 hS4 hW2 hW4 hlo hlr hK4 hKall hBk2d hBw2d
                            go_wp2_with fail
                            rw [← HW2.out]
                            clear HW2
                            refine wp_region_held_drew (S := (fun w' => w'.cell? ⟨X, 4, none⟩ = some (.slice (some ⟨kb, 0, none⟩) m bc) ∧ w'.cell? ⟨kb, p * 4, none⟩ = some (.slice e.a nx nx))) Try.mixed HS.out.1 (fun hHeld => ?_)
                            simp only [List.size_toArray, List.length_cons, List.length_nil, Nat.reduceAdd, Array.replicate_succ, Array.replicate_zero, List.push_toArray, List.append_toArray, List.nil_append, List.cons_append]
                            refine hk 0 (.pointer (some ⟨X, 4, none⟩)) hHeld ?_
                            simp only [Act.put, List.setIfInBounds_toArray, List.set_cons_zero, List.set_cons_succ]
                            refine hk 1 (.pointer (some ⟨X, 4, none⟩)) hHeld ?_
                            simp only [Act.put, List.setIfInBounds_toArray, List.set_cons_zero, List.set_cons_succ]
                            refine hk 2 (.pointer (some ⟨X, 4, none⟩)) hHeld ?_
                            simp only [Act.put, List.setIfInBounds_toArray, List.set_cons_zero, List.set_cons_succ]
                            refine hk 3 (.slice (some ⟨kb, 0, none⟩) m bc) hHeld ?_
                            simp only [Act.put, List.setIfInBounds_toArray, List.set_cons_zero, List.set_cons_succ]
                            refine hk 4 (.int .i64 (p : Int)) hHeld ?_
                            simp only [Act.put, List.setIfInBounds_toArray, List.set_cons_zero, List.set_cons_succ]
                            refine hk 5 (.pointer (some ⟨X, 4, none⟩)) hHeld ?_
                            simp only [Act.put, List.setIfInBounds_toArray, List.set_cons_zero, List.set_cons_succ]
                            refine hk 6 (.pointer (some ⟨X, 4, none⟩)) hHeld ?_
                            simp only [Act.put, List.setIfInBounds_toArray, List.set_cons_zero, List.set_cons_succ]
                            refine hk 7 (.pointer (some ⟨X, 4, none⟩)) hHeld ?_
                            simp only [Act.put, List.setIfInBounds_toArray, List.set_cons_zero, List.set_cons_succ]
                            refine hk 8 (.slice (some ⟨kb, 0, none⟩) m bc) hHeld ?_
                            simp only [Act.put, List.setIfInBounds_toArray, List.set_cons_zero, List.set_cons_succ]
                            refine hk 9 (.int .i64 (p : Int)) hHeld ?_
                            simp only [Act.put, List.setIfInBounds_toArray, List.set_cons_zero, List.set_cons_succ]
                            refine hk 10 (.pointer (some ⟨kb, p * 4, none⟩)) hHeld ?_
                            simp only [Act.put, List.setIfInBounds_toArray, List.set_cons_zero, List.set_cons_succ]
                            refine hk 11 (.pointer (some ⟨kb, p * 4, none⟩)) hHeld ?_
                            simp only [Act.put, List.setIfInBounds_toArray, List.set_cons_zero, List.set_cons_succ]
                            refine hk 12 (.slice e.a nx nx) hHeld ?_
                            simp only [Act.put, List.setIfInBounds_toArray, List.set_cons_zero, List.set_cons_succ]
                            refine hk 13 (.slice am 64 cm) hHeld ?_
                            simp only [Act.put, List.setIfInBounds_toArray, List.set_cons_zero, List.set_cons_succ]
                            refine wpAnyH_ready (rs := [14]) (by kernel_rfl) (by simp) ?_
                            refine AllReadyH.cons rfl (fun Kq hK => ?_) AllReadyH.nil
                            rw [if_pos (by rfl)]
                            refine wp_append_run (.tmp 219) (.tmp 220) 38 38 rfl (.slice e.a nx nx) (.slice am 64 cm) (.slice a3 n3 c3) W3 rfl rfl HR3.out ?_
                            refine hK.out _ _ HS.out.2.1 (fun hHeld => ?_)
                            simp only [Act.put, List.setIfInBounds_toArray, List.set_cons_zero, List.set_cons_succ]
                            refine hk 15 (.pointer (some ⟨kb, p * 4, none⟩)) hHeld ?_
                            simp only [Act.put, List.setIfInBounds_toArray, List.set_cons_zero, List.set_cons_succ]
                            refine hk 16 (.pointer (some ⟨kb, p * 4 + 3, none⟩)) hHeld ?_
                            simp only [Act.put, List.setIfInBounds_toArray, List.set_cons_zero, List.set_cons_succ]
                            refine wpAnyH_ready (rs := [17]) (by kernel_rfl) (by simp) ?_
                            refine AllReadyH.cons rfl (fun Kq hK => ?_) AllReadyH.nil
                            go_simp
                            rw [← HW4.out]
                            refine hK.out _ _ HS.out.2.2 (fun hHeld => ?_)
                            simp only [Act.put, List.setIfInBounds_toArray, List.set_cons_zero, List.set_cons_succ]
                            refine wpAnyH_done (by kernel_rfl) ?_ _
                            clear hHeld hK HS HW4 HR3 c4 c5 c0 c2 cx3 z2 z3
                            go_wp2
                            go_roundw
                            case rel => exact ⟨p + 1, _, by omega, by go_num, HST.out⟩
                            case measure => simp [intOf]; omega
                    · have epN : m = p := by omega
                      subst epN
                      obtain ⟨wG0, hwG⟩ : ∃ x, x = wE := ⟨_, rfl⟩
                      rw [← hwG] at c4 c5 ⊢
                      obtain ⟨cb, hcb⟩ : ∃ x, x = cp := ⟨_, rfl⟩
                      have HG0 : Hid (Bk2 (frB NB w) eB X kb cells ba N0 m cb wG0 ∧ (Bk (frW NB w) eW X kw cells ka (fM (frW NB w) n) cw wG0)) := by rw [hwG, hcb]; exact HP.out
                      clear hwG hcb hbp hop HP
                      go_wp2_with fail
                      have HB1 : Hid (Bk2 (frW NB w) eW X kw cells ka wG0.heap.size 0 cw wG0 ∧ (Bk2 (frB NB w) eB X kb cells ba N0 m cb wG0)) := ⟨⟨by rw [← H.out.hn]; exact HG0.out.2, fun k e b he hb => owns_lt (HG0.out.2.l k e he).2 hb, fun hne => (HG0.out.2.r hne).2.1.lt, Nat.le_refl _, fun k e hk => by omega, fun k e he => (H.out.qk k e he).1⟩, HG0.out.1⟩
                      obtain ⟨N1, hN0⟩ : ∃ N1, N1 = wG0.heap.size := ⟨_, rfl⟩
                      rw [← hN0] at HB1
                      clear hN0
                      go_loopw [16] (fun i wr => ∃ (p : Nat) (cs : List Value), p ≤ n ∧ i = .int .i64 (p : Int) ∧ Bk2 (frW NB w) eW X kw cells ka N1 p cs wr ∧ (Bk2 (frB NB w) eB X kb cells ba N0 m cb wr)) (fun i _ => n - (intOf i).toNat)
                      case atStart => exact ⟨0, _, by omega, rfl, HB1.out⟩
                      case round =>
                        obtain ⟨p, cp, hp, rfl, hbp, hop⟩ := hrel
                        obtain ⟨wE, hwE⟩ : ∃ x, x = wr := ⟨_, rfl⟩
                        rw [← hwE] at hbp hop ⊢
                        have HP : Hid (Bk2 (frW NB w) eW X kw cells ka N1 p cp wE ∧ (Bk2 (frB NB w) eB X kb cells ba N0 m cb wE)) := ⟨hbp, hop⟩
                        have c4 := hbp.bk.b.cell H.out.c4
                        have c5 := hbp.bk.b.cell H.out.c5
                        clear hwE
                        by_cases hlt : p < n
                        · as_aux_lemma =>
                            have hlt' : (p : Int) < n := by omega
                            obtain ⟨e, he⟩ : ∃ e, eW[p]? = some e := ⟨_, List.getElem?_eq_getElem (by have := H.out.hn; omega)⟩
                            have HE : Hid (eW[p]? = some e) := he
                            obtain ⟨hka, hkB, hkw⟩ := hbp.bk.r (by intro e0; rw [e0] at he; simp at he)
                            have hlen := H.out.k.len p e he
                            obtain ⟨nx, hnx⟩ : ∃ nx, nx = e.xs.length := ⟨_, rfl⟩
                            have HX : Hid (nx = e.xs.length) := hnx
                            rw [← hnx] at hlen
                            have hlI : (nx : Int) ≤ 4294967296 := by omega
                            have c0 := hkB.cell (hbp.bk.g p e he)
                            unfold Ent.lv at c0
                            rw [← hnx] at c0
                            subst hka
                            have hgk := gk_numW p
                            obtain ⟨gt, hgt⟩ : ∃ gt : Nat, gt = (UInt32.ofNat (2 * p + 2684354562)).toNat := ⟨_, rfl⟩
                            have HG : Hid (((frW NB w).Gk p) = .int .u32 (gt : Int)) := by rw [hgt]; rfl
                            rw [← hgt] at hgk
                            have hp2 : IntKind.i64.wrap (2 * (p : Int)) = 2 * (p : Int) := by rw [IntKind.wrap_i64]; omega
                            have hp3 : True := trivial
                            clear hbp hop hkB he hnx hlen hgt hkw
                            go_wp2_with fail
                            go_loopw [17, 18, 19] (fun v mv i wr => ∃ t : Nat, t ≤ 64 ∧ i = .int .i64 (t : Int) ∧ GrI 36 (fun _ => False) wE e.a e.xs.length (List.replicate e.xs.length ((frW NB w).M p)) ((frW NB w).Gk p) (min t 17) t v mv wr) (fun _ _ i _ => 64 - (intOf i).toNat)
                            case atStart =>
                              refine ⟨0, by omega, rfl, ?_⟩
                              have h1 := (HP.out.1.bk.l p e HE.out).2
                              have hfi : fM (frW NB w) eW.length p e = (List.replicate e.xs.length ((frW NB w).M p)) := by unfold fM; rw [if_pos (by have := H.out.hn; omega)]
                              rw [hfi] at h1
                              have h2 := GrI.start (et := 36) (fun _ => False) wE e.a e.xs.length (List.replicate e.xs.length ((frW NB w).M p)) ((frW NB w).Gk p) (by rw [List.length_replicate]; exact h1)
                              rw [List.length_replicate] at h2
                              rw [HX.out]
                              exact h2
                            case round =>
                              obtain ⟨t, ht, rfl, hGt⟩ := hrel
                              have hlo : ∀ b, (Value.slice e.a (List.replicate e.xs.length ((frW NB w).M p)).length e.xs.length).ownBlock = some b → b < wE.heap.size := by
                                intro b hb
                                exact Nat.lt_of_lt_of_le (HP.out.1.lt p e b HE.out (by rw [← hb]; exact own_any _ _ _ _ _)) HP.out.1.ge
                              have hlr : (List.replicate e.xs.length ((frW NB w).M p)).length ≤ 4294967296 := by rw [List.length_replicate]; have := HX.out; omega
                              by_cases hlt : t < 64
                              · have hltt' : (t : Int) < 64 := by omega
                                by_cases h17 : t < 17
                                · have h17' : (t : Int) < 17 := by omega
                                  obtain ⟨v1, W1, hr1, hG1⟩ := GrI.one elemW rfl hGt hlo hlr (by omega)
                                  obtain ⟨v2, W2, hr2, hG2⟩ := GrI.more elemW rfl hG1 hlo (by omega)
                                  have HG2 : Hid (GrI 36 (fun _ => False) wE e.a e.xs.length (List.replicate e.xs.length ((frW NB w).M p)) ((frW NB w).Gk p) (min (t + 1) 17) (t + 1) v1 v2 W2) := by
                                    rw [show min (t + 1) 17 = min t 17 + 1 by omega]; exact hG2
                                  rw [HG.out] at hr1 hr2
                                  have HR1 : Hid (∀ ty, _) := hr1
                                  have HR2 : Hid (∀ ty, _) := hr2
                                  clear hGt hG1 hG2 hr1 hr2 hlo hlr
                                  go_wp2_with (at_builtin; go_must (refine wpList_append_run rfl (.tmp 247) (.tmp 252) 39 39 rfl u17 (.slice (some ⟨wr.heap.size, 0, none⟩) 1 1) v1 W1 rfl rfl HR1.out ?_; refine Hid.out ?_))
                                  unfold Hid
                                  clear HR1
                                  go_wp2_with (at_builtin; go_must (refine wpList_append_run rfl (.tmp 254) (.tmp 259) 39 39 rfl u18 (.slice (some ⟨W1.heap.size, 0, none⟩) 1 1) v2 W2 rfl rfl HR2.out ?_; refine Hid.out ?_))
                                  unfold Hid
                                  clear HR2
                                  go_wp2
                                  go_roundw
                                  case rel => exact ⟨t + 1, by omega, by go_num, HG2.out⟩
                                  case measure => simp [intOf]; omega
                                · have h17' : ¬ (t : Int) < 17 := by omega
                                  obtain ⟨v2, W2, hr2, hG2⟩ := GrI.more elemW rfl hGt hlo (by omega)
                                  have HG2 : Hid (GrI 36 (fun _ => False) wE e.a e.xs.length (List.replicate e.xs.length ((frW NB w).M p)) ((frW NB w).Gk p) (min (t + 1) 17) (t + 1) u17 v2 W2) := by
                                    rw [show min (t + 1) 17 = min t 17 by omega]; exact hG2
                                  rw [HG.out] at hr2
                                  have HR2 : Hid (∀ ty, _) := hr2
                                  clear hGt hG2 hr2 hlo hlr
                                  go_wp2_with (at_builtin; go_must (refine wpList_append_run rfl (.tmp 254) (.tmp 259) 39 39 rfl u18 (.slice (some ⟨wr.heap.size, 0, none⟩) 1 1) v2 W2 rfl rfl HR2.out ?_; refine Hid.out ?_))
                                  unfold Hid
                                  clear HR2
                                  go_wp2
                                  go_roundw
                                  case rel => exact ⟨t + 1, by omega, by go_num, HG2.out⟩
                                  case measure => simp [intOf]; omega
                              · have et64 : t = 64 := by omega
                                subst et64
                                rw [show min 64 17 = 17 from rfl] at hGt
                                have hne0 : eW ≠ [] := by intro e0; have := HE.out; rw [e0] at this; simp at this
                                have hun : (Value.slice e.a (List.replicate e.xs.length ((frW NB w).M p)).length e.xs.length).ownBlock ≠ some kw := by
                                  rw [own_any _ _ _ e.xs.length e.xs.length]; exact (HP.out.1.bk.wb p e HE.out).2
                                have hunW : (Value.slice e.a (List.replicate e.xs.length ((frW NB w).M p)).length e.xs.length).ownBlock ≠ some X := by
                                  rw [own_any _ _ _ e.xs.length e.xs.length]; exact (HP.out.1.bk.wb p e HE.out).1
                                have hkbE : kw < wE.heap.size := Nat.lt_of_lt_of_le (HP.out.1.kb hne0) HP.out.1.ge
                                have hkw := (HP.out.1.bk.r hne0).2.2
                                have hKG : Keeps (fun k => some k = (Value.slice e.a (List.replicate e.xs.length ((frW NB w).M p)).length e.xs.length).ownBlock ∨ False) wE wr := hGt.2.2.2.2.2
                                have hBw := HP.out.1.bk.b.kept hKG (fun e2 => e2.elim (fun e2 => hunW e2.symm) id)
                                have hBk := (HP.out.1.bk.r hne0).2.1.kept hKG (fun e2 => e2.elim (fun e2 => hun e2.symm) id)
                                obtain ⟨av, cv, hav, -, -⟩ := own_slice hGt.2.1
                                obtain ⟨am, cm, ham, -, -⟩ := own_slice hGt.2.2.1
                                obtain ⟨nv, hnv⟩ : ∃ nv, nv = (List.replicate e.xs.length ((frW NB w).M p)).length + 17 := ⟨_, rfl⟩
                                rw [← hnv] at hav
                                subst hav ham
                                obtain ⟨W2, hW2⟩ : ∃ W2, W2 = wr.setCell ⟨kw, p * 4 + 2, none⟩ (.slice av nv cv) := ⟨_, rfl⟩
                                have hKk : Keeps (· = kw) wr W2 := by rw [hW2]; exact (Keeps.refl _ _).setCell _ _ fun _ => rfl
                                have hGS := (hGt.store hun hkbE (p * 4 + 2) (.slice av nv cv))
                                rw [← hW2] at hGS
                                obtain ⟨v3, W3, hr3, hG3, hK3⟩ := GrI.last elemW rfl (hGS.same (Keeps.refl _ _).drew) hlo hlr
                                have hBk2 : Blk W2 kw (cp.set (p * 4 + 2) (.slice av nv cv)) (frW NB w).rt := by rw [hW2]; exact hBk.setCell _ _
                                have hBw2 : Blk W2 X cells 34 := hBw.kept hKk fun e2 => hkw e2.symm
                                have hBk3 : Blk W3 kw (cp.set (p * 4 + 2) (.slice av nv cv)) (frW NB w).rt := (hBk2.kept ((Keeps.refl (fun _ => False) W2).drew) id).kept hK3 fun e2 => hun e2.symm
                                have hBw3 : Blk W3 X cells 34 := (hBw2.kept ((Keeps.refl (fun _ => False) W2).drew) id).kept hK3 fun e2 => hunW e2.symm
                                have hst := HP.out.1.step HE.out hGt hG3 hBk3
                                have hcl := HP.out.1.cl p e HE.out
                                obtain ⟨a3, c3, ha3, -, -⟩ := own_slice hG3.2.2.1
                                obtain ⟨n3, hn3⟩ : ∃ n3, n3 = (List.replicate e.xs.length ((frW NB w).M p)).length + 64 := ⟨_, rfl⟩
                                rw [← hn3] at ha3
                                subst ha3
                                obtain ⟨W4, hW4⟩ : ∃ W4, W4 = W3.setCell ⟨kw, p * 4 + 3, none⟩ (.slice a3 n3 c3) := ⟨_, rfl⟩
                                rw [← hW4] at hst
                                have hK4 : Keeps (· = kw) W3 W4 := by rw [hW4]; exact (Keeps.refl _ _).setCell _ _ fun _ => rfl
                                have hKall : Keeps (fun k => some k = e.lv.ownBlock ∨ k = kw) wE W4 := by
                                  have h5 := hG3.2.2.2.2.2
                                  rw [own_any _ _ _ e.xs.length e.xs.length] at h5
                                  exact h5.trans hK4 fun _ _ e => .inr e
                                have hBk4 : Blk W4 kw ((cp.set (p * 4 + 2) (.slice av nv cv)).set (p * 4 + 3) (.slice a3 n3 c3)) (frW NB w).rt := by rw [hW4]; exact hBk3.setCell _ _
                                have HST : Hid (Bk2 (frW NB w) eW X kw cells (some ⟨kw, 0, none⟩) N1 (p + 1) ((cp.set (p * 4 + 2) (.slice av nv cv)).set (p * 4 + 3) (.slice a3 n3 c3)) W4 ∧ (Bk2 (frB NB w) eB X kb cells ba N0 m cb W4)) := ⟨hst, H.out.keepB2 HP.out.2 HN0.out HE.out hKall fun k h => h⟩
                                have g0 := HP.out.1.bk.g p e HE.out
                                have c4 := hBw.cell H.out.c4
                                have c5 := hBw.cell H.out.c5
                                have c0 := hBk.cell g0
                                obtain ⟨x2, hx2⟩ : ∃ x2, cp[p * 4 + 2]? = some x2 := ⟨_, List.getElem?_eq_getElem (by omega)⟩
                                have c2 := hBk.cell hx2
                                have z2 := hBk.frozen (p * 4 + 2)
                                have z3 := hBk3.frozen (p * 4 + 3)
                                obtain ⟨x3, hx3⟩ : ∃ x3, (cp.set (p * 4 + 2) (.slice av nv cv))[p * 4 + 3]? = some x3 := ⟨_, List.getElem?_eq_getElem (by rw [List.length_set]; omega)⟩
                                have cx3 := hBk3.cell hx3
                                have hBk2d := hBk2.kept ((Keeps.refl (fun _ => False) W2).drew) id
                                have hBw2d := hBw2.kept ((Keeps.refl (fun _ => False) W2).drew) id
                                have hS2 : W2.drew.cell? ⟨X, 5, none⟩ = some (.slice (some ⟨kw, 0, none⟩) n kc) ∧ W2.drew.cell? ⟨kw, p * 4, none⟩ = some (.slice e.a nx nx) := ⟨hBw2d.cell H.out.c5, by
                                  rw [HX.out]; exact hBk2d.cell (by rw [List.getElem?_set_ne (by omega)]; exact g0)⟩
                                have hS3 : W3.cell? ⟨X, 5, none⟩ = some (.slice (some ⟨kw, 0, none⟩) n kc) ∧ W3.cell? ⟨kw, p * 4, none⟩ = some (.slice e.a nx nx) := ⟨hBw3.cell H.out.c5, by
                                  rw [HX.out]; exact hBk3.cell (by rw [List.getElem?_set_ne (by omega)]; exact g0)⟩
                                have hS4 : W4.cell? ⟨X, 5, none⟩ = some (.slice (some ⟨kw, 0, none⟩) n kc) ∧ W4.cell? ⟨kw, p * 4, none⟩ = some (.slice e.a nx nx) := ⟨cell_kept (S := (· = kw)) hS3.1 hK4 fun e2 => hkw e2.symm, by
                                  rw [HX.out]; exact hBk4.cell (by rw [List.getElem?_set_ne (by omega), List.getElem?_set_ne (by omega)]; exact g0)⟩
                                unfold Ent.lv at c0
                                rw [List.length_replicate, ← HX.out] at hr3
                                rw [← HX.out] at c0
                                have HR3 : Hid (∀ ty, _) := hr3
                                have HW2 : Hid (W2 = wr.setCell ⟨kw, p * 4 + 2, none⟩ (.slice av nv cv)) := hW2
                                have HW4 : Hid (W4 = W3.setCell ⟨kw, p * 4 + 3, none⟩ (.slice a3 n3 c3)) := hW4
                                have HS : Hid (_ ∧ _ ∧ _) := ⟨hS2, hS3, hS4⟩
                                clear hGt hne0 hun hunW hkbE hkw hKG hBw hBk hnv hKk hGS hr3 hG3 hK3 hBk2 hBw2 hBk3 hBw3 hst hx2 hx3 hcl hn3 hBk4 g0 hS2 hS3 hS4 hW2 hW4 hlo hlr hK4 hKall hBk2d hBw2d
                                go_wp2_with fail
                                rw [← HW2.out]
                                clear HW2
                                refine wp_region_held_drew (S := (fun w' => w'.cell? ⟨X, 5, none⟩ = some (.slice (some ⟨kw, 0, none⟩) n kc) ∧ w'.cell? ⟨kw, p * 4, none⟩ = some (.slice e.a nx nx))) Try.mixed HS.out.1 (fun hHeld => ?_)
                                simp only [List.size_toArray, List.length_cons, List.length_nil, Nat.reduceAdd, Array.replicate_succ, Array.replicate_zero, List.push_toArray, List.append_toArray, List.nil_append, List.cons_append]
                                refine hk 0 (.pointer (some ⟨X, 4, none⟩)) hHeld ?_
                                simp only [Act.put, List.setIfInBounds_toArray, List.set_cons_zero, List.set_cons_succ]
                                refine hk 1 (.pointer (some ⟨X, 4, none⟩)) hHeld ?_
                                simp only [Act.put, List.setIfInBounds_toArray, List.set_cons_zero, List.set_cons_succ]
                                refine hk 2 (.pointer (some ⟨X, 5, none⟩)) hHeld ?_
                                simp only [Act.put, List.setIfInBounds_toArray, List.set_cons_zero, List.set_cons_succ]
                                refine hk 3 (.slice (some ⟨kw, 0, none⟩) n kc) hHeld ?_
                                simp only [Act.put, List.setIfInBounds_toArray, List.set_cons_zero, List.set_cons_succ]
                                refine hk 4 (.int .i64 (p : Int)) hHeld ?_
                                simp only [Act.put, List.setIfInBounds_toArray, List.set_cons_zero, List.set_cons_succ]
                                refine hk 5 (.pointer (some ⟨X, 4, none⟩)) hHeld ?_
                                simp only [Act.put, List.setIfInBounds_toArray, List.set_cons_zero, List.set_cons_succ]
                                refine hk 6 (.pointer (some ⟨X, 4, none⟩)) hHeld ?_
                                simp only [Act.put, List.setIfInBounds_toArray, List.set_cons_zero, List.set_cons_succ]
                                refine hk 7 (.pointer (some ⟨X, 5, none⟩)) hHeld ?_
                                simp only [Act.put, List.setIfInBounds_toArray, List.set_cons_zero, List.set_cons_succ]
                                refine hk 8 (.slice (some ⟨kw, 0, none⟩) n kc) hHeld ?_
                                simp only [Act.put, List.setIfInBounds_toArray, List.set_cons_zero, List.set_cons_succ]
                                refine hk 9 (.int .i64 (p : Int)) hHeld ?_
                                simp only [Act.put, List.setIfInBounds_toArray, List.set_cons_zero, List.set_cons_succ]
                                refine hk 10 (.pointer (some ⟨kw, p * 4, none⟩)) hHeld ?_
                                simp only [Act.put, List.setIfInBounds_toArray, List.set_cons_zero, List.set_cons_succ]
                                refine hk 11 (.pointer (some ⟨kw, p * 4, none⟩)) hHeld ?_
                                simp only [Act.put, List.setIfInBounds_toArray, List.set_cons_zero, List.set_cons_succ]
                                refine hk 12 (.slice e.a nx nx) hHeld ?_
                                simp only [Act.put, List.setIfInBounds_toArray, List.set_cons_zero, List.set_cons_succ]
                                refine hk 13 (.slice am 64 cm) hHeld ?_
                                simp only [Act.put, List.setIfInBounds_toArray, List.set_cons_zero, List.set_cons_succ]
                                refine wpAnyH_ready (rs := [14]) (by kernel_rfl) (by simp) ?_
                                refine AllReadyH.cons rfl (fun Kq hK => ?_) AllReadyH.nil
                                rw [if_pos (by rfl)]
                                refine wp_append_run (.tmp 281) (.tmp 282) 39 39 rfl (.slice e.a nx nx) (.slice am 64 cm) (.slice a3 n3 c3) W3 rfl rfl HR3.out ?_
                                refine hK.out _ _ HS.out.2.1 (fun hHeld => ?_)
                                simp only [Act.put, List.setIfInBounds_toArray, List.set_cons_zero, List.set_cons_succ]
                                refine hk 15 (.pointer (some ⟨kw, p * 4, none⟩)) hHeld ?_
                                simp only [Act.put, List.setIfInBounds_toArray, List.set_cons_zero, List.set_cons_succ]
                                refine hk 16 (.pointer (some ⟨kw, p * 4 + 3, none⟩)) hHeld ?_
                                simp only [Act.put, List.setIfInBounds_toArray, List.set_cons_zero, List.set_cons_succ]
                                refine wpAnyH_ready (rs := [17]) (by kernel_rfl) (by simp) ?_
                                refine AllReadyH.cons rfl (fun Kq hK => ?_) AllReadyH.nil
                                go_simp
                                rw [← HW4.out]
                                refine hK.out _ _ HS.out.2.2 (fun hHeld => ?_)
                                simp only [Act.put, List.setIfInBounds_toArray, List.set_cons_zero, List.set_cons_succ]
                                refine wpAnyH_done (by kernel_rfl) ?_ _
                                clear hHeld hK HS HW4 HR3 c4 c5 c0 c2 cx3 z2 z3
                                go_wp2
                                go_roundw
                                case rel => exact ⟨p + 1, _, by omega, by go_num, HST.out⟩
                                case measure => simp [intOf]; omega
                        · have epN : n = p := by omega
                          subst epN
                          obtain ⟨wG1, hwG⟩ : ∃ x, x = wE := ⟨_, rfl⟩
                          rw [← hwG] at c4 c5 ⊢
                          obtain ⟨ck, hcb⟩ : ∃ x, x = cp := ⟨_, rfl⟩
                          have HG1 : Hid (Bk2 (frW NB w) eW X kw cells ka N1 n ck wG1 ∧ (Bk2 (frB NB w) eB X kb cells ba N0 m cb wG1)) := by rw [hwG, hcb]; exact HP.out
                          clear hwG hcb hbp hop HP
                          go_wp2_with fail
                          go_loopw [3, 20] (fun ok i wr => ∃ r : Nat, r ≤ m ∧ ok = .bool true ∧ i = .int .i64 (r : Int) ∧ Keeps (fun _ => False) wG1 wr) (fun _ i _ => m - (intOf i).toNat)
                          case atStart => exact ⟨0, by omega, rfl, rfl, Keeps.refl _ _⟩
                          case round =>
                            obtain ⟨r, hr, rfl, rfl, hKr⟩ := hrel
                            have HKr : Hid (Keeps (fun _ => False) wG1 wr) := hKr
                            have hbr := HG1.out.2.same hKr
                            have c4 := hbr.bk.b.cell H.out.c4
                            have c5 := hbr.bk.b.cell H.out.c5
                            by_cases hlt : r < m
                            · as_aux_lemma =>
                                have hlt' : (r : Int) < m := by omega
                                obtain ⟨e, he⟩ : ∃ e, eB[r]? = some e := ⟨_, List.getElem?_eq_getElem (by have := H.out.hm; omega)⟩
                                obtain ⟨hka, hkB, -⟩ := hbr.bk.r (by intro e0; rw [e0] at he; simp at he)
                                obtain ⟨one, many, hg1, hg2, hd1, hd2, -, -⟩ := hbr.done r e hlt he
                                have hlen := H.out.b.len r e he
                                have hl0 := (hbr.bk.l r e he).2
                                have hfi : fM (frB NB w) eB.length r e = List.replicate e.xs.length ((frB NB w).M r) := by unfold fM; rw [if_pos (by have := H.out.hm; omega)]
                                rw [hfi] at hl0
                                obtain ⟨nx, hnx⟩ : ∃ nx, nx = e.xs.length := ⟨_, rfl⟩
                                unfold Ent.lv at hl0
                                rw [← hnx] at hlen hl0 hd1 hd2
                                obtain ⟨a1, d1, rfl, -, -⟩ := own_slice hd1
                                obtain ⟨a2, d2, rfl, -, -⟩ := own_slice hd2
                                have c0 := hkB.cell (hbr.bk.g r e he)
                                have c2 := hkB.cell hg1
                                have c3 := hkB.cell hg2
                                unfold Ent.lv at c0
                                rw [← hnx] at c0
                                have s0 : Seg wr e.a (twoM nx 0 (UInt8.ofNat (2 * r + 1)) (UInt8.ofNat (2 * r + 2))) := by
                                  have h5 : wr.ownsRow 0 5 1 (.slice e.a nx nx) nx (bvs (twoM nx 0 (UInt8.ofNat (2 * r + 1)) (UInt8.ofNat (2 * r + 2)))) := by rw [two_b, List.replicate_zero, List.append_nil]; exact hl0
                                  exact (own_seg h5).2
                                have s1 : Seg wr a1 (twoM nx 17 (UInt8.ofNat (2 * r + 1)) (UInt8.ofNat (2 * r + 2))) := by
                                  have h5 : wr.ownsRow 0 5 1 (.slice a1 (nx + 17) d1) (nx + 17) (bvs (twoM nx 17 (UInt8.ofNat (2 * r + 1)) (UInt8.ofNat (2 * r + 2)))) := by rw [two_b]; exact hd1
                                  exact (own_seg h5).2
                                have s2 : Seg wr a2 (twoM nx 64 (UInt8.ofNat (2 * r + 1)) (UInt8.ofNat (2 * r + 2))) := by
                                  have h5 : wr.ownsRow 0 5 1 (.slice a2 (nx + 64) d2) (nx + 64) (bvs (twoM nx 64 (UInt8.ofNat (2 * r + 1)) (UInt8.ofNat (2 * r + 2)))) := by rw [two_b]; exact hd2
                                  exact (own_seg h5).2
                                have HA0 : ∀ w', Keeps (fun _ => False) wr w' → Calls _ _ _ w' _ := fun w' hk' => allBytes_any e.a nx nx 0 (UInt8.ofNat (2 * r + 1)) (UInt8.ofNat (2 * r + 2)) w' (s0.kept hk' fun _ _ e => e) (by unfold maxLen; omega)
                                have HA1 : ∀ w', Keeps (fun _ => False) wr w' → Calls _ _ _ w' _ := fun w' hk' => allBytes_any a1 d1 nx 17 (UInt8.ofNat (2 * r + 1)) (UInt8.ofNat (2 * r + 2)) w' (s1.kept hk' fun _ _ e => e) (by unfold maxLen; omega)
                                have HA2 : ∀ w', Keeps (fun _ => False) wr w' → Calls _ _ _ w' _ := fun w' hk' => allBytes_any a2 d2 nx 64 (UInt8.ofNat (2 * r + 1)) (UInt8.ofNat (2 * r + 2)) w' (s2.kept hk' fun _ _ e => e) (by unfold maxLen; omega)
                                have hmk := mk_numB r
                                have hgk := gk_numB r
                                obtain ⟨mt, hmt⟩ : ∃ mt : Nat, mt = (UInt8.ofNat (2 * r + 1)).toNat := ⟨_, rfl⟩
                                obtain ⟨gt, hgt⟩ : ∃ gt : Nat, gt = (UInt8.ofNat (2 * r + 2)).toNat := ⟨_, rfl⟩
                                rw [← hmt, ← hgt] at HA0 HA1 HA2
                                rw [← hmt] at hmk
                                rw [← hgt] at hgk
                                rw [Nat.add_zero] at HA0
                                obtain ⟨n1, hn1⟩ : ∃ n1, n1 = nx + 17 := ⟨_, rfl⟩
                                obtain ⟨n2, hn2⟩ : ∃ n2, n2 = nx + 64 := ⟨_, rfl⟩
                                rw [← hn1] at HA1 c2
                                rw [← hn2] at HA2 c3
                                have HA0 : Hid (∀ w', _) := HA0
                                have HA1 : Hid (∀ w', _) := HA1
                                have HA2 : Hid (∀ w', _) := HA2
                                have HC : Hid (_ ∧ _ ∧ _ ∧ _) := ⟨c4, c0, c2, c3⟩
                                have hp2 : IntKind.i64.wrap (2 * (r : Int)) = 2 * (r : Int) := by rw [IntKind.wrap_i64]; omega
                                have hq3 : IntKind.i64.wrap (2 * (r : Int) + 1) = 2 * (r : Int) + 1 := by rw [IntKind.wrap_i64]; omega
                                have hq4 : IntKind.i64.wrap (2 * (r : Int) + 2) = 2 * (r : Int) + 2 := by rw [IntKind.wrap_i64]; omega
                                subst hka
                                clear hKr hbr hkB he hg1 hg2 hd1 hd2 hlen hl0 hfi hnx s0 s1 s2 hmt hgt hn1 hn2
                                go_wp2_with fail
                                refine (HA0.out _ (Keeps.refl _ _)).mono ?_
                                rintro e1 w1 ⟨rfl, hk1⟩
                                have HK1 : Hid (Keeps (fun _ => False) wr w1) := hk1
                                have c5' := cell_kept HC.out.1 hk1 id
                                have c2' := cell_kept HC.out.2.2.1 hk1 id
                                clear hk1 c4 c5 c0 c2 c3
                                go_wp2_with fail
                                refine (HA1.out _ HK1.out).mono ?_
                                rintro e1 w2 ⟨rfl, hk2⟩
                                have HK2 : Hid (Keeps (fun _ => False) wr w2) := HK1.out.trans hk2 fun _ _ e => e
                                have c5'' := cell_kept HC.out.1 HK2.out id
                                have c3'' := cell_kept HC.out.2.2.2 HK2.out id
                                clear hk2 c5' c2'
                                go_wp2_with fail
                                refine (HA2.out _ HK2.out).mono ?_
                                rintro e1 w3 ⟨rfl, hk3⟩
                                have HK3 : Hid (Keeps (fun _ => False) wG1 w3) := HKr.out.trans (HK2.out.trans hk3 fun _ _ e => e) fun _ _ e => e
                                clear hk3 c5'' c3''
                                go_wp2
                                go_roundw
                                case rel => exact ⟨r + 1, by omega, rfl, by go_num, HK3.out⟩
                                case measure => simp [intOf]; omega
                            · have erN : m = r := by omega
                              subst erN
                              obtain ⟨wH, hwH⟩ : ∃ x, x = wr := ⟨_, rfl⟩
                              rw [← hwH] at c4 c5 ⊢
                              have HKC : Hid (Keeps (fun _ => False) wG1 wH) := by rw [hwH]; exact hKr
                              clear hwH hbr hKr HKr
                              go_wp2_with fail
                              go_loopw [3, 25] (fun ok i wr => ∃ r : Nat, r ≤ n ∧ ok = .bool true ∧ i = .int .i64 (r : Int) ∧ Keeps (fun _ => False) wG1 wr) (fun _ i _ => n - (intOf i).toNat)
                              case atStart => exact ⟨0, by omega, rfl, rfl, HKC.out⟩
                              case round =>
                                obtain ⟨r, hr, rfl, rfl, hKr⟩ := hrel
                                have HKr : Hid (Keeps (fun _ => False) wG1 wr) := hKr
                                have hbr := HG1.out.1.same hKr
                                have c4 := hbr.bk.b.cell H.out.c4
                                have c5 := hbr.bk.b.cell H.out.c5
                                by_cases hlt : r < n
                                · as_aux_lemma =>
                                    have hlt' : (r : Int) < n := by omega
                                    obtain ⟨e, he⟩ : ∃ e, eW[r]? = some e := ⟨_, List.getElem?_eq_getElem (by have := H.out.hn; omega)⟩
                                    obtain ⟨hka, hkB, -⟩ := hbr.bk.r (by intro e0; rw [e0] at he; simp at he)
                                    obtain ⟨one, many, hg1, hg2, hd1, hd2, -, -⟩ := hbr.done r e hlt he
                                    have hlen := H.out.k.len r e he
                                    have hl0 := (hbr.bk.l r e he).2
                                    have hfi : fM (frW NB w) eW.length r e = List.replicate e.xs.length ((frW NB w).M r) := by unfold fM; rw [if_pos (by have := H.out.hn; omega)]
                                    rw [hfi] at hl0
                                    obtain ⟨nx, hnx⟩ : ∃ nx, nx = e.xs.length := ⟨_, rfl⟩
                                    unfold Ent.lv at hl0
                                    rw [← hnx] at hlen hl0 hd1 hd2
                                    obtain ⟨a1, d1, rfl, -, -⟩ := own_slice hd1
                                    obtain ⟨a2, d2, rfl, -, -⟩ := own_slice hd2
                                    have c0 := hkB.cell (hbr.bk.g r e he)
                                    have c2 := hkB.cell hg1
                                    have c3 := hkB.cell hg2
                                    unfold Ent.lv at c0
                                    rw [← hnx] at c0
                                    have s0 : SegW wr e.a (twoW nx 0 (UInt32.ofNat (2 * r + 2684354561)) (UInt32.ofNat (2 * r + 2684354562))) := by
                                      have h5 : wr.ownsRow 0 36 1 (.slice e.a nx nx) nx (wvs (twoW nx 0 (UInt32.ofNat (2 * r + 2684354561)) (UInt32.ofNat (2 * r + 2684354562)))) := by rw [two_w, List.replicate_zero, List.append_nil]; exact hl0
                                      exact (own_segW h5).2
                                    have s1 : SegW wr a1 (twoW nx 17 (UInt32.ofNat (2 * r + 2684354561)) (UInt32.ofNat (2 * r + 2684354562))) := by
                                      have h5 : wr.ownsRow 0 36 1 (.slice a1 (nx + 17) d1) (nx + 17) (wvs (twoW nx 17 (UInt32.ofNat (2 * r + 2684354561)) (UInt32.ofNat (2 * r + 2684354562)))) := by rw [two_w]; exact hd1
                                      exact (own_segW h5).2
                                    have s2 : SegW wr a2 (twoW nx 64 (UInt32.ofNat (2 * r + 2684354561)) (UInt32.ofNat (2 * r + 2684354562))) := by
                                      have h5 : wr.ownsRow 0 36 1 (.slice a2 (nx + 64) d2) (nx + 64) (wvs (twoW nx 64 (UInt32.ofNat (2 * r + 2684354561)) (UInt32.ofNat (2 * r + 2684354562)))) := by rw [two_w]; exact hd2
                                      exact (own_segW h5).2
                                    have HA0 : ∀ w', Keeps (fun _ => False) wr w' → Calls _ _ _ w' _ := fun w' hk' => allWords_any e.a nx nx 0 (UInt32.ofNat (2 * r + 2684354561)) (UInt32.ofNat (2 * r + 2684354562)) w' (s0.kept hk' fun _ _ e => e) (by unfold maxLen; omega)
                                    have HA1 : ∀ w', Keeps (fun _ => False) wr w' → Calls _ _ _ w' _ := fun w' hk' => allWords_any a1 d1 nx 17 (UInt32.ofNat (2 * r + 2684354561)) (UInt32.ofNat (2 * r + 2684354562)) w' (s1.kept hk' fun _ _ e => e) (by unfold maxLen; omega)
                                    have HA2 : ∀ w', Keeps (fun _ => False) wr w' → Calls _ _ _ w' _ := fun w' hk' => allWords_any a2 d2 nx 64 (UInt32.ofNat (2 * r + 2684354561)) (UInt32.ofNat (2 * r + 2684354562)) w' (s2.kept hk' fun _ _ e => e) (by unfold maxLen; omega)
                                    have hmk := mk_numW r
                                    have hgk := gk_numW r
                                    obtain ⟨mt, hmt⟩ : ∃ mt : Nat, mt = (UInt32.ofNat (2 * r + 2684354561)).toNat := ⟨_, rfl⟩
                                    obtain ⟨gt, hgt⟩ : ∃ gt : Nat, gt = (UInt32.ofNat (2 * r + 2684354562)).toNat := ⟨_, rfl⟩
                                    rw [← hmt, ← hgt] at HA0 HA1 HA2
                                    rw [← hmt] at hmk
                                    rw [← hgt] at hgk
                                    rw [Nat.add_zero] at HA0
                                    obtain ⟨n1, hn1⟩ : ∃ n1, n1 = nx + 17 := ⟨_, rfl⟩
                                    obtain ⟨n2, hn2⟩ : ∃ n2, n2 = nx + 64 := ⟨_, rfl⟩
                                    rw [← hn1] at HA1 c2
                                    rw [← hn2] at HA2 c3
                                    have HA0 : Hid (∀ w', _) := HA0
                                    have HA1 : Hid (∀ w', _) := HA1
                                    have HA2 : Hid (∀ w', _) := HA2
                                    have HC : Hid (_ ∧ _ ∧ _ ∧ _) := ⟨c5, c0, c2, c3⟩
                                    have hp2 : IntKind.i64.wrap (2 * (r : Int)) = 2 * (r : Int) := by rw [IntKind.wrap_i64]; omega
                                    have hq3 : True := trivial
                                    have hq4 : True := trivial
                                    subst hka
                                    clear hKr hbr hkB he hg1 hg2 hd1 hd2 hlen hl0 hfi hnx s0 s1 s2 hmt hgt hn1 hn2
                                    go_wp2_with fail
                                    refine (HA0.out _ (Keeps.refl _ _)).mono ?_
                                    rintro e1 w1 ⟨rfl, hk1⟩
                                    have HK1 : Hid (Keeps (fun _ => False) wr w1) := hk1
                                    have c5' := cell_kept HC.out.1 hk1 id
                                    have c2' := cell_kept HC.out.2.2.1 hk1 id
                                    clear hk1 c4 c5 c0 c2 c3
                                    go_wp2_with fail
                                    refine (HA1.out _ HK1.out).mono ?_
                                    rintro e1 w2 ⟨rfl, hk2⟩
                                    have HK2 : Hid (Keeps (fun _ => False) wr w2) := HK1.out.trans hk2 fun _ _ e => e
                                    have c5'' := cell_kept HC.out.1 HK2.out id
                                    have c3'' := cell_kept HC.out.2.2.2 HK2.out id
                                    clear hk2 c5' c2'
                                    go_wp2_with fail
                                    refine (HA2.out _ HK2.out).mono ?_
                                    rintro e1 w3 ⟨rfl, hk3⟩
                                    have HK3 : Hid (Keeps (fun _ => False) wG1 w3) := HKr.out.trans (HK2.out.trans hk3 fun _ _ e => e) fun _ _ e => e
                                    clear hk3 c5'' c3''
                                    go_wp2
                                    go_roundw
                                    case rel => exact ⟨r + 1, by omega, rfl, by go_num, HK3.out⟩
                                    case measure => simp [intOf]; omega
                                · have erN : n = r := by omega
                                  subst erN
                                  go_wp2
                                  go_ret
                                  exact ⟨rfl, HG1.out.1.bk.kp.trans HKr.out fun _ _ e => e.elim⟩
end Go.Proofs.Ytonjmknjjdnjkaa
